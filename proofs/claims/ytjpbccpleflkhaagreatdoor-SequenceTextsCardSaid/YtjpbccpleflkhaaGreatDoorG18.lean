/- The reference's reading of a stroke. The reference's way of cutting and reading, as plain facts. Cut of the reference. Step of the reference. Parse of the reference. -/
import Derived.Test.YtjpbccpleflkhaaGreatDoorG16
import Derived.Test.YtjpbccpleflkhaaGreatDoorRL
import Derived.Test.YtjpbccpleflkhaaGreatDoorG05
namespace Sk
theorem rdS_none {p : List UInt8} (h : ∀ (k : Nat) (o : Bool), k < 6 → strT ((k : Int), o) ≠ p) : rdS p = none := by
  cases hr : rdS p with
  | none => rfl
  | some y =>
    exfalso
    have hs := strT_rdS hr
    unfold rdS at hr
    split at hr
    · rename_i a b
      split at hr
      · rename_i hab
        obtain ⟨h1, h2, h3⟩ := hab
        cases hr
        refine h (a.toNat - 65) (b == 43) (by omega) ?_
        rw [← hs]
        congr 1
        exact Prod.ext (by simp only; omega) rfl
      · cases hr
    · cases hr
end Sk
namespace Go.Proofs.YtjpbccpleflkhaaGreatDoor
open Go.RowKit
set_option maxHeartbeats 8000000 in
set_option maxRecDepth 100000 in
theorem rRd_any (s : ByteArray) (w : World) : Calls Tryz.prog 66 #[.string s] w (RdP s.data.toList w) := by
  have HYes := Lib.hid (fun (k : Nat) (o : Bool) (hk : k < 6) (h : Sk.strT ((k : Int), o) = s.data.toList) => show Sk.rdS s.data.toList = some ((k : Int), o) by rw [← h]; exact Sk.rdS_strT hk)
  have HNone := Lib.hid (fun h => Sk.rdS_none (p := s.data.toList) h)
  have HR := Lib.hid (resP_new w (.int .i64 0) (.bool false) 54)
  have HL := Lib.hid (allocB w (.cells #[.int .i64 0, .bool false] 54))
  go_enter Tryz.func66, Tryz.ntmps66
  go_wp2
  go_loopw [4] (fun s4 wr => ∃ i : Nat, i ≤ 6 ∧ s4 = .int .i64 (i : Int) ∧ Hid (∀ (k : Nat) (o : Bool), k < i → Sk.strT ((k : Int), o) ≠ s.data.toList) ∧ Hid (Below w.heap.size w wr) ∧ Hid (ResP wr w.heap.size (.int .i64 0) (.bool false))) (fun s4 _ => 6 - (intOf s4).toNat)
  case atStart => exact ⟨0, Nat.zero_le _, rfl, Lib.hid (fun k o h => by omega), HL, HR⟩
  case round =>
    clear HL HR
    obtain ⟨i, hi, rfl, HJ, HBW, HRW⟩ := hrel
    obtain ⟨wo, rfl⟩ : ∃ wo, wo = wr := ⟨_, rfl⟩
    by_cases hil : i < 6
    · have hiz : (i : Int) < 6 := by omega
      have hbc0 : (wo.alloc (.cells #[.bool false, .bool true] 4)).cell? ⟨wo.heap.size, 0, none⟩ = some (.bool false) := by simp
      have hbc1 : (wo.alloc (.cells #[.bool false, .bool true] 4)).cell? ⟨wo.heap.size, 1, none⟩ = some (.bool true) := by simp
      have HC0 := Lib.hid hbc0
      have HC1 := Lib.hid hbc1
      have HZb := Lib.hid (show wo.heap.size < (wo.alloc (.cells #[.bool false, .bool true] 4)).heap.size by simp)
      have HBA := Lib.hid (HBW.out.alloc HBW.out.size (.cells #[.bool false, .bool true] 4))
      have HRA := Lib.hid (HRW.out.step (allocB wo (.cells #[.bool false, .bool true] 4)))
      clear hbc0 hbc1
      go_wp2
      go_loopw [14] (fun s14 wq => ∃ j : Nat, j ≤ 2 ∧ s14 = .int .i64 (j : Int) ∧ Hid (∀ o : Bool, (if o then 1 else 0) < j → Sk.strT ((i : Int), o) ≠ s.data.toList) ∧ Hid (Below w.heap.size w wq) ∧ Hid (Below (wo.alloc (.cells #[.bool false, .bool true] 4)).heap.size (wo.alloc (.cells #[.bool false, .bool true] 4)) wq) ∧ Hid (ResP wq w.heap.size (.int .i64 0) (.bool false))) (fun s14 _ => 2 - (intOf s14).toNat)
      case atStart => exact ⟨0, Nat.zero_le _, rfl, Lib.hid (fun o h => by omega), HBA, Lib.hid (Below.refl _ _), HRA⟩
      case round =>
        clear HBA HRA
        obtain ⟨j, hj, rfl, HI, HBQ, HMQ, HRQ⟩ := hrel
        have e0 := (HMQ.out.cell (p := ⟨wo.heap.size, 0, none⟩) HZb.out).trans HC0.out
        have e1 := (HMQ.out.cell (p := ⟨wo.heap.size, 1, none⟩) HZb.out).trans HC1.out
        rcases (show j = 0 ∨ j = 1 ∨ j = 2 by omega) with rfl | rfl | rfl
        · skip
          have CW := fun W => Lib.hid (rWri_any i false hil W)
          obtain ⟨P1, L1, z1⟩ := boxP_new wr (.int .i64 (i : Int)) (.bool false) 54
          have HB1 := Lib.hid (below_nxt HBQ.out L1)
          have HR1 := Lib.hid (HRQ.out.step L1)
          have HP1 := Lib.hid P1
          have HM1 := Lib.hid (below_nxt HMQ.out L1)
          obtain ⟨p0, p1, p2⟩ := P1
          clear L1 z1
          by_cases heq : Sk.strT ((i : Int), false) = s.data.toList
          · have hy := HYes.out i false hil heq
            have hx : ((⟨(Sk.strT ((i : Int), false)).toArray⟩ : ByteArray).toList == s.toList) = true := by
              rw [ByteArray.toList_eq, ByteArray.toList_eq]
              simpa using heq
            generalize (⟨(Sk.strT ((i : Int), false)).toArray⟩ : ByteArray) = S at *
            go_wp2_with fail
            refine ((CW _).out).mono ?_
            rintro e w5 ⟨rfl, hb5⟩
            have HB5 := Lib.hid (below_nxt HB1.out hb5)
            have HR5 := Lib.hid (HR1.out.step hb5)
            clear p0 p1 p2
            obtain ⟨p0, p1, p2⟩ := HP1.out.step hb5
            obtain ⟨r0, r1, r2, r3, r4⟩ := HR5.out
            clear hb5 CW
            go_wp2
            obtain ⟨-, s1, s2, -, -⟩ := HR5.out.put (.int .i64 (i : Int)) (.bool false)
            exact bodyPost_ret (v := .tuple #[.agg #[.int .i64 (i : Int), .bool false], .bool true]) (by simp [results, Tryz.f66, go_sem, s1, s2]) rfl (RdP.yes hy ((HB5.out.setCell (p := ⟨w.heap.size, 0, none⟩) (by simp) _).setCell (p := ⟨w.heap.size, 1, none⟩) (by simp) _))
          · have hx : ((⟨(Sk.strT ((i : Int), false)).toArray⟩ : ByteArray).toList == s.toList) = false := by
              rw [ByteArray.toList_eq, ByteArray.toList_eq]
              simpa using heq
            have HI2 : Hid (∀ o : Bool, (if o then 1 else 0) < 0 + 1 → Sk.strT ((i : Int), o) ≠ s.data.toList) := Lib.hid (fun o ho => by
              cases o
              · exact heq
              · simp at ho)
            generalize (⟨(Sk.strT ((i : Int), false)).toArray⟩ : ByteArray) = S at *
            go_wp2_with fail
            refine ((CW _).out).mono ?_
            rintro e w5 ⟨rfl, hb5⟩
            have HB5 := Lib.hid (below_nxt HB1.out hb5)
            have HR5 := Lib.hid (HR1.out.step hb5)
            have HM5 := Lib.hid (below_nxt HM1.out hb5)
            clear p0 p1 p2 hb5 CW
            go_wp2
            exact ⟨⟨0 + 1, by omega, by first | rfl | go_num, HI2, HB5, HM5, HR5⟩, by simp [intOf]⟩
        · skip
          have CW := fun W => Lib.hid (rWri_any i true hil W)
          obtain ⟨P1, L1, z1⟩ := boxP_new wr (.int .i64 (i : Int)) (.bool true) 54
          have HB1 := Lib.hid (below_nxt HBQ.out L1)
          have HR1 := Lib.hid (HRQ.out.step L1)
          have HP1 := Lib.hid P1
          have HM1 := Lib.hid (below_nxt HMQ.out L1)
          obtain ⟨p0, p1, p2⟩ := P1
          clear L1 z1
          by_cases heq : Sk.strT ((i : Int), true) = s.data.toList
          · have hy := HYes.out i true hil heq
            have hx : ((⟨(Sk.strT ((i : Int), true)).toArray⟩ : ByteArray).toList == s.toList) = true := by
              rw [ByteArray.toList_eq, ByteArray.toList_eq]
              simpa using heq
            generalize (⟨(Sk.strT ((i : Int), true)).toArray⟩ : ByteArray) = S at *
            go_wp2_with fail
            refine ((CW _).out).mono ?_
            rintro e w5 ⟨rfl, hb5⟩
            have HB5 := Lib.hid (below_nxt HB1.out hb5)
            have HR5 := Lib.hid (HR1.out.step hb5)
            clear p0 p1 p2
            obtain ⟨p0, p1, p2⟩ := HP1.out.step hb5
            obtain ⟨r0, r1, r2, r3, r4⟩ := HR5.out
            clear hb5 CW
            go_wp2
            obtain ⟨-, s1, s2, -, -⟩ := HR5.out.put (.int .i64 (i : Int)) (.bool true)
            exact bodyPost_ret (v := .tuple #[.agg #[.int .i64 (i : Int), .bool true], .bool true]) (by simp [results, Tryz.f66, go_sem, s1, s2]) rfl (RdP.yes hy ((HB5.out.setCell (p := ⟨w.heap.size, 0, none⟩) (by simp) _).setCell (p := ⟨w.heap.size, 1, none⟩) (by simp) _))
          · have hx : ((⟨(Sk.strT ((i : Int), true)).toArray⟩ : ByteArray).toList == s.toList) = false := by
              rw [ByteArray.toList_eq, ByteArray.toList_eq]
              simpa using heq
            have HI2 : Hid (∀ o : Bool, (if o then 1 else 0) < 1 + 1 → Sk.strT ((i : Int), o) ≠ s.data.toList) := Lib.hid (fun o ho => by
              cases o
              · exact HI.out false (by decide)
              · exact heq)
            generalize (⟨(Sk.strT ((i : Int), true)).toArray⟩ : ByteArray) = S at *
            go_wp2_with fail
            refine ((CW _).out).mono ?_
            rintro e w5 ⟨rfl, hb5⟩
            have HB5 := Lib.hid (below_nxt HB1.out hb5)
            have HR5 := Lib.hid (HR1.out.step hb5)
            have HM5 := Lib.hid (below_nxt HM1.out hb5)
            clear p0 p1 p2 hb5 CW
            go_wp2
            exact ⟨⟨1 + 1, by omega, by first | rfl | go_num, HI2, HB5, HM5, HR5⟩, by simp [intOf]⟩
        · have HJ2 : Hid (∀ (k : Nat) (o : Bool), k < i + 1 → Sk.strT ((k : Int), o) ≠ s.data.toList) := Lib.hid (fun k o hk => by
            by_cases e : k = i
            · subst e
              exact HI.out o (by cases o <;> decide)
            · exact HJ.out k o (by omega))
          go_wp2
          exact ⟨⟨i + 1, by omega, by first | rfl | go_num, HJ2, HBQ, HRQ⟩, by simp [intOf]; omega⟩
    · obtain rfl : i = 6 := by omega
      have hn := HNone.out (fun k o hk => HJ.out k o hk)
      obtain ⟨r0, r1, r2, r3, r4⟩ := HRW.out
      go_wp2
      obtain ⟨-, s1, s2, -, -⟩ := HRW.out.put (.int .i64 0) (.bool false)
      exact bodyPost_ret (v := .tuple #[.agg #[.int .i64 0, .bool false], .bool false]) (by simp [results, Tryz.f66, go_sem, s1, s2]) rfl (RdP.no hn 0 false ((HBW.out.setCell (p := ⟨w.heap.size, 0, none⟩) (by simp) _).setCell (p := ⟨w.heap.size, 1, none⟩) (by simp) _))
end Go.Proofs.YtjpbccpleflkhaaGreatDoor

namespace Sk
open Go
theorem occ_drop (l sep : List UInt8) (a k : Nat) : Lib.occAt (l.drop a) sep k = Lib.occAt l sep (a + k) := by
  unfold Lib.occAt; rw [List.drop_drop]
theorem prt_hit {l sep : List UInt8} {f a i : Nat} (ha : a ≤ i) (hil : i ≤ l.length) (ho : Lib.occAt l sep i = true) (hno : ∀ j, a ≤ j → j < i → Lib.occAt l sep j = false) :
    prt l sep (f + 1) a = ((a : Int), (l.drop a).take (i - a)) :: prt l sep f (i + sep.length) := by
  have hi : Lib.index (l.drop a) sep = ((i - a : Nat) : Int) := Lib.index_first (by rw [List.length_drop]; omega) (by rw [occ_drop, show a + (i - a) = i by omega]; exact ho) (fun j hj => by rw [occ_drop]; exact hno _ (by omega) (by omega))
  have hc : Lib.cut (l.drop a) sep = ((l.drop a).take (i - a), (l.drop a).drop ((i - a) + sep.length), true) := by
    unfold Lib.cut
    rw [hi, if_pos (by omega), Int.toNat_natCast]
  have hlen : ((l.drop a).take (i - a)).length = i - a := by rw [List.length_take, List.length_drop]; omega
  rw [prt, hc]
  simp only [if_true]
  rw [hlen, show a + (i - a + sep.length) = i + sep.length by omega]
theorem prt_last {l sep : List UInt8} {f a : Nat} (hno : ∀ j, a ≤ j → j + sep.length ≤ l.length → Lib.occAt l sep j = false) (hs : 0 < sep.length) : prt l sep (f + 1) a = [((a : Int), l.drop a)] := by
  have hi : Lib.index (l.drop a) sep = -1 := Lib.index_none (fun j hj => by
    rw [occ_drop]
    by_cases h : a + j + sep.length ≤ l.length
    · exact hno _ (by omega) h
    · cases ho : Lib.occAt l sep (a + j) with
      | false => rfl
      | true =>
        exfalso
        rcases Lib.occAt_room ho with h' | h'
        · omega
        · subst h'; simp at hs)
  have hc : Lib.cut (l.drop a) sep = (l.drop a, [], false) := by unfold Lib.cut; rw [hi, if_neg (by decide)]
  rw [prt, hc]; simp
theorem occ_eq (l sep : List UInt8) (i : Nat) : Lib.occAt l sep i = decide ((l.drop i).take sep.length = sep) := by
  unfold Lib.occAt
  cases h : sep.isPrefixOf (l.drop i) with
  | true =>
    rw [List.isPrefixOf_iff_prefix] at h
    obtain ⟨t, ht⟩ := h
    rw [← ht]; simp
  | false =>
    symm
    rw [decide_eq_false_iff_not]
    intro e
    have : sep.isPrefixOf (l.drop i) = true := by
      rw [List.isPrefixOf_iff_prefix]
      exact ⟨(l.drop i).drop sep.length, by
        have h2 := List.take_append_drop sep.length (l.drop i)
        rw [e] at h2; exact h2⟩
    rw [this] at h; cases h
/-- The words of a step, as the reference reads them. -/
theorem runP_read {p : Int × List UInt8} {r : List (Int × List UInt8)} {L : List Str} {y : Str} (h : rdS p.2 = some y) : runP (p :: r) (L, 0) = runP r (L ++ [y], 0) := runP_on (stp1_str h)
theorem runP_bad {p : Int × List UInt8} {r : List (Int × List UInt8)} {L : List Str} (h : rdS p.2 = none) (h1 : (wtV p.2).2 = false ∨ L.length = 0 ∨ r ≠ []) : runP (p :: r) (L, 0) = none := by
  rcases h1 with h1 | h1 | h1
  · exact runP_stop (stp1_no h (.inl h1))
  · exact runP_stop (stp1_no h (.inr h1))
  · cases hw : (wtV p.2).2 with
    | false => exact runP_stop (stp1_no h (.inl hw))
    | true =>
      by_cases h0 : L.length = 0
      · exact runP_stop (stp1_no h (.inr h0))
      · rw [runP_on (stp1_num h hw h0)]
        obtain ⟨q, r', rfl⟩ := List.exists_cons_of_ne_nil h1
        exact runP_stop (stp1_wait ((wtV_bd p.2).2.2.1 hw) _)
theorem runP_end {p : Int × List UInt8} {L : List Str} (h : rdS p.2 = none) (h1 : (wtV p.2).2 = true) (h2 : L.length ≠ 0) : runP [p] (L, 0) = some (L, (wtV p.2).1) := by
  rw [runP_on (stp1_num h h1 h2)]; rfl
/-- What Step of the reference answers. -/
def stV (l : List UInt8) : Stp × Int := match rdP l with
  | none => (t0, 4)
  | some y => if chkP y.1 y.2 = 0 then (y, 0) else (t0, chkP y.1 y.2)
theorem ro_st {p : Int × List UInt8} {r : List (Int × List UInt8)} {L : List Stp} (h : L.length ≠ 64) : ro (p :: r) L = if (stV p.2).2 = 0 then ro r (L ++ [(stV p.2).1]) else ([], p.1, (stV p.2).2) := by
  unfold stV
  cases hr : rdP p.2 with
  | none => rw [ro_form h hr]; simp
  | some y =>
    simp only
    by_cases hc : chkP y.1 y.2 = 0
    · rw [ro_on h hr hc, if_pos hc]; simp
    · rw [ro_bad h hr hc, if_neg hc]; simp [hc]
/-- The offsets of parts. -/
def offs (k : Nat) : List (Int × List UInt8) → Nat → Prop
  | [], _ => True
  | p :: r, a => p.1 = (a : Int) ∧ offs k r (a + (p.2.length + k))
theorem offs_prt (l sep : List UInt8) : ∀ f a : Nat, offs sep.length (prt l sep f a) a
  | 0, _ => trivial
  | f + 1, a => by
    rw [prt]
    refine ⟨rfl, ?_⟩
    split
    · exact offs_prt l sep f _
    · trivial
theorem prt_pos (l sep : List UInt8) (f a : Nat) : 0 < (prt l sep (f + 1) a).length := by rw [prt]; simp
theorem prt_len (l sep : List UInt8) (hs : 0 < sep.length) : ∀ f a : Nat, a ≤ l.length → (prt l sep f a).length ≤ l.length + 1 - a
  | 0, a, h => by simp [prt]
  | f + 1, a, h => by
    rw [prt, List.length_cons]
    split
    · rename_i hc
      have h2 := cut_room hc
      rw [List.length_drop] at h2
      have := prt_len l sep hs f (a + ((Lib.cut (l.drop a) sep).1.length + sep.length)) (by omega)
      omega
    · simp; omega
theorem prt_sum (l sep : List UInt8) (hs : 0 < sep.length) : ∀ f a : Nat, a ≤ l.length → ∀ p ∈ prt l sep f a, p.2.length ≤ l.length
  | 0, a, h, p, hp => by simp [prt] at hp
  | f + 1, a, h, p, hp => by
    rw [prt, List.mem_cons] at hp
    rcases hp with rfl | hp
    · have := cut_le (l.drop a) sep
      rw [List.length_drop] at this
      simp only; omega
    · split at hp
      · rename_i hc
        have h2 := cut_room hc
        rw [List.length_drop] at h2
        exact prt_sum l sep hs f _ (by omega) p hp
      · simp at hp
end Sk

namespace Go.Proofs.YtjpbccpleflkhaaGreatDoor
open Go.RowKit
/-- What Cut leaves: the parts. -/
def CutP (s sep : List UInt8) (w : World) (e : Ending) (w' : World) : Prop := ∃ v l, e = .returned v ∧ RowS w.heap.size 9 w' v l ∧ l.map (·.data.toList) = (Sk.prts s sep).map (·.2) ∧ Below w.heap.size w w'
theorem extract_toList (s : ByteArray) (a b : Nat) : (s.extract a b).data.toList = (s.data.toList.drop a).take (b - a) := by
  rw [ByteArray.data_extract, Array.toList_extract, List.extract_eq_take_drop]
set_option maxHeartbeats 8000000 in
set_option maxRecDepth 100000 in
theorem rCut_any (s sep : ByteArray) (w : World) (hz : s.size ≤ 8192) (hp1 : 0 < sep.size) (hp2 : sep.size ≤ 10) : Calls Tryz.prog 41 #[.string s, .string sep] w (CutP s.data.toList sep.data.toList w) := by
  obtain ⟨i0, hi0, hz0, hz1, hz2⟩ := info_str
  have hl : s.data.toList.length = s.size := Array.length_toList
  have hsl : sep.data.toList.length = sep.size := Array.length_toList
  have HL := Lib.hid hl
  have HSL := Lib.hid hsl
  clear hl hsl
  go_enter Tryz.func41, Tryz.ntmps41
  go_wp2
  go_loopw [5, 6, 7] (fun s5 s6 s7 wr => ∃ (F : List ByteArray) (a i : Nat), s6 = .int .i64 (a : Int) ∧ s7 = .int .i64 (i : Int) ∧ a ≤ s.size ∧ i ≤ s.size + 1 ∧ F.length ≤ i ∧
    Hid (∃ f done, Sk.prts s.data.toList sep.data.toList = done ++ Sk.prt s.data.toList sep.data.toList (f + 1) a ∧ F.map (·.data.toList) = done.map (·.2) ∧ s.size ≤ f + a) ∧
    Hid (∀ j, a ≤ j → j < i → Lib.occAt s.data.toList sep.data.toList j = false) ∧ Hid (RowS w.heap.size 9 wr s5 F) ∧ Hid (Below w.heap.size w wr)) (fun _ _ s7 _ => s.size + 1 - (intOf s7).toNat)
  case atStart => exact ⟨[], 0, 0, rfl, rfl, Nat.zero_le _, Nat.zero_le _, Nat.zero_le _, Lib.hid ⟨s.size, [], by rw [List.nil_append, ← HL.out]; rfl, rfl, by omega⟩, Lib.hid (fun j _ h => by omega), Lib.hid (RowS.nil _ _ _), Lib.hid (Below.refl _ _)⟩
  case round =>
    rename_i s5
    obtain ⟨F, a, i, rfl, rfl, ha, hi, hF, HD, HN, HR, HB⟩ := hrel
    by_cases hc : i + sep.size ≤ s.size
    · have hcz : (i : Int) + (sep.size : Int) ≤ (s.size : Int) := by omega
      have hle : (i : Int) ≤ (i : Int) + (sep.size : Int) := by omega
      by_cases hge : a ≤ i
      · have hgez : (a : Int) ≤ (i : Int) := by omega
        have hoc := Sk.occ_eq s.data.toList sep.data.toList i
        have hex : (s.extract i (i + sep.size)).toList = (s.data.toList.drop i).take sep.data.toList.length := by
          rw [ByteArray.toList_eq, extract_toList, HSL.out]; congr 1; omega
        rw [← hex] at hoc
        have hqe : (((s.extract i (i + sep.size)).toList == sep.toList) = Lib.occAt s.data.toList sep.data.toList i) := by
          rw [hoc, ByteArray.toList_eq sep]; exact Bool.beq_eq_decide_eq _ _
        clear hoc hex
        cases ho : Lib.occAt s.data.toList sep.data.toList i
        · rw [ho] at hqe
          have HN2 : Hid (∀ j, a ≤ j → j < i + 1 → Lib.occAt s.data.toList sep.data.toList j = false) := Lib.hid (fun j h1 h2 => by
            by_cases e : j = i
            · rw [e]; exact ho
            · exact HN.out j h1 (by omega))
          clear ho
          go_wp2
          exact ⟨⟨F, a, i + 1, by first | rfl | go_num, by first | rfl | go_num, ha, by omega, by omega, HD, HN2, HR, HB⟩, by simp [intOf]; omega⟩
        · rw [ho] at hqe
          have HD2 : Hid (∃ f done, Sk.prts s.data.toList sep.data.toList = done ++ Sk.prt s.data.toList sep.data.toList (f + 1) (i + sep.size) ∧ (F ++ [s.extract a i]).map (·.data.toList) = done.map (·.2) ∧ s.size ≤ f + (i + sep.size)) := Lib.hid (by
            obtain ⟨f, done, h1, h2, h3⟩ := HD.out
            obtain ⟨g, rfl⟩ : ∃ g, f = g + 1 := ⟨f - 1, by omega⟩
            rw [Sk.prt_hit hge (by rw [HL.out]; omega) ho HN.out, HSL.out] at h1
            refine ⟨g, done ++ [((a : Int), (s.data.toList.drop a).take (i - a))], by rw [h1]; simp, ?_, by omega⟩
            rw [List.map_append, List.map_append, h2]; simp)
          have HN2 : Hid (∀ j, i + sep.size ≤ j → j < i + 1 → Lib.occAt s.data.toList sep.data.toList j = false) := Lib.hid (fun j h1 h2 => by omega)
          have hiz : (i : Int) ≤ (s.size : Int) := by omega
          have HR2 := Lib.hid (HR.out.step (allocB wr (.cells #[.string (s.extract a i)] 9)))
          have HB2 := Lib.hid (below_nxt HB.out (allocB wr (.cells #[.string (s.extract a i)] 9)))
          clear ho HD HN HR HB
          go_wp2_with (at_builtin; refine wpList_append_text rfl _ _ 87 rfl 9 i0 Tryz.underlying87 hi0 hz0 hz1 hz2 _ F (s.extract a i) wr.heap.size rfl rfl w.heap.size HR2.out (by simp) (by omega) HB2.out.size ?_; intro v5 w5 hr5 hb5; have HR5 := Lib.hid hr5; have HB5 := Lib.hid (HB2.out.trans hb5); clear hr5 hb5)
          exact ⟨⟨F ++ [s.extract a i], i + sep.size, i + 1, by first | rfl | go_num, by first | rfl | go_num, by omega, by omega, by simp; omega, HD2, HN2, HR5, HB5⟩, by simp [intOf]; omega⟩
      · have hgez : (i : Int) < (a : Int) := by omega
        have HN2 : Hid (∀ j, a ≤ j → j < i + 1 → Lib.occAt s.data.toList sep.data.toList j = false) := Lib.hid (fun j h1 h2 => by omega)
        go_wp2
        exact ⟨⟨F, a, i + 1, by first | rfl | go_num, by first | rfl | go_num, ha, by omega, by omega, HD, HN2, HR, HB⟩, by simp [intOf]; omega⟩
    · have hcz : (s.size : Int) < (i : Int) + (sep.size : Int) := by omega
      have haz : (a : Int) ≤ (s.size : Int) := by omega
      have HD2 : Hid ((F ++ [s.extract a s.size]).map (·.data.toList) = (Sk.prts s.data.toList sep.data.toList).map (·.2)) := Lib.hid (by
        obtain ⟨f, done, h1, h2, h3⟩ := HD.out
        rw [h1, Sk.prt_last (fun j h4 h5 => HN.out j h4 (by rw [HSL.out, HL.out] at h5; omega)) (by rw [HSL.out]; exact hp1), List.map_append, List.map_append, h2]
        rw [List.map_cons, List.map_nil, Lib.extract_to_end s a]; rfl)
      have HR2 := Lib.hid (HR.out.step (allocB wr (.cells #[.string (s.extract a s.size)] 9)))
      have HB2 := Lib.hid (below_nxt HB.out (allocB wr (.cells #[.string (s.extract a s.size)] 9)))
      clear HD HN HR HB
      go_wp2_with (at_builtin; refine wpList_append_text rfl _ _ 87 rfl 9 i0 Tryz.underlying87 hi0 hz0 hz1 hz2 _ F (s.extract a s.size) wr.heap.size rfl rfl w.heap.size HR2.out (by simp) (by omega) HB2.out.size ?_; intro v5 w5 hr5 hb5; have HR5 := Lib.hid hr5; have HB5 := Lib.hid (HB2.out.trans hb5); clear hr5 hb5)
      go_ret
      exact ⟨_, _, rfl, HR5.out, HD2.out, HB5.out⟩
end Go.Proofs.YtjpbccpleflkhaaGreatDoor

namespace Sk
theorem wtV_num (l : List UInt8) : wtV l = if (Tm.numV l).2 && decide ((Tm.numV l).1 ≠ 0) then ((Tm.numV l).1, true) else (0, false) := by
  unfold wtV Tm.numV
  cases Tm.numOk l with
  | false => simp
  | true =>
    simp only [if_true, Bool.true_and]
    by_cases h : Fr.dv l = 0
    · simp [h]
    · rw [if_pos (by simpa using h), if_pos (by simpa using fun e => h (by omega))]
end Sk
namespace Go.Proofs.YtjpbccpleflkhaaGreatDoor
open Go.RowKit
theorem RowS.form {B : Nat} {e : TypeId} {w : World} {v : Value} {l : List ByteArray} (h : RowS B e w v l) (hl : 0 < l.length) : ∃ g cap, v = .slice (some ⟨g, 0, none⟩) l.length cap ∧ B ≤ g ∧ g < w.heap.size ∧ l.length ≤ cap ∧ cap ≤ 9223372036854775807 := by
  have hlt := World.ownsRow.lt h
  rcases h.2 with ⟨rfl, h0⟩ | ⟨g, cap, cur, rfl, hb, hg, h1, h2, h3⟩
  · omega
  · exact ⟨g, cap, rfl, (hlt g rfl).1, (hlt g rfl).2, h1, by unfold maxLen at h2; omega⟩
theorem RowS.at {B g cap : Nat} {e : TypeId} {w : World} {l : List ByteArray} (h : RowS B e w (.slice (some ⟨g, 0, none⟩) l.length cap) l) {i : Nat} (hi : i < l.length) : w.cell? ⟨g, i, none⟩ = some (.string (l.getD i ⟨#[]⟩)) := by
  have h5 := World.ownsRow.cellAt h i (by omega)
  rw [h5, List.getElem?_map, List.getElem?_eq_getElem hi, Option.map_some, List.getD_eq_getElem?_getD, List.getElem?_eq_getElem hi]
  rfl
/-- Where texts lie. -/
def CellsF (W : World) (g : Nat) (F : List ByteArray) : Prop := g < W.heap.size ∧ ∀ i, i < F.length → W.cell? ⟨g, i, none⟩ = some (.string (F.getD i ⟨#[]⟩))
theorem CellsF.step {W W' : World} {g : Nat} {F : List ByteArray} (h : CellsF W g F) (hb : Below W.heap.size W W') : CellsF W' g F :=
  ⟨Nat.lt_of_lt_of_le h.1 hb.size, fun i hi => (hb.cell (p := ⟨g, i, none⟩) h.1).trans (h.2 i hi)⟩
theorem CellsF.grown {W W' : World} {g : Nat} {F : List ByteArray} (h : CellsF W g F) {row : Option Nat} (hg : W.grownBy W' row) (hr : ∀ r, row = some r → r ≠ g) : CellsF W' g F :=
  ⟨Nat.lt_of_lt_of_le h.1 hg.size, fun i hi => (World.cell?_of_block (w := W) (hg.block g h.1 (fun e => hr g e.symm rfl))).trans (h.2 i hi)⟩
theorem CellsF.set {W : World} {g k o : Nat} {F : List ByteArray} (h : CellsF W g F) (hk : k ≠ g) (u : Value) : CellsF (W.setCell ⟨k, o, none⟩ u) g F :=
  ⟨by simpa using h.1, fun i hi => (World.cell?_setCell_other (w := W) (v := u) (a := ⟨k, o, none⟩) (b := ⟨g, i, none⟩) (fun e => hk (congrArg Addr.block e))).trans (h.2 i hi)⟩
/-- What Step of the reference leaves. -/
def StP (q : Sk.Stp × Int) (w : World) (e : Ending) (w' : World) : Prop := ∃ v, e = .returned (.tuple #[.agg #[v, .int .i64 q.1.2], .int .i64 q.2]) ∧ SeeK w' v q.1.1 ∧ (∀ r, v.ownBlock = some r → w.heap.size ≤ r ∧ r < w'.heap.size) ∧ Below w.heap.size w w'
theorem StP.nil {w w' : World} {q : Sk.Stp × Int} {c : Int} (hq : q = (Sk.t0, c)) (hb : Below w.heap.size w w') : StP q w (.returned (.tuple #[.agg #[.slice none 0 0, .int .i64 0], .int .i64 c])) w' := by
  subst hq
  exact ⟨.slice none 0 0, rfl, SeeK.nil _, (fun r e => by cases e), hb⟩
set_option maxHeartbeats 8000000 in
set_option maxRecDepth 100000 in
theorem rSt_any (s : ByteArray) (w : World) (hz : s.size ≤ 8192) : Calls Tryz.prog 42 #[.string s] w (StP (Sk.stV s.data.toList) w) := by
  obtain ⟨i0, hi0, hzi0, hzi1, hzi2⟩ := info_str2
  have hRR := resP_new w (.slice none 0 0) (.int .i64 0) 40
  have hXX := resP_new (w.alloc (.cells #[.slice none 0 0, .int .i64 0] 40)) (.slice none 0 0) (.int .i64 0) 40
  rw [World.size_alloc] at hXX
  have HR0 := Lib.hid (hRR.step (allocB _ (.cells #[.slice none 0 0, .int .i64 0] 40)))
  have HX0 := Lib.hid hXX
  have HL0 : Hid (Below w.heap.size w ((w.alloc (.cells #[.slice none 0 0, .int .i64 0] 40)).alloc (.cells #[.slice none 0 0, .int .i64 0] 40))) := Lib.hid ((allocB w _).alloc (by simp) _)
  have hlz : s.data.toList.length = s.size := Array.length_toList
  have hpl := Sk.prt_len s.data.toList [32] (by decide) (s.data.toList.length + 1) 0 (Nat.zero_le _)
  have hpp := Sk.prt_pos s.data.toList [32] s.data.toList.length 0
  have hps := Sk.prt_sum s.data.toList [32] (by decide) (s.data.toList.length + 1) 0 (Nat.zero_le _)
  change (Sk.prts s.data.toList [32]).length ≤ _ at hpl
  change 0 < (Sk.prts s.data.toList [32]).length at hpp
  change ∀ p ∈ Sk.prts s.data.toList [32], _ at hps
  have hrd : Sk.rdP s.data.toList = Sk.runP (Sk.prts s.data.toList [32]) ([], 0) := rfl
  have hsv : Sk.stV s.data.toList = (match Sk.rdP s.data.toList with
    | none => (Sk.t0, 4)
    | some y => if Sk.chkP y.1 y.2 = 0 then (y, 0) else (Sk.t0, Sk.chkP y.1 y.2)) := rfl
  rw [hrd] at hsv
  have HSV := Lib.hid hsv
  clear hRR hXX hsv hrd
  go_enter Tryz.func42, Tryz.ntmps42
  go_wp2_with fail
  refine (rCut_any s ⟨#[32]⟩ _ hz (by decide) (by decide)).mono ?_
  rintro e w1 ⟨v, F, rfl, hr, hf, hb⟩
  change F.map (·.data.toList) = (Sk.prts s.data.toList [32]).map (·.2) at hf
  simp only [World.size_alloc] at hr
  have HR1 := Lib.hid (HR0.out.step hb)
  have HX1 := Lib.hid (HX0.out.step hb)
  have HB1 := Lib.hid (below_nxt HL0.out hb)
  have HZ1 : Hid (w.heap.size + 2 ≤ w1.heap.size) := Lib.hid (by have := hb.size; simp at this; omega)
  have hFl : F.length = (Sk.prts s.data.toList [32]).length := by have := congrArg List.length hf; simpa using this
  obtain ⟨g, cap, rfl, hg1, hg2, hc1, hc2⟩ := hr.form (by omega)
  have HF : Hid (∀ i, i < F.length → ∃ p r, (Sk.prts s.data.toList [32]).drop i = p :: r ∧ r = (Sk.prts s.data.toList [32]).drop (i + 1) ∧ p.2 = (F.getD i ⟨#[]⟩).data.toList ∧ (F.getD i ⟨#[]⟩).size ≤ 8192) := Lib.hid (fun i hi => by
    have hi2 : i < (Sk.prts s.data.toList [32]).length := by omega
    refine ⟨(Sk.prts s.data.toList [32])[i], _, List.drop_eq_getElem_cons hi2, rfl, ?_⟩
    have h1 : ((Sk.prts s.data.toList [32])[i]).2 = (F.getD i ⟨#[]⟩).data.toList := by
      have := congrArg (fun l : List (List UInt8) => l[i]?) hf
      simp only [List.getElem?_map, List.getElem?_eq_getElem hi, List.getElem?_eq_getElem hi2, Option.map_some, Option.some.injEq] at this
      rw [List.getD_eq_getElem?_getD, List.getElem?_eq_getElem hi]; exact this.symm
    refine ⟨h1, ?_⟩
    have h2 := hps _ (List.getElem_mem hi2)
    rw [h1, hlz] at h2
    have h3 : (F.getD i ⟨#[]⟩).data.toList.length = (F.getD i ⟨#[]⟩).size := Array.length_toList
    omega)
  have HFl2 : Hid (F.length = (Sk.prts s.data.toList [32]).length) := Lib.hid hFl
  have HFl : Hid (F.length = (Sk.prts s.data.toList [32]).length) := Lib.hid hFl
  have HRow := Lib.hid (show CellsF w1 g F from ⟨hg2, fun i hi => hr.at hi⟩)
  obtain ⟨B, hB⟩ : ∃ B, w1.heap.size = B := ⟨_, rfl⟩
  have hz1 : g < B := by omega
  have hz3 : w.heap.size + 2 ≤ B := by have := HZ1.out; omega
  have HZB : Hid (B ≤ w1.heap.size) := Lib.hid (by omega)
  have hF0 : 0 < F.length := by omega
  have hF1 : F.length ≤ 8193 := by omega
  generalize Sk.prts s.data.toList [32] = P at *
  generalize Sk.stV s.data.toList = q at *
  clear hf hr hb hFl hg2 hB hpl hpp hps hlz HR0 HX0 HL0
  go_wp2
  go_loopw [6] (fun s6 wr => ∃ (i : Nat) (L : List Sk.Str) (n : Int) (u : Value), s6 = .int .i64 (i : Int) ∧ i ≤ F.length ∧ L.length ≤ i ∧ Hid ((n = 0 → L.length = i) ∧ (n ≠ 0 → i = F.length) ∧ Sk.runP P ([], 0) = Sk.runP (P.drop i) (L, n)) ∧
    Hid (RowK B 54 wr u L) ∧ Hid (ResP wr (w.heap.size + 1) u (.int .i64 n)) ∧ Hid (ResP wr w.heap.size (.slice none 0 0) (.int .i64 0)) ∧ Hid (CellsF wr g F) ∧ Hid (Below w.heap.size w wr) ∧ Hid (B ≤ wr.heap.size)) (fun s6 _ => F.length - (intOf s6).toNat)
  case atStart => exact ⟨0, [], 0, .slice none 0 0, rfl, Nat.zero_le _, Nat.le_refl _, Lib.hid ⟨fun _ => rfl, fun h => absurd rfl h, rfl⟩, Lib.hid (RowK.nil _ _ _), HX1, HR1, HRow, HB1, HZB⟩
  case round =>
    clear HX1 HR1 HRow HB1 HZ1 HZB
    obtain ⟨i, L, n, u, rfl, hi, hL, HJ, HK, HX, HR, HRow, HB, hz2⟩ := hrel
    have hFz : (F.length : Int) ≤ 8193 := by omega
    by_cases hil : i < F.length
    · have hilz : (i : Int) < (F.length : Int) := by omega
      obtain ⟨hj1, hj2, hj3⟩ := HJ.out
      have hn0 : n = 0 := by
        by_cases h : n = 0
        · exact h
        · exact absurd (hj2 h) (by omega)
      subst hn0
      have HLi := Lib.hid (hj1 rfl)
      obtain ⟨p, r, hd, hr, hp, hpz⟩ := HF.out i hil
      rw [hd] at hj3
      have c1 := HRow.out.2 i hil
      have hrl : r ≠ [] ↔ i + 1 < F.length := by
        rw [hr, ne_eq, List.drop_eq_nil_iff, ← HFl.out]; omega
      have hrn : ¬ i + 1 < F.length → r = [] := fun h => by rw [hr, List.drop_eq_nil_iff, ← HFl.out]; omega
      have HJ3 := Lib.hid hj3
      have HRd := Lib.hid hr
      have CR := fun W => Lib.hid (rRd_any (F.getD i ⟨#[]⟩) W)
      have CN := fun W => Lib.hid (rNumber_any (F.getD i ⟨#[]⟩) W (by omega))
      have hw := Sk.wtV_num (F.getD i ⟨#[]⟩).data.toList
      rw [← hp] at CR CN hw
      have HWB := Lib.hid (Sk.wtV_bd p.2)
      clear hj1 hj2 hj3 hr hp HF hd HFl
      generalize hS : F.getD i ⟨#[]⟩ = S at *
      have HS := Lib.hid hS
      clear hS
      obtain ⟨wo, rfl⟩ : ∃ wo, wo = wr := ⟨_, rfl⟩
      cases hrs : Sk.rdS p.2 with
      | some y =>
        obtain ⟨a, o⟩ := y
        have CR2 : ∀ W, Hid (Calls Tryz.prog 66 #[.string S] W fun e w' => e = .returned (.tuple #[.agg #[.int .i64 a, .bool o], .bool true]) ∧ Below W.heap.size W w') := fun W => Lib.hid ((CR W).out.mono (by rintro e w' ⟨a', o', rfl, hy, hb⟩; have := hy _ hrs; cases this; rw [hrs]; exact ⟨rfl, hb⟩))
        have HJn : Hid (Sk.runP P ([], 0) = Sk.runP r (L ++ [(a, o)], 0)) := Lib.hid (by rw [HJ3.out, Sk.runP_read hrs])
        clear CR CN hw hrs HJ3 HWB HJ hrn hrl
        go_wp2_with fail
        refine ((CR2 _).out).mono ?_
        rintro e w2 ⟨rfl, hb2⟩
        have L3 := allocB w2 (.cells #[.int .i64 a, .bool o] 54)
        have hb3 := below_nxt hb2 L3
        have HB3 := Lib.hid (below_nxt HB.out hb3)
        have HX3 := Lib.hid (HX.out.step hb3)
        have HR3 := Lib.hid (HR.out.step hb3)
        have HK3 := Lib.hid (HK.out.step hb3)
        have HF3 := Lib.hid (HRow.out.step hb3)
        have HZ3 := Lib.hid (Nat.le_trans hz2.out hb3.size)
        obtain ⟨x0, x1, x2, x3, x4⟩ := HX3.out
        have HRO := Lib.hid (fun r e => (World.ownsRow.lt HK3.out r e).1)
        clear hb2 L3 hb3 HB HX HR HK HRow hz2 c1 CR2
        go_wp2_with (at_builtin; refine wpList_append_str rfl _ _ 38 rfl 54 i0 Tryz.underlying38 hi0 hzi0 hzi1 hzi2 _ L (a, o) (w2.heap.size + 1) rfl rfl B (HK3.out.step (allocB _ _)) (by simp) (by simp) (by omega) (Nat.le_trans HZ3.out (by simp)) ?_; intro a5 p5 w5 hr5 hg5 hb5; have HX5 := Lib.hid ((HX3.out.step (allocB _ (.cells #[.int .i64 a, .bool o] 54))).grown hg5 (fun r e => by have := (World.ownsRow.lt HK3.out r e).1; omega)); have HR5 := Lib.hid hr5; have HG5 := Lib.hid hg5; have HB5 := Lib.hid ((HB3.out.alloc HB3.out.size (.cells #[.int .i64 a, .bool o] 54)).grown hg5 (Nat.le_trans HB3.out.size (by simp)) (fun r e => by have := (World.ownsRow.lt HK3.out r e).1; omega)); clear hr5 hg5 hb5; obtain ⟨s0, s1, s2, s3, s4⟩ := HX5.out)
        have HF5 := (HF3.out.step (allocB _ (.cells #[.int .i64 a, .bool o] 54))).grown HG5.out (fun r e => by have := HRO.out r e; omega)
        have HRR5 := (HR3.out.step (allocB _ (.cells #[.int .i64 a, .bool o] 54))).grown HG5.out (fun r e => by have := HRO.out r e; omega)
        refine ⟨⟨i + 1, L ++ [(a, o)], 0, _, by first | rfl | go_num, by omega, by simp; omega, Lib.hid ⟨fun _ => by have := HLi.out; simp; omega, fun h => absurd rfl h, by rw [HJn.out, HRd.out]⟩, Lib.hid (HR5.out.set (by show w.heap.size + 1 < B; omega) _), Lib.hid (HX5.out.put0 _), Lib.hid (HRR5.other (by omega) _), Lib.hid (HF5.set (by omega) _), Lib.hid (HB5.out.setCell (p := ⟨w.heap.size + 1, 0, none⟩) (by simp) _), Lib.hid (Nat.le_trans HZ3.out (by have := HG5.out.size; simp at this ⊢; omega))⟩, by simp [intOf]; omega⟩
      | none =>
        have CR2 : ∀ W, Hid (Calls Tryz.prog 66 #[.string S] W fun e w' => ∃ a o, e = .returned (.tuple #[.agg #[.int .i64 a, .bool o], .bool false]) ∧ Below W.heap.size W w') := fun W => Lib.hid ((CR W).out.mono (by rintro e w' ⟨a', o', rfl, hy, hb⟩; rw [hrs]; exact ⟨a', o', rfl, hb⟩))
        have HBad := Lib.hid (fun h => show q = (Sk.t0, 4) by rw [HSV.out, HJ3.out, Sk.runP_bad hrs h])
        have HEnd := Lib.hid (fun h1 h2 h3 => show Sk.runP P ([], 0) = some (L, (Sk.wtV p.2).1) by rw [HJ3.out, (show r = [] from h3), Sk.runP_end hrs h1 h2])
        clear CR hrs HJ3 HJ
        generalize Sk.wtV p.2 = wv at *
        generalize Tm.numV p.2 = nv at *
        obtain ⟨nm, ok⟩ := nv
        simp only at CN hw
        by_cases hgood : (ok = true ∧ nm ≠ 0) ∧ i ≠ 0 ∧ i + 1 = F.length
        · obtain ⟨⟨rfl, hnm⟩, hi0, hi1⟩ := hgood
          rw [decide_eq_true hnm, Bool.and_true, if_pos rfl] at hw
          subst hw
          have HE2 := Lib.hid (HEnd.out rfl (by rw [HLi.out]; exact hi0) (hrn (by omega)))
          have hnm' : (nm == 0) = false := by rw [beq_eq_false_iff_ne]; exact hnm
          have hi0' : ((i : Int) == 0) = false := by rw [beq_eq_false_iff_ne]; omega
          have hi1' : decide ((i : Int) < (F.length : Int) - 1) = false := decide_eq_false (by omega)
          have hi2' : IntKind.i64.wrap ((F.length : Int) - 1) = (F.length : Int) - 1 := IntWalk.i64_in _ (by omega)
          have HNM := Lib.hid hnm
          have HI1 := Lib.hid hi1
          clear HBad HEnd HWB hnm hi0 hi1 hrl hrn
          go_wp2_with fail
          refine ((CR2 _).out).mono ?_
          rintro e w2 ⟨a, o, rfl, hb2⟩
          have L3 := allocB w2 (.cells #[.int .i64 a, .bool o] 54)
          have hb3 := below_nxt hb2 L3
          have HB3 := Lib.hid (below_nxt HB.out hb3)
          have HX3 := Lib.hid (HX.out.step hb3)
          have HR3 := Lib.hid (HR.out.step hb3)
          have HK3 := Lib.hid (HK.out.step hb3)
          have HF3 := Lib.hid (HRow.out.step hb3)
          have HZ3 := Lib.hid (Nat.le_trans hz2.out hb3.size)
          obtain ⟨x0, x1, x2, x3, x4⟩ := HX3.out
          have c2 := HF3.out.2 i hil
          rw [HS.out] at c2
          clear hb2 L3 hb3 HB HX HR HK HRow hz2 c1 CR2
          go_wp2_with fail
          refine ((CN _).out).mono ?_
          rintro e w3 ⟨rfl, rfl⟩
          go_wp2
          exact ⟨⟨i + 1, L, nm, _, by first | rfl | go_num, by omega, by omega, Lib.hid ⟨fun h => absurd h HNM.out, fun _ => HI1.out, by
            rw [HE2.out, List.drop_eq_nil_of_le (by have := HFl2.out; have := HI1.out; omega)]; rfl⟩, Lib.hid (HK3.out.set (by show w.heap.size + 1 < B; omega) _), Lib.hid (HX3.out.put1 _), Lib.hid (HR3.out.other (by omega) _), Lib.hid (HF3.out.set (by omega) _), Lib.hid (HB3.out.setCell (p := ⟨w.heap.size + 1, 1, none⟩) (by simp) _), Lib.hid (by have := HZ3.out; simpa using this)⟩, by simp [intOf]; omega⟩
        · have hrl2 : i + 1 < F.length → r ≠ [] := hrl.2
          rcases (show ok = false ∨ (ok = true ∧ nm = 0) ∨ (ok = true ∧ nm ≠ 0 ∧ i = 0) ∨ (ok = true ∧ nm ≠ 0 ∧ i ≠ 0 ∧ i + 1 < F.length) by
            cases ok
            · exact .inl rfl
            · by_cases h1 : nm = 0
              · exact .inr (.inl ⟨rfl, h1⟩)
              · by_cases h2 : i = 0
                · exact .inr (.inr (.inl ⟨rfl, h1, h2⟩))
                · refine .inr (.inr (.inr ⟨rfl, h1, h2, ?_⟩))
                  by_cases h3 : i + 1 = F.length
                  · exact absurd ⟨⟨rfl, h1⟩, h2, h3⟩ hgood
                  · omega) with rfl | ⟨rfl, rfl⟩ | ⟨rfl, hnm, h0⟩ | ⟨rfl, hnm, h0, h1⟩
          · have HQ := Lib.hid (HBad.out (.inl (by rw [hw]; rfl)))
            clear hrl2 HBad HEnd HWB hrl hrn hw hgood
            go_wp2_with fail
            refine ((CR2 _).out).mono ?_
            rintro e w2 ⟨a, o, rfl, hb2⟩
            have L3 := allocB w2 (.cells #[.int .i64 a, .bool o] 54)
            have hb3 := below_nxt hb2 L3
            have HB3 := Lib.hid (below_nxt HB.out hb3)
            have HX3 := Lib.hid (HX.out.step hb3)
            have HR3 := Lib.hid (HR.out.step hb3)
            have HF3 := Lib.hid (HRow.out.step hb3)
            obtain ⟨x0, x1, x2, x3, x4⟩ := HX3.out
            obtain ⟨r0, r1, r2, r3, r4⟩ := HR3.out
            have c2 := HF3.out.2 i hil
            rw [HS.out] at c2
            clear hb2 L3 hb3 HB HX HR HK HRow hz2 c1 CR2
            go_wp2_with fail
            refine ((CN _).out).mono ?_
            rintro e w3 ⟨rfl, rfl⟩
            go_wp2
            obtain ⟨-, s1, s2, -, -⟩ := HR3.out.put (.slice none 0 0) (.int .i64 0)
            exact bodyPost_ret (v := .tuple #[.agg #[.slice none 0 0, .int .i64 0], .int .i64 4]) (by simp [results, Tryz.f42, go_sem, s1, s2]) rfl (StP.nil HQ.out ((HB3.out.setCell (p := ⟨w.heap.size, 0, none⟩) (by simp) _).setCell (p := ⟨w.heap.size, 1, none⟩) (by simp) _))
          · have HQ := Lib.hid (HBad.out (.inl (by rw [hw]; rfl)))
            clear hrl2 HBad HEnd HWB hrl hrn hw hgood
            go_wp2_with fail
            refine ((CR2 _).out).mono ?_
            rintro e w2 ⟨a, o, rfl, hb2⟩
            have L3 := allocB w2 (.cells #[.int .i64 a, .bool o] 54)
            have hb3 := below_nxt hb2 L3
            have HB3 := Lib.hid (below_nxt HB.out hb3)
            have HX3 := Lib.hid (HX.out.step hb3)
            have HR3 := Lib.hid (HR.out.step hb3)
            have HF3 := Lib.hid (HRow.out.step hb3)
            obtain ⟨x0, x1, x2, x3, x4⟩ := HX3.out
            obtain ⟨r0, r1, r2, r3, r4⟩ := HR3.out
            have c2 := HF3.out.2 i hil
            rw [HS.out] at c2
            clear hb2 L3 hb3 HB HX HR HK HRow hz2 c1 CR2
            go_wp2_with fail
            refine ((CN _).out).mono ?_
            rintro e w3 ⟨rfl, rfl⟩
            go_wp2
            obtain ⟨-, s1, s2, -, -⟩ := HR3.out.put (.slice none 0 0) (.int .i64 0)
            exact bodyPost_ret (v := .tuple #[.agg #[.slice none 0 0, .int .i64 0], .int .i64 4]) (by simp [results, Tryz.f42, go_sem, s1, s2]) rfl (StP.nil HQ.out ((HB3.out.setCell (p := ⟨w.heap.size, 0, none⟩) (by simp) _).setCell (p := ⟨w.heap.size, 1, none⟩) (by simp) _))
          · have hnm' : (nm == 0) = false := by rw [beq_eq_false_iff_ne]; exact hnm
            have hi0' : ((i : Int) == 0) = true := by rw [h0]; rfl
            have HQ := Lib.hid (HBad.out (.inr (.inl (by rw [HLi.out]; exact h0))))
            clear hrl2 hnm h0 HBad HEnd HWB hrl hrn hw hgood
            go_wp2_with fail
            refine ((CR2 _).out).mono ?_
            rintro e w2 ⟨a, o, rfl, hb2⟩
            have L3 := allocB w2 (.cells #[.int .i64 a, .bool o] 54)
            have hb3 := below_nxt hb2 L3
            have HB3 := Lib.hid (below_nxt HB.out hb3)
            have HX3 := Lib.hid (HX.out.step hb3)
            have HR3 := Lib.hid (HR.out.step hb3)
            have HF3 := Lib.hid (HRow.out.step hb3)
            obtain ⟨x0, x1, x2, x3, x4⟩ := HX3.out
            obtain ⟨r0, r1, r2, r3, r4⟩ := HR3.out
            have c2 := HF3.out.2 i hil
            rw [HS.out] at c2
            clear hb2 L3 hb3 HB HX HR HK HRow hz2 c1 CR2
            go_wp2_with fail
            refine ((CN _).out).mono ?_
            rintro e w3 ⟨rfl, rfl⟩
            go_wp2
            obtain ⟨-, s1, s2, -, -⟩ := HR3.out.put (.slice none 0 0) (.int .i64 0)
            exact bodyPost_ret (v := .tuple #[.agg #[.slice none 0 0, .int .i64 0], .int .i64 4]) (by simp [results, Tryz.f42, go_sem, s1, s2]) rfl (StP.nil HQ.out ((HB3.out.setCell (p := ⟨w.heap.size, 0, none⟩) (by simp) _).setCell (p := ⟨w.heap.size, 1, none⟩) (by simp) _))
          · have hnm' : (nm == 0) = false := by rw [beq_eq_false_iff_ne]; exact hnm
            have hi0' : ((i : Int) == 0) = false := by rw [beq_eq_false_iff_ne]; omega
            have hi1' : decide ((i : Int) < (F.length : Int) - 1) = true := decide_eq_true (by omega)
            have hi2' : IntKind.i64.wrap ((F.length : Int) - 1) = (F.length : Int) - 1 := IntWalk.i64_in _ (by omega)
            have HQ := Lib.hid (HBad.out (.inr (.inr (hrl2 h1))))
            clear hrl2 hnm h0 h1 HBad HEnd HWB hrl hrn hw hgood
            go_wp2_with fail
            refine ((CR2 _).out).mono ?_
            rintro e w2 ⟨a, o, rfl, hb2⟩
            have L3 := allocB w2 (.cells #[.int .i64 a, .bool o] 54)
            have hb3 := below_nxt hb2 L3
            have HB3 := Lib.hid (below_nxt HB.out hb3)
            have HX3 := Lib.hid (HX.out.step hb3)
            have HR3 := Lib.hid (HR.out.step hb3)
            have HF3 := Lib.hid (HRow.out.step hb3)
            obtain ⟨x0, x1, x2, x3, x4⟩ := HX3.out
            obtain ⟨r0, r1, r2, r3, r4⟩ := HR3.out
            have c2 := HF3.out.2 i hil
            rw [HS.out] at c2
            clear hb2 L3 hb3 HB HX HR HK HRow hz2 c1 CR2
            go_wp2_with fail
            refine ((CN _).out).mono ?_
            rintro e w3 ⟨rfl, rfl⟩
            go_wp2
            obtain ⟨-, s1, s2, -, -⟩ := HR3.out.put (.slice none 0 0) (.int .i64 0)
            exact bodyPost_ret (v := .tuple #[.agg #[.slice none 0 0, .int .i64 0], .int .i64 4]) (by simp [results, Tryz.f42, go_sem, s1, s2]) rfl (StP.nil HQ.out ((HB3.out.setCell (p := ⟨w.heap.size, 0, none⟩) (by simp) _).setCell (p := ⟨w.heap.size, 1, none⟩) (by simp) _))
    · have hil2 : i = F.length := by omega
      have hq : q = if Sk.chkP L n = 0 then ((L, n), 0) else (Sk.t0, Sk.chkP L n) := by
        rw [HSV.out, HJ.out.2.2, List.drop_eq_nil_of_le (by rw [← HFl.out]; omega)]
        rfl
      have CS := fun W (h : SeeK W u L) => Lib.hid (rStp_any u L n W h)
      have hlt := fun r e => World.ownsRow.lt HK.out r e
      obtain ⟨ua, uc, hu⟩ := HK.out.form
      have HS := Lib.hid HK.out.sees
      have HLT : Hid (∀ r, u.ownBlock = some r → w.heap.size + 2 ≤ r ∧ r < wr.heap.size) := Lib.hid (fun r e => ⟨by have := (hlt r e).1; omega, (hlt r e).2⟩)
      obtain ⟨x0, x1, x2, x3, x4⟩ := HX.out
      clear hlt HF HJ HFl HFl2 HSV HRow hz2 HK
      have hilz : (i : Int) = (F.length : Int) := by omega
      subst hu
      by_cases hc : Sk.chkP L n = 0
      · rw [if_pos hc] at hq
        rw [hc] at CS
        subst hq
        clear hc
        go_wp2_with fail
        refine ((CS _ HS.out).out).mono ?_
        rintro e w2 ⟨rfl, hb2⟩
        have HB2 := Lib.hid (below_nxt HB.out hb2)
        have HR2 := Lib.hid (HR.out.step hb2)
        have HS2 := Lib.hid (HS.out.step hb2)
        have HX2 := Lib.hid (HX.out.step hb2)
        have HZ2 := Lib.hid hb2.size
        clear x0 x1 x2 x3 x4 hb2
        obtain ⟨x0, x1, x2, x3, x4⟩ := HX2.out
        obtain ⟨r0, r1, r2, r3, r4⟩ := HR2.out
        go_wp2
        obtain ⟨-, s1, s2, -, -⟩ := HR2.out.put (.slice ua L.length uc) (.int .i64 n)
        refine bodyPost_ret (v := .tuple #[.agg #[.slice ua L.length uc, .int .i64 n], .int .i64 0]) (by simp [results, Tryz.f42, go_sem, s1, s2]) rfl ⟨_, rfl, ?_, fun r e => ⟨by have := (HLT.out r e).1; omega, by have := (HLT.out r e).2; have := HZ2.out; simp; omega⟩, (HB2.out.setCell (p := ⟨w.heap.size, 0, none⟩) (by simp) _).setCell (p := ⟨w.heap.size, 1, none⟩) (by simp) _⟩
        refine HS2.out.same (by simp) (fun r e _ => ?_)
        have hr2 := (HLT.out r e).1
        exact (Below.heap_setCell _ _ _ _ (by show r ≠ w.heap.size; omega)).trans (Below.heap_setCell _ _ _ _ (by show r ≠ w.heap.size; omega))
      · rw [if_neg hc] at hq
        have hct : (Sk.chkP L n != 0) = true := by simpa using hc
        have HQ := Lib.hid hq
        clear hq hc
        generalize Sk.chkP L n = c at *
        go_wp2_with fail
        refine ((CS _ HS.out).out).mono ?_
        rintro e w2 ⟨rfl, hb2⟩
        have HB2 := Lib.hid (below_nxt HB.out hb2)
        have HR2 := Lib.hid (HR.out.step hb2)
        clear x0 x1 x2 x3 x4 hb2
        obtain ⟨r0, r1, r2, r3, r4⟩ := HR2.out
        go_wp2
        obtain ⟨-, s1, s2, -, -⟩ := HR2.out.put (.slice none 0 0) (.int .i64 0)
        exact bodyPost_ret (v := .tuple #[.agg #[.slice none 0 0, .int .i64 0], .int .i64 c]) (by simp [results, Tryz.f42, go_sem, s1, s2]) rfl (StP.nil HQ.out ((HB2.out.setCell (p := ⟨w.heap.size, 0, none⟩) (by simp) _).setCell (p := ⟨w.heap.size, 1, none⟩) (by simp) _))
end Go.Proofs.YtjpbccpleflkhaaGreatDoor

namespace Go.Proofs.YtjpbccpleflkhaaGreatDoor
open Go.RowKit
/-- 'append' of a step to a slice of the call's own. -/
theorem wpList_append_stp {P : Program} {w : World} {ops : Array Oper} {rest : List Oper} {o : Oper} {a : Act} {Q : Exit → Act → World → Prop} (hgd : o.guard = none) (s x : Operand) (t : TypeId)
    (ho : o.op = .call { callee := .builtin .append, args := #[s, x], argTypes := #[t, t] })
    (e : TypeId) (i : TypeInfo) (ht : P.underlying t = some (.slice e)) (hi : P.info? e = some i) (hz : i.zero = some (.agg #[.slice none 0 0, .int .i64 0])) (hsize : i.size = 2) (hby : i.bytes = 32)
    (v : Value) (L : List Sk.Stp) (l : List Sk.Str) (m : Int) (u : Value) (g : Nat) (hs : a.eval s = v) (hx : a.eval x = .slice (some ⟨g, 0, none⟩) 1 1) (B : Nat) (hown : RowT B e w v L)
    (h0 : w.cell? ⟨g, 0, none⟩ = some u) (h1 : w.cell? ⟨g, 1, none⟩ = some (.int .i64 m)) (hu : SeeK w u l) (hf : ∀ r, u.ownBlock = some r → B ≤ r ∧ r < w.heap.size ∧ v.ownBlock ≠ some r) (hlen : L.length ≤ 1048576) (hB : B ≤ w.heap.size)
    (h : ∀ ao' cap' w', RowT B e w' (.slice ao' (L.length + 1) cap') (L ++ [(l, m)]) → w.grownBy w' v.ownBlock → Below B w w' → wpList P ops Q rest (a.put o.dst (.slice ao' (L.length + 1) cap')) w') : wpList P ops Q (o :: rest) a w := by
  obtain ⟨ps, hown, hl, hp⟩ := hown
  refine wpList_append_own_at w hgd s x t ho B e i (.agg #[.slice none 0 0, .int .i64 0]) 2 32 ht hi hz hsize hby rfl (by omega) v L.length _ hs hown ⟨g, 0, none⟩ 1 1 [u, .int .i64 m] hx (by simp) ?_ ?_ (by unfold maxLen; omega) ?_ hB ?_
  · intro j u' hj
    rw [addr_add]
    rcases j with _ | _ | j
    · simp at hj; subst hj; exact h0
    · simp at hj; subst hj; exact h1
    · simp at hj
  · obtain ⟨ao, cap, rfl, -⟩ := hu
    simp [Value.oneCell']
  · omega
  · intro v' w' r1 r2 r3 r4
    have hk : ∀ u l, SeeK w u l → (∀ r, u.ownBlock = some r → B ≤ r ∧ r < w.heap.size ∧ v.ownBlock ≠ some r) → SeeK w' u l ∧ ∀ r, u.ownBlock = some r → B ≤ r ∧ r < w'.heap.size ∧ v'.ownBlock ≠ some r := fun u l hs hf =>
      ⟨hs.same r2.size (fun r e hr => r2.block r hr (fun e' => (hf r e).2.2 e'.symm)), fun r e => ⟨(hf r e).1, Nat.lt_of_lt_of_le (hf r e).2.1 r2.size, fun e' => by
        rcases r4 with r4 | r4
        · exact (hf r e).2.2 (r4 ▸ e')
        · rw [r4] at e'; have := (hf r e).2.1; simp at e'; omega⟩⟩
    have hr : RowT B e w' v' (L ++ [(l, m)]) := by
      refine ⟨ps ++ [(u, m)], ?_, by simp [hl], fun i hi => ?_⟩
      · rw [List.length_append, List.flatMap_append]
        exact r1
      · by_cases hi' : i < L.length
        · obtain ⟨a1, a2, a3⟩ := hp i hi'
          rw [getD_left _ _ _ (by omega), getD_left _ _ _ hi']
          obtain ⟨b1, b2⟩ := hk _ _ a1 a3
          exact ⟨b1, a2, b2⟩
        · have : i = L.length := by simp at hi; omega
          subst this
          rw [getD_end _ _ _ (by omega), getD_end _ _ _ rfl]
          obtain ⟨b1, b2⟩ := hk u l hu hf
          exact ⟨b1, rfl, b2⟩
    obtain ⟨ao', cap', rfl⟩ : ∃ ao' cap', v' = .slice ao' (L.length + 1) cap' := by
      rcases r1.2 with ⟨_, h⟩ | ⟨g, cap, cur, rfl, _⟩
      · omega
      · exact ⟨_, _, rfl⟩
    exact h _ _ _ hr r2 ((Below.refl _ _).grown r2 hB (fun g hg => (World.ownsRow.lt hown g hg).1))
set_option maxHeartbeats 8000000 in
set_option maxRecDepth 100000 in
theorem rPar_any (s : ByteArray) (w : World) (hz : s.size ≤ 8192) : Calls Tryz.prog 23 #[.string s] w (ParP (Sk.parV s.data.toList) w) := by
  have hlz : s.data.toList.length = s.size := Array.length_toList
  by_cases hbig : 4096 < s.size
  · have hv : Sk.parV s.data.toList = ([], 0, 17) := if_pos (by omega)
    rw [hv]
    have hb' : decide (4096 < (s.size : Int)) = true := decide_eq_true (by omega)
    clear hv
    go_enter Tryz.func23, Tryz.ntmps23
    go_wp2
    exact bodyPost_ret (v := .tuple #[.slice none 0 0, .int .i64 0, .int .i64 17]) (by simp [results, Tryz.f23, go_sem]) rfl ⟨none, 0, rfl, SeeT.nil _, Below.refl _ _⟩
  have hb' : decide (4096 < (s.size : Int)) = false := decide_eq_false (by omega)
  by_cases hem : s.size = 0
  · have hv : Sk.parV s.data.toList = ([], 0, 0) := by unfold Sk.parV; rw [if_neg (by omega), if_pos (by omega)]
    rw [hv]
    have hs0 : s = ⟨#[]⟩ := by
      have h := List.eq_nil_of_length_eq_zero (l := s.data.toList) (by omega)
      have h2 : s.data = #[] := by simpa using h
      exact (show s = ⟨s.data⟩ from rfl).trans (by rw [h2])
    subst hs0
    clear hv
    go_enter Tryz.func23, Tryz.ntmps23
    go_wp2
    exact bodyPost_ret (v := .tuple #[.slice none 0 0, .int .i64 0, .int .i64 0]) (by simp [results, Tryz.f23, go_sem]) rfl ⟨none, 0, rfl, SeeT.nil _, Below.refl _ _⟩
  have hv : Sk.parV s.data.toList = Sk.ro (Sk.prts s.data.toList [59, 32]) [] := by unfold Sk.parV; rw [if_neg (by omega), if_neg (by omega)]
  have hne : ([] == s.toList) = false := by
    rw [ByteArray.toList_eq]
    have : s.data.toList ≠ [] := fun h => hem (by rw [← hlz, h]; rfl)
    simpa using fun h => this (by simp [h])
  have hne' : (s.toList == []) = false := by
    rw [ByteArray.toList_eq]
    have : s.data.toList ≠ [] := fun h => hem (by rw [← hlz, h]; rfl)
    simpa using fun h => this (by simp [h])
  obtain ⟨i0, hi0, hzi0, hzi1, hzi2⟩ := info_stp
  have hpl := Sk.prt_len s.data.toList [59, 32] (by decide) (s.data.toList.length + 1) 0 (Nat.zero_le _)
  have hpp := Sk.prt_pos s.data.toList [59, 32] s.data.toList.length 0
  have hps := Sk.prt_sum s.data.toList [59, 32] (by decide) (s.data.toList.length + 1) 0 (Nat.zero_le _)
  have hpo := Sk.offs_prt s.data.toList [59, 32] (s.data.toList.length + 1) 0
  change (Sk.prts s.data.toList [59, 32]).length ≤ _ at hpl
  change 0 < (Sk.prts s.data.toList [59, 32]).length at hpp
  change ∀ p ∈ Sk.prts s.data.toList [59, 32], _ at hps
  change Sk.offs 2 (Sk.prts s.data.toList [59, 32]) 0 at hpo
  have HSV := Lib.hid hv
  clear hv
  go_enter Tryz.func23, Tryz.ntmps23
  go_wp2_with fail
  refine (rCut_any s ⟨#[59, 32]⟩ _ hz (by decide) (by decide)).mono ?_
  rintro e w1 ⟨v, F, rfl, hr, hf, hb⟩
  change F.map (·.data.toList) = (Sk.prts s.data.toList [59, 32]).map (·.2) at hf
  have HB1 := Lib.hid hb
  have hFl : F.length = (Sk.prts s.data.toList [59, 32]).length := by have := congrArg List.length hf; simpa using this
  obtain ⟨g, cap, rfl, hg1, hg2, hc1, hc2⟩ := hr.form (by omega)
  have HF : Hid (∀ i, i < F.length → ∃ p r, (Sk.prts s.data.toList [59, 32]).drop i = p :: r ∧ r = (Sk.prts s.data.toList [59, 32]).drop (i + 1) ∧ p.2 = (F.getD i ⟨#[]⟩).data.toList ∧ (F.getD i ⟨#[]⟩).size ≤ 8192) := Lib.hid (fun i hi => by
    have hi2 : i < (Sk.prts s.data.toList [59, 32]).length := by omega
    refine ⟨(Sk.prts s.data.toList [59, 32])[i], _, List.drop_eq_getElem_cons hi2, rfl, ?_⟩
    have h1 : ((Sk.prts s.data.toList [59, 32])[i]).2 = (F.getD i ⟨#[]⟩).data.toList := by
      have := congrArg (fun l : List (List UInt8) => l[i]?) hf
      simp only [List.getElem?_map, List.getElem?_eq_getElem hi, List.getElem?_eq_getElem hi2, Option.map_some, Option.some.injEq] at this
      rw [List.getD_eq_getElem?_getD, List.getElem?_eq_getElem hi]; exact this.symm
    refine ⟨h1, ?_⟩
    have h2 := hps _ (List.getElem_mem hi2)
    rw [h1, hlz] at h2
    have h3 : (F.getD i ⟨#[]⟩).data.toList.length = (F.getD i ⟨#[]⟩).size := Array.length_toList
    omega)
  have HFl : Hid (F.length = (Sk.prts s.data.toList [59, 32]).length) := Lib.hid hFl
  have HPO := Lib.hid hpo
  have HRow := Lib.hid (show CellsF w1 g F from ⟨hg2, fun i hi => hr.at hi⟩)
  obtain ⟨B, hB⟩ : ∃ B, w1.heap.size = B := ⟨_, rfl⟩
  have hz1 : g < B := by omega
  have hz3 : w.heap.size ≤ B := by have := hb.size; omega
  have HZB : Hid (B ≤ w1.heap.size) := Lib.hid (by omega)
  have hF0 : 0 < F.length := by omega
  have hF1 : F.length ≤ 8193 := by omega
  generalize Sk.prts s.data.toList [59, 32] = P at *
  generalize Sk.parV s.data.toList = q at *
  clear hf hr hb hFl hpl hpp hps hlz hpo hg2 hB hne hne' hem hb' hbig
  go_wp2
  go_loopw [5, 7, 8] (fun s5 s7 s8 wr => ∃ (i a : Nat) (L : List Sk.Stp), s7 = .int .i64 (a : Int) ∧ s8 = .int .i64 (i : Int) ∧ i ≤ F.length ∧ i ≤ 64 ∧ a ≤ i * 8194 ∧ Hid (L.length = i) ∧ Hid (Sk.ro P [] = Sk.ro (P.drop i) L ∧ Sk.offs 2 (P.drop i) a) ∧
    Hid (RowT B 40 wr s5 L) ∧ Hid (CellsF wr g F) ∧ Hid (Below w.heap.size w wr) ∧ Hid (B ≤ wr.heap.size)) (fun _ _ s8 _ => F.length - (intOf s8).toNat)
  case atStart => exact ⟨0, 0, [], rfl, rfl, Nat.zero_le _, Nat.zero_le _, Nat.zero_le _, Lib.hid rfl, Lib.hid ⟨rfl, HPO.out⟩, Lib.hid (RowT.nil _ _ _), HRow, HB1, HZB⟩
  case round =>
    clear HRow HB1 HZB
    obtain ⟨i, a, L, rfl, rfl, hi, hi64, ha, HLi, HJ, HT, HRow, HB, hz2⟩ := hrel
    have hFz : (F.length : Int) ≤ 8193 := by omega
    by_cases hil : i < F.length
    · have hilz : (i : Int) < (F.length : Int) := by omega
      obtain ⟨p, r, hd, hr, hp, hpz⟩ := HF.out i hil
      obtain ⟨hj1, hj2⟩ := HJ.out
      rw [hd] at hj1 hj2
      obtain ⟨ho1, ho2⟩ := hj2
      have HRd := Lib.hid hr
      by_cases h64 : i = 64
      · have HQ : Hid (q = ([], (a : Int), 5)) := Lib.hid (by rw [HSV.out, hj1, Sk.ro_many (by rw [HLi.out]; exact h64), ho1])
        have h64' : ((i : Int) == 64) = true := by rw [h64]; rfl
        clear hd hr hp hpz hj1 ho1 ho2 HF HFl HSV HJ h64
        go_wp2
        exact bodyPost_ret (v := .tuple #[.slice none 0 0, .int .i64 (a : Int), .int .i64 5]) (by simp [results, Tryz.f23, go_sem]) rfl ⟨none, 0, by rw [HQ.out]; rfl, by rw [HQ.out]; exact SeeT.nil _, HB.out⟩
      have hi63 : i < 64 := by omega
      have h64' : ((i : Int) == 64) = false := by rw [beq_eq_false_iff_ne]; omega
      have c1 := HRow.out.2 i hil
      have CS := fun W => Lib.hid (rSt_any (F.getD i ⟨#[]⟩) W hpz)
      rw [← hp] at CS
      rw [Sk.ro_st (by rw [HLi.out]; exact h64)] at hj1
      have hplz : p.2.length = (F.getD i ⟨#[]⟩).size := by rw [hp]; exact Array.length_toList
      generalize hS : F.getD i ⟨#[]⟩ = S at *
      have HS := Lib.hid hS
      generalize hst : Sk.stV p.2 = st at *
      obtain ⟨⟨l, n⟩, er⟩ := st
      obtain ⟨vo, vc, hvo⟩ := HT.out.form
      subst hvo
      have hlt := HT.out.lt
      have HLT := Lib.hid hlt
      simp only at hj1
      by_cases her : er = 0
      · subst her
        rw [if_pos rfl] at hj1
        have HJn : Hid (Sk.ro P [] = Sk.ro r (L ++ [(l, n)]) ∧ Sk.offs 2 r (a + (S.size + 2))) := Lib.hid ⟨hj1, by rw [← hplz]; exact ho2⟩
        clear hd hr hp hj1 ho1 ho2 HF HFl HSV HJ hS hst hplz h64 hlt
        go_wp2_with fail
        refine ((CS _).out).mono ?_
        rintro e w2 ⟨u, rfl, hs2, hf2, hb2⟩
        obtain ⟨ua, uc, hu, -⟩ := id hs2
        have L3 := allocB w2 (.cells #[u, .int .i64 n] 40)
        have hb3 := below_nxt hb2 L3
        have HB3 := Lib.hid (below_nxt HB.out hb3)
        have HT3 := Lib.hid (HT.out.step hb3)
        have HF3 := Lib.hid (HRow.out.step hb3)
        have HS3 := Lib.hid (hs2.step L3)
        have HZ3 := Lib.hid (Nat.le_trans hz2.out hb3.size)
        have HFr := Lib.hid (fun r e => show B ≤ r ∧ r < w2.heap.size ∧ (Value.slice vo L.length vc).ownBlock ≠ some r from ⟨Nat.le_trans hz2.out (hf2 r e).1, (hf2 r e).2, fun e' => by have := (HLT.out r e').2; have := (hf2 r e).1; omega⟩)
        have HRO := Lib.hid (fun r e => (HLT.out r e).1)
        have hz64 : L.length ≤ 64 := by have := HLi.out; omega
        clear hs2 hf2 hb2 hb3 L3 HT HRow HB hz2 c1 CS HLT
        subst hu
        have c2 := HF3.out.2 i hil
        rw [HS.out] at c2
        have HZL := Lib.hid hz64
        clear hz64
        go_wp2_with (at_builtin; refine wpList_append_stp rfl _ _ 22 rfl 40 i0 Tryz.underlying22 hi0 hzi0 hzi1 hzi2 _ L l n (.slice ua l.length uc) (w2.heap.size + 1) rfl rfl B (HT3.out.step (allocB _ _)) (by simp) (by simp) (HS3.out.step (allocB _ _)) (fun r e => ⟨(HFr.out r e).1, by have := (HFr.out r e).2.1; simp; omega, (HFr.out r e).2.2⟩) (by have := HZL.out; omega) (Nat.le_trans HZ3.out (by simp)) ?_; intro a5 p5 w5 hr5 hg5 hb5; have HR5 := Lib.hid hr5; have HF5 := Lib.hid ((HF3.out.step (allocB _ (.cells #[.slice ua l.length uc, .int .i64 n] 40))).grown hg5 (fun r e => by have := HRO.out r e; omega)); have HB5 := Lib.hid ((HB3.out.alloc HB3.out.size (.cells #[.slice ua l.length uc, .int .i64 n] 40)).grown hg5 (Nat.le_trans HB3.out.size (by simp)) (fun r e => by have := HRO.out r e; omega)); have HZ5 := Lib.hid (Nat.le_trans (Nat.le_trans HZ3.out (show _ ≤ _ from (allocB _ (.cells #[.slice ua l.length uc, .int .i64 n] 40)).size)) hg5.size); clear hr5 hg5 hb5; have c3 := HF5.out.2 i hil; rw [HS.out] at c3; have c4 := HF5.out.1)
        refine ⟨⟨i + 1, a + (S.size + 2), L ++ [(l, n)], by first | rfl | go_num, by first | rfl | go_num, by omega, by omega, by omega, Lib.hid (by simp [HLi.out]), Lib.hid ⟨by rw [HJn.out.1, HRd.out], by rw [← HRd.out]; exact HJn.out.2⟩, HR5, HF5, HB5, HZ5⟩, by simp [intOf]; omega⟩
      · have HQ : Hid (q = ([], (a : Int), er)) := Lib.hid (by rw [HSV.out, hj1, if_neg her, ho1])
        have her' : (er != 0) = true := by simpa using her
        clear hd hr hp hpz hj1 ho1 ho2 HF HFl HSV HJ hS hst hplz h64 hlt her
        go_wp2_with fail
        refine ((CS _).out).mono ?_
        rintro e w2 ⟨u, rfl, hs2, hf2, hb2⟩
        obtain ⟨ua, uc, hu, -⟩ := id hs2
        have HB2 := Lib.hid (below_nxt HB.out (below_nxt hb2 (allocB w2 (.cells #[u, .int .i64 n] 40))))
        clear hs2 hf2 hb2
        subst hu
        go_wp2
        exact bodyPost_ret (v := .tuple #[.slice none 0 0, .int .i64 (a : Int), .int .i64 er]) (by simp [results, Tryz.f23, go_sem]) rfl ⟨none, 0, by rw [HQ.out]; rfl, by rw [HQ.out]; exact SeeT.nil _, HB2.out⟩
    · have hil2 : i = F.length := by omega
      have HQ : Hid (q = (L, 0, 0)) := Lib.hid (by
        rw [HSV.out, HJ.out.1, List.drop_eq_nil_of_le (by rw [← HFl.out]; omega)]; rfl)
      have hilz : (i : Int) = (F.length : Int) := by omega
      obtain ⟨vo, vc, hvo⟩ := HT.out.form
      have HSe := Lib.hid HT.out.sees
      clear HF HJ HFl HSV HRow hz2 HT
      subst hvo
      go_wp2
      exact bodyPost_ret (v := .tuple #[.slice vo L.length vc, .int .i64 0, .int .i64 0]) (by simp [results, Tryz.f23, go_sem]) rfl ⟨vo, vc, by rw [HQ.out], by rw [HQ.out]; exact HSe.out, HB.out⟩
end Go.Proofs.YtjpbccpleflkhaaGreatDoor
