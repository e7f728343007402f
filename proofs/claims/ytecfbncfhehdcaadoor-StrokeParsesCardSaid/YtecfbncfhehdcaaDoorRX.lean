/- The reference's reading of a stroke. -/
import Derived.Test.YtecfbncfhehdcaaDoorRU
namespace Sk
theorem rdS_none {p : List UInt8} (h : ∀ (k : Nat) (o : Bool), k < 6 → strT ((k : Int), o) ≠ p) : rdS p = none := by
  cases hr : rdS p with
  | none => rfl
  | some y =>
    exfalso
    have hs := strT_rdS hr
    unfold rdS at hr
    split at hr
    · rename_i a b
      split at hr
      · rename_i hab
        obtain ⟨h1, h2, h3⟩ := hab
        cases hr
        refine h (a.toNat - 65) (b == 43) (by omega) ?_
        rw [← hs]
        congr 1
        exact Prod.ext (by simp only; omega) rfl
      · cases hr
    · cases hr
end Sk
namespace Go.Proofs.YtecfbncfhehdcaaDoor
open Go.RowKit
set_option maxHeartbeats 8000000 in
set_option maxRecDepth 100000 in
theorem rRd_any (s : ByteArray) (w : World) : Calls Tryd.prog 88 #[.string s] w (RdP s.data.toList w) := by
  have HYes := Lib.hid (fun (k : Nat) (o : Bool) (hk : k < 6) (h : Sk.strT ((k : Int), o) = s.data.toList) => show Sk.rdS s.data.toList = some ((k : Int), o) by rw [← h]; exact Sk.rdS_strT hk)
  have HNone := Lib.hid (fun h => Sk.rdS_none (p := s.data.toList) h)
  have HR := Lib.hid (resP_new w (.int .i64 0) (.bool false) 47)
  have HL := Lib.hid (allocB w (.cells #[.int .i64 0, .bool false] 47))
  go_enter Tryd.func88, Tryd.ntmps88
  go_wp2
  go_loopw [4] (fun s4 wr => ∃ i : Nat, i ≤ 6 ∧ s4 = .int .i64 (i : Int) ∧ Hid (∀ (k : Nat) (o : Bool), k < i → Sk.strT ((k : Int), o) ≠ s.data.toList) ∧ Hid (Below w.heap.size w wr) ∧ Hid (ResP wr w.heap.size (.int .i64 0) (.bool false))) (fun s4 _ => 6 - (intOf s4).toNat)
  case atStart => exact ⟨0, Nat.zero_le _, rfl, Lib.hid (fun k o h => by omega), HL, HR⟩
  case round =>
    clear HL HR
    obtain ⟨i, hi, rfl, HJ, HBW, HRW⟩ := hrel
    obtain ⟨wo, rfl⟩ : ∃ wo, wo = wr := ⟨_, rfl⟩
    by_cases hil : i < 6
    · have hiz : (i : Int) < 6 := by omega
      have hbc0 : (wo.alloc (.cells #[.bool false, .bool true] 4)).cell? ⟨wo.heap.size, 0, none⟩ = some (.bool false) := by simp
      have hbc1 : (wo.alloc (.cells #[.bool false, .bool true] 4)).cell? ⟨wo.heap.size, 1, none⟩ = some (.bool true) := by simp
      have HC0 := Lib.hid hbc0
      have HC1 := Lib.hid hbc1
      have HZb := Lib.hid (show wo.heap.size < (wo.alloc (.cells #[.bool false, .bool true] 4)).heap.size by simp)
      have HBA := Lib.hid (HBW.out.alloc HBW.out.size (.cells #[.bool false, .bool true] 4))
      have HRA := Lib.hid (HRW.out.step (allocB wo (.cells #[.bool false, .bool true] 4)))
      clear hbc0 hbc1
      go_wp2
      go_loopw [14] (fun s14 wq => ∃ j : Nat, j ≤ 2 ∧ s14 = .int .i64 (j : Int) ∧ Hid (∀ o : Bool, (if o then 1 else 0) < j → Sk.strT ((i : Int), o) ≠ s.data.toList) ∧ Hid (Below w.heap.size w wq) ∧ Hid (Below (wo.alloc (.cells #[.bool false, .bool true] 4)).heap.size (wo.alloc (.cells #[.bool false, .bool true] 4)) wq) ∧ Hid (ResP wq w.heap.size (.int .i64 0) (.bool false))) (fun s14 _ => 2 - (intOf s14).toNat)
      case atStart => exact ⟨0, Nat.zero_le _, rfl, Lib.hid (fun o h => by omega), HBA, Lib.hid (Below.refl _ _), HRA⟩
      case round =>
        clear HBA HRA
        obtain ⟨j, hj, rfl, HI, HBQ, HMQ, HRQ⟩ := hrel
        have e0 := (HMQ.out.cell (p := ⟨wo.heap.size, 0, none⟩) HZb.out).trans HC0.out
        have e1 := (HMQ.out.cell (p := ⟨wo.heap.size, 1, none⟩) HZb.out).trans HC1.out
        rcases (show j = 0 ∨ j = 1 ∨ j = 2 by omega) with rfl | rfl | rfl
        · skip
          have CW := fun W => Lib.hid (rWri_any i false hil W)
          obtain ⟨P1, L1, z1⟩ := boxP_new wr (.int .i64 (i : Int)) (.bool false) 47
          have HB1 := Lib.hid (below_nxt HBQ.out L1)
          have HR1 := Lib.hid (HRQ.out.step L1)
          have HP1 := Lib.hid P1
          have HM1 := Lib.hid (below_nxt HMQ.out L1)
          obtain ⟨p0, p1, p2⟩ := P1
          clear L1 z1
          by_cases heq : Sk.strT ((i : Int), false) = s.data.toList
          · have hy := HYes.out i false hil heq
            have hx : ((⟨(Sk.strT ((i : Int), false)).toArray⟩ : ByteArray).toList == s.toList) = true := by
              rw [ByteArray.toList_eq, ByteArray.toList_eq]
              simpa using heq
            generalize (⟨(Sk.strT ((i : Int), false)).toArray⟩ : ByteArray) = S at *
            go_wp2_with fail
            refine ((CW _).out).mono ?_
            rintro e w5 ⟨rfl, hb5⟩
            have HB5 := Lib.hid (below_nxt HB1.out hb5)
            have HR5 := Lib.hid (HR1.out.step hb5)
            clear p0 p1 p2
            obtain ⟨p0, p1, p2⟩ := HP1.out.step hb5
            obtain ⟨r0, r1, r2, r3, r4⟩ := HR5.out
            clear hb5 CW
            go_wp2
            obtain ⟨-, s1, s2, -, -⟩ := HR5.out.put (.int .i64 (i : Int)) (.bool false)
            exact bodyPost_ret (v := .tuple #[.agg #[.int .i64 (i : Int), .bool false], .bool true]) (by simp [results, Tryd.f88, go_sem, s1, s2]) rfl (RdP.yes hy ((HB5.out.setCell (p := ⟨w.heap.size, 0, none⟩) (by simp) _).setCell (p := ⟨w.heap.size, 1, none⟩) (by simp) _))
          · have hx : ((⟨(Sk.strT ((i : Int), false)).toArray⟩ : ByteArray).toList == s.toList) = false := by
              rw [ByteArray.toList_eq, ByteArray.toList_eq]
              simpa using heq
            have HI2 : Hid (∀ o : Bool, (if o then 1 else 0) < 0 + 1 → Sk.strT ((i : Int), o) ≠ s.data.toList) := Lib.hid (fun o ho => by
              cases o
              · exact heq
              · simp at ho)
            generalize (⟨(Sk.strT ((i : Int), false)).toArray⟩ : ByteArray) = S at *
            go_wp2_with fail
            refine ((CW _).out).mono ?_
            rintro e w5 ⟨rfl, hb5⟩
            have HB5 := Lib.hid (below_nxt HB1.out hb5)
            have HR5 := Lib.hid (HR1.out.step hb5)
            have HM5 := Lib.hid (below_nxt HM1.out hb5)
            clear p0 p1 p2 hb5 CW
            go_wp2
            exact ⟨⟨0 + 1, by omega, by first | rfl | go_num, HI2, HB5, HM5, HR5⟩, by simp [intOf]⟩
        · skip
          have CW := fun W => Lib.hid (rWri_any i true hil W)
          obtain ⟨P1, L1, z1⟩ := boxP_new wr (.int .i64 (i : Int)) (.bool true) 47
          have HB1 := Lib.hid (below_nxt HBQ.out L1)
          have HR1 := Lib.hid (HRQ.out.step L1)
          have HP1 := Lib.hid P1
          have HM1 := Lib.hid (below_nxt HMQ.out L1)
          obtain ⟨p0, p1, p2⟩ := P1
          clear L1 z1
          by_cases heq : Sk.strT ((i : Int), true) = s.data.toList
          · have hy := HYes.out i true hil heq
            have hx : ((⟨(Sk.strT ((i : Int), true)).toArray⟩ : ByteArray).toList == s.toList) = true := by
              rw [ByteArray.toList_eq, ByteArray.toList_eq]
              simpa using heq
            generalize (⟨(Sk.strT ((i : Int), true)).toArray⟩ : ByteArray) = S at *
            go_wp2_with fail
            refine ((CW _).out).mono ?_
            rintro e w5 ⟨rfl, hb5⟩
            have HB5 := Lib.hid (below_nxt HB1.out hb5)
            have HR5 := Lib.hid (HR1.out.step hb5)
            clear p0 p1 p2
            obtain ⟨p0, p1, p2⟩ := HP1.out.step hb5
            obtain ⟨r0, r1, r2, r3, r4⟩ := HR5.out
            clear hb5 CW
            go_wp2
            obtain ⟨-, s1, s2, -, -⟩ := HR5.out.put (.int .i64 (i : Int)) (.bool true)
            exact bodyPost_ret (v := .tuple #[.agg #[.int .i64 (i : Int), .bool true], .bool true]) (by simp [results, Tryd.f88, go_sem, s1, s2]) rfl (RdP.yes hy ((HB5.out.setCell (p := ⟨w.heap.size, 0, none⟩) (by simp) _).setCell (p := ⟨w.heap.size, 1, none⟩) (by simp) _))
          · have hx : ((⟨(Sk.strT ((i : Int), true)).toArray⟩ : ByteArray).toList == s.toList) = false := by
              rw [ByteArray.toList_eq, ByteArray.toList_eq]
              simpa using heq
            have HI2 : Hid (∀ o : Bool, (if o then 1 else 0) < 1 + 1 → Sk.strT ((i : Int), o) ≠ s.data.toList) := Lib.hid (fun o ho => by
              cases o
              · exact HI.out false (by decide)
              · exact heq)
            generalize (⟨(Sk.strT ((i : Int), true)).toArray⟩ : ByteArray) = S at *
            go_wp2_with fail
            refine ((CW _).out).mono ?_
            rintro e w5 ⟨rfl, hb5⟩
            have HB5 := Lib.hid (below_nxt HB1.out hb5)
            have HR5 := Lib.hid (HR1.out.step hb5)
            have HM5 := Lib.hid (below_nxt HM1.out hb5)
            clear p0 p1 p2 hb5 CW
            go_wp2
            exact ⟨⟨1 + 1, by omega, by first | rfl | go_num, HI2, HB5, HM5, HR5⟩, by simp [intOf]⟩
        · have HJ2 : Hid (∀ (k : Nat) (o : Bool), k < i + 1 → Sk.strT ((k : Int), o) ≠ s.data.toList) := Lib.hid (fun k o hk => by
            by_cases e : k = i
            · subst e
              exact HI.out o (by cases o <;> decide)
            · exact HJ.out k o (by omega))
          go_wp2
          exact ⟨⟨i + 1, by omega, by first | rfl | go_num, HJ2, HBQ, HRQ⟩, by simp [intOf]; omega⟩
    · obtain rfl : i = 6 := by omega
      have hn := HNone.out (fun k o hk => HJ.out k o hk)
      obtain ⟨r0, r1, r2, r3, r4⟩ := HRW.out
      go_wp2
      obtain ⟨-, s1, s2, -, -⟩ := HRW.out.put (.int .i64 0) (.bool false)
      exact bodyPost_ret (v := .tuple #[.agg #[.int .i64 0, .bool false], .bool false]) (by simp [results, Tryd.f88, go_sem, s1, s2]) rfl (RdP.no hn 0 false ((HBW.out.setCell (p := ⟨w.heap.size, 0, none⟩) (by simp) _).setCell (p := ⟨w.heap.size, 1, none⟩) (by simp) _))
end Go.Proofs.YtecfbncfhehdcaaDoor

