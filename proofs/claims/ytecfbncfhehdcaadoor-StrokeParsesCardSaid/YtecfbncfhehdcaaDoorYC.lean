/- Step of the reference. -/
import Derived.Test.YtecfbncfhehdcaaDoorYB
import Derived.Test.YtecfbncfhehdcaaDoorRL
namespace Sk
theorem wtV_num (l : List UInt8) : wtV l = if (Tm.numV l).2 && decide ((Tm.numV l).1 ≠ 0) then ((Tm.numV l).1, true) else (0, false) := by
  unfold wtV Tm.numV
  cases Tm.numOk l with
  | false => simp
  | true =>
    simp only [if_true, Bool.true_and]
    by_cases h : Fr.dv l = 0
    · simp [h]
    · rw [if_pos (by simpa using h), if_pos (by simpa using fun e => h (by omega))]
end Sk
namespace Go.Proofs.YtecfbncfhehdcaaDoor
open Go.RowKit
theorem RowS.form {B : Nat} {e : TypeId} {w : World} {v : Value} {l : List ByteArray} (h : RowS B e w v l) (hl : 0 < l.length) : ∃ g cap, v = .slice (some ⟨g, 0, none⟩) l.length cap ∧ B ≤ g ∧ g < w.heap.size ∧ l.length ≤ cap ∧ cap ≤ 9223372036854775807 := by
  have hlt := World.ownsRow.lt h
  rcases h.2 with ⟨rfl, h0⟩ | ⟨g, cap, cur, rfl, hb, hg, h1, h2, h3⟩
  · omega
  · exact ⟨g, cap, rfl, (hlt g rfl).1, (hlt g rfl).2, h1, by unfold maxLen at h2; omega⟩
theorem RowS.at {B g cap : Nat} {e : TypeId} {w : World} {l : List ByteArray} (h : RowS B e w (.slice (some ⟨g, 0, none⟩) l.length cap) l) {i : Nat} (hi : i < l.length) : w.cell? ⟨g, i, none⟩ = some (.string (l.getD i ⟨#[]⟩)) := by
  have h5 := World.ownsRow.cellAt h i (by omega)
  rw [h5, List.getElem?_map, List.getElem?_eq_getElem hi, Option.map_some, List.getD_eq_getElem?_getD, List.getElem?_eq_getElem hi]
  rfl
/-- Where texts lie. -/
def CellsF (W : World) (g : Nat) (F : List ByteArray) : Prop := g < W.heap.size ∧ ∀ i, i < F.length → W.cell? ⟨g, i, none⟩ = some (.string (F.getD i ⟨#[]⟩))
theorem CellsF.step {W W' : World} {g : Nat} {F : List ByteArray} (h : CellsF W g F) (hb : Below W.heap.size W W') : CellsF W' g F :=
  ⟨Nat.lt_of_lt_of_le h.1 hb.size, fun i hi => (hb.cell (p := ⟨g, i, none⟩) h.1).trans (h.2 i hi)⟩
theorem CellsF.grown {W W' : World} {g : Nat} {F : List ByteArray} (h : CellsF W g F) {row : Option Nat} (hg : W.grownBy W' row) (hr : ∀ r, row = some r → r ≠ g) : CellsF W' g F :=
  ⟨Nat.lt_of_lt_of_le h.1 hg.size, fun i hi => (World.cell?_of_block (w := W) (hg.block g h.1 (fun e => hr g e.symm rfl))).trans (h.2 i hi)⟩
theorem CellsF.set {W : World} {g k o : Nat} {F : List ByteArray} (h : CellsF W g F) (hk : k ≠ g) (u : Value) : CellsF (W.setCell ⟨k, o, none⟩ u) g F :=
  ⟨by simpa using h.1, fun i hi => (World.cell?_setCell_other (w := W) (v := u) (a := ⟨k, o, none⟩) (b := ⟨g, i, none⟩) (fun e => hk (congrArg Addr.block e))).trans (h.2 i hi)⟩
/-- What Step of the reference leaves. -/
def StP (q : Sk.Stp × Int) (w : World) (e : Ending) (w' : World) : Prop := ∃ v, e = .returned (.tuple #[.agg #[v, .int .i64 q.1.2], .int .i64 q.2]) ∧ SeeK w' v q.1.1 ∧ (∀ r, v.ownBlock = some r → w.heap.size ≤ r ∧ r < w'.heap.size) ∧ Below w.heap.size w w'
theorem StP.nil {w w' : World} {q : Sk.Stp × Int} {c : Int} (hq : q = (Sk.t0, c)) (hb : Below w.heap.size w w') : StP q w (.returned (.tuple #[.agg #[.slice none 0 0, .int .i64 0], .int .i64 c])) w' := by
  subst hq
  exact ⟨.slice none 0 0, rfl, SeeK.nil _, (fun r e => by cases e), hb⟩
set_option maxHeartbeats 8000000 in
set_option maxRecDepth 100000 in
theorem rSt_any (s : ByteArray) (w : World) (hz : s.size ≤ 8192) : Calls Tryd.prog 56 #[.string s] w (StP (Sk.stV s.data.toList) w) := by
  obtain ⟨i0, hi0, hzi0, hzi1, hzi2⟩ := info_str2
  have hRR := resP_new w (.slice none 0 0) (.int .i64 0) 70
  have hXX := resP_new (w.alloc (.cells #[.slice none 0 0, .int .i64 0] 70)) (.slice none 0 0) (.int .i64 0) 70
  rw [World.size_alloc] at hXX
  have HR0 := Lib.hid (hRR.step (allocB _ (.cells #[.slice none 0 0, .int .i64 0] 70)))
  have HX0 := Lib.hid hXX
  have HL0 : Hid (Below w.heap.size w ((w.alloc (.cells #[.slice none 0 0, .int .i64 0] 70)).alloc (.cells #[.slice none 0 0, .int .i64 0] 70))) := Lib.hid ((allocB w _).alloc (by simp) _)
  have hlz : s.data.toList.length = s.size := Array.length_toList
  have hpl := Sk.prt_len s.data.toList [32] (by decide) (s.data.toList.length + 1) 0 (Nat.zero_le _)
  have hpp := Sk.prt_pos s.data.toList [32] s.data.toList.length 0
  have hps := Sk.prt_sum s.data.toList [32] (by decide) (s.data.toList.length + 1) 0 (Nat.zero_le _)
  change (Sk.prts s.data.toList [32]).length ≤ _ at hpl
  change 0 < (Sk.prts s.data.toList [32]).length at hpp
  change ∀ p ∈ Sk.prts s.data.toList [32], _ at hps
  have hrd : Sk.rdP s.data.toList = Sk.runP (Sk.prts s.data.toList [32]) ([], 0) := rfl
  have hsv : Sk.stV s.data.toList = (match Sk.rdP s.data.toList with
    | none => (Sk.t0, 4)
    | some y => if Sk.chkP y.1 y.2 = 0 then (y, 0) else (Sk.t0, Sk.chkP y.1 y.2)) := rfl
  rw [hrd] at hsv
  have HSV := Lib.hid hsv
  clear hRR hXX hsv hrd
  go_enter Tryd.func56, Tryd.ntmps56
  go_wp2_with fail
  refine (rCut_any s ⟨#[32]⟩ _ hz (by decide) (by decide)).mono ?_
  rintro e w1 ⟨v, F, rfl, hr, hf, hb⟩
  change F.map (·.data.toList) = (Sk.prts s.data.toList [32]).map (·.2) at hf
  simp only [World.size_alloc] at hr
  have HR1 := Lib.hid (HR0.out.step hb)
  have HX1 := Lib.hid (HX0.out.step hb)
  have HB1 := Lib.hid (below_nxt HL0.out hb)
  have HZ1 : Hid (w.heap.size + 2 ≤ w1.heap.size) := Lib.hid (by have := hb.size; simp at this; omega)
  have hFl : F.length = (Sk.prts s.data.toList [32]).length := by have := congrArg List.length hf; simpa using this
  obtain ⟨g, cap, rfl, hg1, hg2, hc1, hc2⟩ := hr.form (by omega)
  have HF : Hid (∀ i, i < F.length → ∃ p r, (Sk.prts s.data.toList [32]).drop i = p :: r ∧ r = (Sk.prts s.data.toList [32]).drop (i + 1) ∧ p.2 = (F.getD i ⟨#[]⟩).data.toList ∧ (F.getD i ⟨#[]⟩).size ≤ 8192) := Lib.hid (fun i hi => by
    have hi2 : i < (Sk.prts s.data.toList [32]).length := by omega
    refine ⟨(Sk.prts s.data.toList [32])[i], _, List.drop_eq_getElem_cons hi2, rfl, ?_⟩
    have h1 : ((Sk.prts s.data.toList [32])[i]).2 = (F.getD i ⟨#[]⟩).data.toList := by
      have := congrArg (fun l : List (List UInt8) => l[i]?) hf
      simp only [List.getElem?_map, List.getElem?_eq_getElem hi, List.getElem?_eq_getElem hi2, Option.map_some, Option.some.injEq] at this
      rw [List.getD_eq_getElem?_getD, List.getElem?_eq_getElem hi]; exact this.symm
    refine ⟨h1, ?_⟩
    have h2 := hps _ (List.getElem_mem hi2)
    rw [h1, hlz] at h2
    have h3 : (F.getD i ⟨#[]⟩).data.toList.length = (F.getD i ⟨#[]⟩).size := Array.length_toList
    omega)
  have HFl2 : Hid (F.length = (Sk.prts s.data.toList [32]).length) := Lib.hid hFl
  have HFl : Hid (F.length = (Sk.prts s.data.toList [32]).length) := Lib.hid hFl
  have HRow := Lib.hid (show CellsF w1 g F from ⟨hg2, fun i hi => hr.at hi⟩)
  obtain ⟨B, hB⟩ : ∃ B, w1.heap.size = B := ⟨_, rfl⟩
  have hz1 : g < B := by omega
  have hz3 : w.heap.size + 2 ≤ B := by have := HZ1.out; omega
  have HZB : Hid (B ≤ w1.heap.size) := Lib.hid (by omega)
  have hF0 : 0 < F.length := by omega
  have hF1 : F.length ≤ 8193 := by omega
  generalize Sk.prts s.data.toList [32] = P at *
  generalize Sk.stV s.data.toList = q at *
  clear hf hr hb hFl hg2 hB hpl hpp hps hlz HR0 HX0 HL0
  go_wp2
  go_loopw [6] (fun s6 wr => ∃ (i : Nat) (L : List Sk.Str) (n : Int) (u : Value), s6 = .int .i64 (i : Int) ∧ i ≤ F.length ∧ L.length ≤ i ∧ Hid ((n = 0 → L.length = i) ∧ (n ≠ 0 → i = F.length) ∧ Sk.runP P ([], 0) = Sk.runP (P.drop i) (L, n)) ∧
    Hid (RowK B 47 wr u L) ∧ Hid (ResP wr (w.heap.size + 1) u (.int .i64 n)) ∧ Hid (ResP wr w.heap.size (.slice none 0 0) (.int .i64 0)) ∧ Hid (CellsF wr g F) ∧ Hid (Below w.heap.size w wr) ∧ Hid (B ≤ wr.heap.size)) (fun s6 _ => F.length - (intOf s6).toNat)
  case atStart => exact ⟨0, [], 0, .slice none 0 0, rfl, Nat.zero_le _, Nat.le_refl _, Lib.hid ⟨fun _ => rfl, fun h => absurd rfl h, rfl⟩, Lib.hid (RowK.nil _ _ _), HX1, HR1, HRow, HB1, HZB⟩
  case round =>
    clear HX1 HR1 HRow HB1 HZ1 HZB
    obtain ⟨i, L, n, u, rfl, hi, hL, HJ, HK, HX, HR, HRow, HB, hz2⟩ := hrel
    have hFz : (F.length : Int) ≤ 8193 := by omega
    by_cases hil : i < F.length
    · have hilz : (i : Int) < (F.length : Int) := by omega
      obtain ⟨hj1, hj2, hj3⟩ := HJ.out
      have hn0 : n = 0 := by
        by_cases h : n = 0
        · exact h
        · exact absurd (hj2 h) (by omega)
      subst hn0
      have HLi := Lib.hid (hj1 rfl)
      obtain ⟨p, r, hd, hr, hp, hpz⟩ := HF.out i hil
      rw [hd] at hj3
      have c1 := HRow.out.2 i hil
      have hrl : r ≠ [] ↔ i + 1 < F.length := by
        rw [hr, ne_eq, List.drop_eq_nil_iff, ← HFl.out]; omega
      have hrn : ¬ i + 1 < F.length → r = [] := fun h => by rw [hr, List.drop_eq_nil_iff, ← HFl.out]; omega
      have HJ3 := Lib.hid hj3
      have HRd := Lib.hid hr
      have CR := fun W => Lib.hid (rRd_any (F.getD i ⟨#[]⟩) W)
      have CN := fun W => Lib.hid (rNumber_any (F.getD i ⟨#[]⟩) W (by omega))
      have hw := Sk.wtV_num (F.getD i ⟨#[]⟩).data.toList
      rw [← hp] at CR CN hw
      have HWB := Lib.hid (Sk.wtV_bd p.2)
      clear hj1 hj2 hj3 hr hp HF hd HFl
      generalize hS : F.getD i ⟨#[]⟩ = S at *
      have HS := Lib.hid hS
      clear hS
      obtain ⟨wo, rfl⟩ : ∃ wo, wo = wr := ⟨_, rfl⟩
      cases hrs : Sk.rdS p.2 with
      | some y =>
        obtain ⟨a, o⟩ := y
        have CR2 : ∀ W, Hid (Calls Tryd.prog 88 #[.string S] W fun e w' => e = .returned (.tuple #[.agg #[.int .i64 a, .bool o], .bool true]) ∧ Below W.heap.size W w') := fun W => Lib.hid ((CR W).out.mono (by rintro e w' ⟨a', o', rfl, hy, hb⟩; have := hy _ hrs; cases this; rw [hrs]; exact ⟨rfl, hb⟩))
        have HJn : Hid (Sk.runP P ([], 0) = Sk.runP r (L ++ [(a, o)], 0)) := Lib.hid (by rw [HJ3.out, Sk.runP_read hrs])
        clear CR CN hw hrs HJ3 HWB HJ hrn hrl
        go_wp2_with fail
        refine ((CR2 _).out).mono ?_
        rintro e w2 ⟨rfl, hb2⟩
        have L3 := allocB w2 (.cells #[.int .i64 a, .bool o] 47)
        have hb3 := below_nxt hb2 L3
        have HB3 := Lib.hid (below_nxt HB.out hb3)
        have HX3 := Lib.hid (HX.out.step hb3)
        have HR3 := Lib.hid (HR.out.step hb3)
        have HK3 := Lib.hid (HK.out.step hb3)
        have HF3 := Lib.hid (HRow.out.step hb3)
        have HZ3 := Lib.hid (Nat.le_trans hz2.out hb3.size)
        obtain ⟨x0, x1, x2, x3, x4⟩ := HX3.out
        have HRO := Lib.hid (fun r e => (World.ownsRow.lt HK3.out r e).1)
        clear hb2 L3 hb3 HB HX HR HK HRow hz2 c1 CR2
        go_wp2_with (at_builtin; refine wpList_append_str rfl _ _ 34 rfl 47 i0 Tryd.underlying34 hi0 hzi0 hzi1 hzi2 _ L (a, o) (w2.heap.size + 1) rfl rfl B (HK3.out.step (allocB _ _)) (by simp) (by simp) (by omega) (Nat.le_trans HZ3.out (by simp)) ?_; intro a5 p5 w5 hr5 hg5 hb5; have HX5 := Lib.hid ((HX3.out.step (allocB _ (.cells #[.int .i64 a, .bool o] 47))).grown hg5 (fun r e => by have := (World.ownsRow.lt HK3.out r e).1; omega)); have HR5 := Lib.hid hr5; have HG5 := Lib.hid hg5; have HB5 := Lib.hid ((HB3.out.alloc HB3.out.size (.cells #[.int .i64 a, .bool o] 47)).grown hg5 (Nat.le_trans HB3.out.size (by simp)) (fun r e => by have := (World.ownsRow.lt HK3.out r e).1; omega)); clear hr5 hg5 hb5; obtain ⟨s0, s1, s2, s3, s4⟩ := HX5.out)
        have HF5 := (HF3.out.step (allocB _ (.cells #[.int .i64 a, .bool o] 47))).grown HG5.out (fun r e => by have := HRO.out r e; omega)
        have HRR5 := (HR3.out.step (allocB _ (.cells #[.int .i64 a, .bool o] 47))).grown HG5.out (fun r e => by have := HRO.out r e; omega)
        refine ⟨⟨i + 1, L ++ [(a, o)], 0, _, by first | rfl | go_num, by omega, by simp; omega, Lib.hid ⟨fun _ => by have := HLi.out; simp; omega, fun h => absurd rfl h, by rw [HJn.out, HRd.out]⟩, Lib.hid (HR5.out.set (by show w.heap.size + 1 < B; omega) _), Lib.hid (HX5.out.put0 _), Lib.hid (HRR5.other (by omega) _), Lib.hid (HF5.set (by omega) _), Lib.hid (HB5.out.setCell (p := ⟨w.heap.size + 1, 0, none⟩) (by simp) _), Lib.hid (Nat.le_trans HZ3.out (by have := HG5.out.size; simp at this ⊢; omega))⟩, by simp [intOf]; omega⟩
      | none =>
        have CR2 : ∀ W, Hid (Calls Tryd.prog 88 #[.string S] W fun e w' => ∃ a o, e = .returned (.tuple #[.agg #[.int .i64 a, .bool o], .bool false]) ∧ Below W.heap.size W w') := fun W => Lib.hid ((CR W).out.mono (by rintro e w' ⟨a', o', rfl, hy, hb⟩; rw [hrs]; exact ⟨a', o', rfl, hb⟩))
        have HBad := Lib.hid (fun h => show q = (Sk.t0, 4) by rw [HSV.out, HJ3.out, Sk.runP_bad hrs h])
        have HEnd := Lib.hid (fun h1 h2 h3 => show Sk.runP P ([], 0) = some (L, (Sk.wtV p.2).1) by rw [HJ3.out, (show r = [] from h3), Sk.runP_end hrs h1 h2])
        clear CR hrs HJ3 HJ
        generalize Sk.wtV p.2 = wv at *
        generalize Tm.numV p.2 = nv at *
        obtain ⟨nm, ok⟩ := nv
        simp only at CN hw
        by_cases hgood : (ok = true ∧ nm ≠ 0) ∧ i ≠ 0 ∧ i + 1 = F.length
        · obtain ⟨⟨rfl, hnm⟩, hi0, hi1⟩ := hgood
          rw [decide_eq_true hnm, Bool.and_true, if_pos rfl] at hw
          subst hw
          have HE2 := Lib.hid (HEnd.out rfl (by rw [HLi.out]; exact hi0) (hrn (by omega)))
          have hnm' : (nm == 0) = false := by rw [beq_eq_false_iff_ne]; exact hnm
          have hi0' : ((i : Int) == 0) = false := by rw [beq_eq_false_iff_ne]; omega
          have hi1' : decide ((i : Int) < (F.length : Int) - 1) = false := decide_eq_false (by omega)
          have hi2' : IntKind.i64.wrap ((F.length : Int) - 1) = (F.length : Int) - 1 := IntWalk.i64_in _ (by omega)
          have HNM := Lib.hid hnm
          have HI1 := Lib.hid hi1
          clear HBad HEnd HWB hnm hi0 hi1 hrl hrn
          go_wp2_with fail
          refine ((CR2 _).out).mono ?_
          rintro e w2 ⟨a, o, rfl, hb2⟩
          have L3 := allocB w2 (.cells #[.int .i64 a, .bool o] 47)
          have hb3 := below_nxt hb2 L3
          have HB3 := Lib.hid (below_nxt HB.out hb3)
          have HX3 := Lib.hid (HX.out.step hb3)
          have HR3 := Lib.hid (HR.out.step hb3)
          have HK3 := Lib.hid (HK.out.step hb3)
          have HF3 := Lib.hid (HRow.out.step hb3)
          have HZ3 := Lib.hid (Nat.le_trans hz2.out hb3.size)
          obtain ⟨x0, x1, x2, x3, x4⟩ := HX3.out
          have c2 := HF3.out.2 i hil
          rw [HS.out] at c2
          clear hb2 L3 hb3 HB HX HR HK HRow hz2 c1 CR2
          go_wp2_with fail
          refine ((CN _).out).mono ?_
          rintro e w3 ⟨rfl, rfl⟩
          go_wp2
          exact ⟨⟨i + 1, L, nm, _, by first | rfl | go_num, by omega, by omega, Lib.hid ⟨fun h => absurd h HNM.out, fun _ => HI1.out, by
            rw [HE2.out, List.drop_eq_nil_of_le (by have := HFl2.out; have := HI1.out; omega)]; rfl⟩, Lib.hid (HK3.out.set (by show w.heap.size + 1 < B; omega) _), Lib.hid (HX3.out.put1 _), Lib.hid (HR3.out.other (by omega) _), Lib.hid (HF3.out.set (by omega) _), Lib.hid (HB3.out.setCell (p := ⟨w.heap.size + 1, 1, none⟩) (by simp) _), Lib.hid (by have := HZ3.out; simpa using this)⟩, by simp [intOf]; omega⟩
        · have hrl2 : i + 1 < F.length → r ≠ [] := hrl.2
          rcases (show ok = false ∨ (ok = true ∧ nm = 0) ∨ (ok = true ∧ nm ≠ 0 ∧ i = 0) ∨ (ok = true ∧ nm ≠ 0 ∧ i ≠ 0 ∧ i + 1 < F.length) by
            cases ok
            · exact .inl rfl
            · by_cases h1 : nm = 0
              · exact .inr (.inl ⟨rfl, h1⟩)
              · by_cases h2 : i = 0
                · exact .inr (.inr (.inl ⟨rfl, h1, h2⟩))
                · refine .inr (.inr (.inr ⟨rfl, h1, h2, ?_⟩))
                  by_cases h3 : i + 1 = F.length
                  · exact absurd ⟨⟨rfl, h1⟩, h2, h3⟩ hgood
                  · omega) with rfl | ⟨rfl, rfl⟩ | ⟨rfl, hnm, h0⟩ | ⟨rfl, hnm, h0, h1⟩
          · have HQ := Lib.hid (HBad.out (.inl (by rw [hw]; rfl)))
            clear hrl2 HBad HEnd HWB hrl hrn hw hgood
            go_wp2_with fail
            refine ((CR2 _).out).mono ?_
            rintro e w2 ⟨a, o, rfl, hb2⟩
            have L3 := allocB w2 (.cells #[.int .i64 a, .bool o] 47)
            have hb3 := below_nxt hb2 L3
            have HB3 := Lib.hid (below_nxt HB.out hb3)
            have HX3 := Lib.hid (HX.out.step hb3)
            have HR3 := Lib.hid (HR.out.step hb3)
            have HF3 := Lib.hid (HRow.out.step hb3)
            obtain ⟨x0, x1, x2, x3, x4⟩ := HX3.out
            obtain ⟨r0, r1, r2, r3, r4⟩ := HR3.out
            have c2 := HF3.out.2 i hil
            rw [HS.out] at c2
            clear hb2 L3 hb3 HB HX HR HK HRow hz2 c1 CR2
            go_wp2_with fail
            refine ((CN _).out).mono ?_
            rintro e w3 ⟨rfl, rfl⟩
            go_wp2
            obtain ⟨-, s1, s2, -, -⟩ := HR3.out.put (.slice none 0 0) (.int .i64 0)
            exact bodyPost_ret (v := .tuple #[.agg #[.slice none 0 0, .int .i64 0], .int .i64 4]) (by simp [results, Tryd.f56, go_sem, s1, s2]) rfl (StP.nil HQ.out ((HB3.out.setCell (p := ⟨w.heap.size, 0, none⟩) (by simp) _).setCell (p := ⟨w.heap.size, 1, none⟩) (by simp) _))
          · have HQ := Lib.hid (HBad.out (.inl (by rw [hw]; rfl)))
            clear hrl2 HBad HEnd HWB hrl hrn hw hgood
            go_wp2_with fail
            refine ((CR2 _).out).mono ?_
            rintro e w2 ⟨a, o, rfl, hb2⟩
            have L3 := allocB w2 (.cells #[.int .i64 a, .bool o] 47)
            have hb3 := below_nxt hb2 L3
            have HB3 := Lib.hid (below_nxt HB.out hb3)
            have HX3 := Lib.hid (HX.out.step hb3)
            have HR3 := Lib.hid (HR.out.step hb3)
            have HF3 := Lib.hid (HRow.out.step hb3)
            obtain ⟨x0, x1, x2, x3, x4⟩ := HX3.out
            obtain ⟨r0, r1, r2, r3, r4⟩ := HR3.out
            have c2 := HF3.out.2 i hil
            rw [HS.out] at c2
            clear hb2 L3 hb3 HB HX HR HK HRow hz2 c1 CR2
            go_wp2_with fail
            refine ((CN _).out).mono ?_
            rintro e w3 ⟨rfl, rfl⟩
            go_wp2
            obtain ⟨-, s1, s2, -, -⟩ := HR3.out.put (.slice none 0 0) (.int .i64 0)
            exact bodyPost_ret (v := .tuple #[.agg #[.slice none 0 0, .int .i64 0], .int .i64 4]) (by simp [results, Tryd.f56, go_sem, s1, s2]) rfl (StP.nil HQ.out ((HB3.out.setCell (p := ⟨w.heap.size, 0, none⟩) (by simp) _).setCell (p := ⟨w.heap.size, 1, none⟩) (by simp) _))
          · have hnm' : (nm == 0) = false := by rw [beq_eq_false_iff_ne]; exact hnm
            have hi0' : ((i : Int) == 0) = true := by rw [h0]; rfl
            have HQ := Lib.hid (HBad.out (.inr (.inl (by rw [HLi.out]; exact h0))))
            clear hrl2 hnm h0 HBad HEnd HWB hrl hrn hw hgood
            go_wp2_with fail
            refine ((CR2 _).out).mono ?_
            rintro e w2 ⟨a, o, rfl, hb2⟩
            have L3 := allocB w2 (.cells #[.int .i64 a, .bool o] 47)
            have hb3 := below_nxt hb2 L3
            have HB3 := Lib.hid (below_nxt HB.out hb3)
            have HX3 := Lib.hid (HX.out.step hb3)
            have HR3 := Lib.hid (HR.out.step hb3)
            have HF3 := Lib.hid (HRow.out.step hb3)
            obtain ⟨x0, x1, x2, x3, x4⟩ := HX3.out
            obtain ⟨r0, r1, r2, r3, r4⟩ := HR3.out
            have c2 := HF3.out.2 i hil
            rw [HS.out] at c2
            clear hb2 L3 hb3 HB HX HR HK HRow hz2 c1 CR2
            go_wp2_with fail
            refine ((CN _).out).mono ?_
            rintro e w3 ⟨rfl, rfl⟩
            go_wp2
            obtain ⟨-, s1, s2, -, -⟩ := HR3.out.put (.slice none 0 0) (.int .i64 0)
            exact bodyPost_ret (v := .tuple #[.agg #[.slice none 0 0, .int .i64 0], .int .i64 4]) (by simp [results, Tryd.f56, go_sem, s1, s2]) rfl (StP.nil HQ.out ((HB3.out.setCell (p := ⟨w.heap.size, 0, none⟩) (by simp) _).setCell (p := ⟨w.heap.size, 1, none⟩) (by simp) _))
          · have hnm' : (nm == 0) = false := by rw [beq_eq_false_iff_ne]; exact hnm
            have hi0' : ((i : Int) == 0) = false := by rw [beq_eq_false_iff_ne]; omega
            have hi1' : decide ((i : Int) < (F.length : Int) - 1) = true := decide_eq_true (by omega)
            have hi2' : IntKind.i64.wrap ((F.length : Int) - 1) = (F.length : Int) - 1 := IntWalk.i64_in _ (by omega)
            have HQ := Lib.hid (HBad.out (.inr (.inr (hrl2 h1))))
            clear hrl2 hnm h0 h1 HBad HEnd HWB hrl hrn hw hgood
            go_wp2_with fail
            refine ((CR2 _).out).mono ?_
            rintro e w2 ⟨a, o, rfl, hb2⟩
            have L3 := allocB w2 (.cells #[.int .i64 a, .bool o] 47)
            have hb3 := below_nxt hb2 L3
            have HB3 := Lib.hid (below_nxt HB.out hb3)
            have HX3 := Lib.hid (HX.out.step hb3)
            have HR3 := Lib.hid (HR.out.step hb3)
            have HF3 := Lib.hid (HRow.out.step hb3)
            obtain ⟨x0, x1, x2, x3, x4⟩ := HX3.out
            obtain ⟨r0, r1, r2, r3, r4⟩ := HR3.out
            have c2 := HF3.out.2 i hil
            rw [HS.out] at c2
            clear hb2 L3 hb3 HB HX HR HK HRow hz2 c1 CR2
            go_wp2_with fail
            refine ((CN _).out).mono ?_
            rintro e w3 ⟨rfl, rfl⟩
            go_wp2
            obtain ⟨-, s1, s2, -, -⟩ := HR3.out.put (.slice none 0 0) (.int .i64 0)
            exact bodyPost_ret (v := .tuple #[.agg #[.slice none 0 0, .int .i64 0], .int .i64 4]) (by simp [results, Tryd.f56, go_sem, s1, s2]) rfl (StP.nil HQ.out ((HB3.out.setCell (p := ⟨w.heap.size, 0, none⟩) (by simp) _).setCell (p := ⟨w.heap.size, 1, none⟩) (by simp) _))
    · have hil2 : i = F.length := by omega
      have hq : q = if Sk.chkP L n = 0 then ((L, n), 0) else (Sk.t0, Sk.chkP L n) := by
        rw [HSV.out, HJ.out.2.2, List.drop_eq_nil_of_le (by rw [← HFl.out]; omega)]
        rfl
      have CS := fun W (h : SeeK W u L) => Lib.hid (rStp_any u L n W h)
      have hlt := fun r e => World.ownsRow.lt HK.out r e
      obtain ⟨ua, uc, hu⟩ := HK.out.form
      have HS := Lib.hid HK.out.sees
      have HLT : Hid (∀ r, u.ownBlock = some r → w.heap.size + 2 ≤ r ∧ r < wr.heap.size) := Lib.hid (fun r e => ⟨by have := (hlt r e).1; omega, (hlt r e).2⟩)
      obtain ⟨x0, x1, x2, x3, x4⟩ := HX.out
      clear hlt HF HJ HFl HFl2 HSV HRow hz2 HK
      have hilz : (i : Int) = (F.length : Int) := by omega
      subst hu
      by_cases hc : Sk.chkP L n = 0
      · rw [if_pos hc] at hq
        rw [hc] at CS
        subst hq
        clear hc
        go_wp2_with fail
        refine ((CS _ HS.out).out).mono ?_
        rintro e w2 ⟨rfl, hb2⟩
        have HB2 := Lib.hid (below_nxt HB.out hb2)
        have HR2 := Lib.hid (HR.out.step hb2)
        have HS2 := Lib.hid (HS.out.step hb2)
        have HX2 := Lib.hid (HX.out.step hb2)
        have HZ2 := Lib.hid hb2.size
        clear x0 x1 x2 x3 x4 hb2
        obtain ⟨x0, x1, x2, x3, x4⟩ := HX2.out
        obtain ⟨r0, r1, r2, r3, r4⟩ := HR2.out
        go_wp2
        obtain ⟨-, s1, s2, -, -⟩ := HR2.out.put (.slice ua L.length uc) (.int .i64 n)
        refine bodyPost_ret (v := .tuple #[.agg #[.slice ua L.length uc, .int .i64 n], .int .i64 0]) (by simp [results, Tryd.f56, go_sem, s1, s2]) rfl ⟨_, rfl, ?_, fun r e => ⟨by have := (HLT.out r e).1; omega, by have := (HLT.out r e).2; have := HZ2.out; simp; omega⟩, (HB2.out.setCell (p := ⟨w.heap.size, 0, none⟩) (by simp) _).setCell (p := ⟨w.heap.size, 1, none⟩) (by simp) _⟩
        refine HS2.out.same (by simp) (fun r e _ => ?_)
        have hr2 := (HLT.out r e).1
        exact (Below.heap_setCell _ _ _ _ (by show r ≠ w.heap.size; omega)).trans (Below.heap_setCell _ _ _ _ (by show r ≠ w.heap.size; omega))
      · rw [if_neg hc] at hq
        have hct : (Sk.chkP L n != 0) = true := by simpa using hc
        have HQ := Lib.hid hq
        clear hq hc
        generalize Sk.chkP L n = c at *
        go_wp2_with fail
        refine ((CS _ HS.out).out).mono ?_
        rintro e w2 ⟨rfl, hb2⟩
        have HB2 := Lib.hid (below_nxt HB.out hb2)
        have HR2 := Lib.hid (HR.out.step hb2)
        clear x0 x1 x2 x3 x4 hb2
        obtain ⟨r0, r1, r2, r3, r4⟩ := HR2.out
        go_wp2
        obtain ⟨-, s1, s2, -, -⟩ := HR2.out.put (.slice none 0 0) (.int .i64 0)
        exact bodyPost_ret (v := .tuple #[.agg #[.slice none 0 0, .int .i64 0], .int .i64 c]) (by simp [results, Tryd.f56, go_sem, s1, s2]) rfl (StP.nil HQ.out ((HB2.out.setCell (p := ⟨w.heap.size, 0, none⟩) (by simp) _).setCell (p := ⟨w.heap.size, 1, none⟩) (by simp) _))
end Go.Proofs.YtecfbncfhehdcaaDoor
