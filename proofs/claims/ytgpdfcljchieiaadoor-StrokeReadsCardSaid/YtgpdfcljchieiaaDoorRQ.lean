/- The call of the statement StrokeFormats. -/
import Derived.Test.YtgpdfcljchieiaaDoorRN
namespace Sk
/-- Is there a step with too many strokes? -/
def many (L : List Stp) : Bool := L.any (fun x => !decide (x.1.length ≤ 40))
theorem many_at {L : List Stp} {i : Nat} (hi : i < L.length) (h : decide ((L.getD i t0).1.length ≤ 40) = false) : many L = true := by
  unfold many
  rw [List.any_eq_true]
  refine ⟨L.getD i t0, ?_, by rw [h]; rfl⟩
  rw [List.getD_eq_getElem?_getD, List.getElem?_eq_getElem hi]
  exact List.getElem_mem hi
theorem many_no {L : List Stp} (h : ∀ i, i < L.length → decide ((L.getD i t0).1.length ≤ 40) = true) : many L = false := by
  unfold many
  rw [List.any_eq_false]
  intro x hx
  obtain ⟨i, hi, rfl⟩ := List.mem_iff_getElem.1 hx
  have := h i hi
  rw [List.getD_eq_getElem?_getD, List.getElem?_eq_getElem hi] at this
  have h2 : decide (L[i].1.length ≤ 40) = true := this
  rw [h2]; decide
end Sk
namespace Go.Proofs.YtgpdfcljchieiaaDoor
open Go.RowKit
theorem cls_any (u : Value) (l : List Sk.Str) (n : Int) (w : World) (hu : SeeK w u l) : Calls Tryd.prog 26 #[.agg #[u, .int .i64 n]] w fun e w' => e = .returned (.bool !decide (l.length ≤ 40)) ∧ Below w.heap.size w w' := by
  have HU := Lib.hid hu
  obtain ⟨ao, cap, rfl, -⟩ := hu
  have F := fun W (h : SeeK W (.slice ao l.length cap) l) => Lib.hid (rFew_any (.slice ao l.length cap) (.slice none 0 0) l n [] W h (SeeB.nil W))
  rw [show (decide (([] : List Bool).length ≤ 40)) = true from rfl, Bool.and_true] at F
  obtain ⟨P0, L0, z0⟩ := boxP_new w (.slice ao l.length cap) (.int .i64 n) 39
  have HL := Lib.hid L0
  obtain ⟨p0, p1, p2⟩ := P0
  clear L0 z0
  generalize decide (l.length ≤ 40) = q at *
  go_enter Tryd.func26, Tryd.ntmps26
  go_wp2_with fail
  refine ((F _ (HU.out.step HL.out)).out).mono ?_
  rintro e w1 ⟨rfl, hb1⟩
  have HB1 := Lib.hid (below_nxt HL.out hb1)
  clear hb1
  go_wp2
  go_ret
  exact ⟨rfl, HB1.out⟩
set_option maxHeartbeats 4000000 in
set_option maxRecDepth 100000 in
theorem idx_any (v : Value) (L : List Sk.Stp) (w : World) (hs : SeeT w v L) : Calls Tryd.prog 48 #[v, .func (.func 26) #[] #[]] w fun e w' => ∃ r : Int, e = .returned (.int .i64 r) ∧ decide (0 ≤ r) = Sk.many L ∧ Below w.heap.size w w' := by
  obtain ⟨ao, cap, rfl, hcap1, hcap2, hC⟩ := hs
  have HC := Lib.hid hC
  clear hC
  have HAt := Lib.hid (fun i (hi : i < L.length) h => Sk.many_at hi h)
  have HNo := Lib.hid (fun h => Sk.many_no (L := L) h)
  generalize Sk.many L = q at *
  go_enter Tryd.func48, Tryd.ntmps48
  go_wp2
  go_loopw [8] (fun s8 wr => ∃ i : Nat, i ≤ L.length ∧ s8 = .int .i64 (i : Int) ∧ Hid (∀ a, a < i → decide ((L.getD a Sk.t0).1.length ≤ 40) = true) ∧ Hid (Below w.heap.size w wr)) (fun s8 _ => L.length - (intOf s8).toNat)
  case atStart => exact ⟨0, Nat.zero_le _, rfl, Lib.hid (fun a h => by omega), Lib.hid (Below.refl _ _)⟩
  case round =>
    obtain ⟨i, hi, rfl, HJ, HBW⟩ := hrel
    by_cases hil : i < L.length
    · obtain ⟨g, off, ak, ck, rfl, hg, c1, c2, hk⟩ := (HC.out.step HBW.out).at (Below.refl _ _) hil
      have HAi := Lib.hid (HAt.out i hil)
      have HJ2 : Hid (decide ((L.getD i Sk.t0).1.length ≤ 40) = true → ∀ a, a < i + 1 → decide ((L.getD a Sk.t0).1.length ≤ 40) = true) := Lib.hid (fun h a ha => by
        by_cases e : a = i
        · rw [e]; exact h
        · exact HJ.out a (by omega))
      clear HAt HNo HJ
      generalize L.getD i Sk.t0 = y at *
      obtain ⟨l, n⟩ := y
      simp only at c1 c2 hk HAi HJ2
      have HK := Lib.hid hk
      have CF := fun W (h : SeeK W (.slice ak l.length ck) l) => Lib.hid (cls_any (.slice ak l.length ck) l n W h)
      generalize decide (l.length ≤ 40) = f at *
      clear hk
      cases f
      · have hq := HAi.out rfl
        subst hq
        go_wp2_with fail
        refine ((CF _ HK.out).out).mono ?_
        rintro e w1 ⟨rfl, hb1⟩
        have HB1 := Lib.hid (below_nxt HBW.out hb1)
        clear hb1 CF c1 c2
        go_wp2
        go_ret
        exact ⟨_, rfl, decide_eq_true (by omega), HB1.out⟩
      · have HJ3 := Lib.hid (HJ2.out rfl)
        clear HAi HJ2
        go_wp2_with fail
        refine ((CF _ HK.out).out).mono ?_
        rintro e w1 ⟨rfl, hb1⟩
        have HB1 := Lib.hid (below_nxt HBW.out hb1)
        clear hb1 CF c1 c2
        go_wp2
        exact ⟨⟨i + 1, by omega, by first | rfl | go_num, HJ3, HB1⟩, by simp [intOf]; omega⟩
    · obtain rfl : i = L.length := by omega
      have hq := HNo.out HJ.out
      subst hq
      go_wp2
      go_ret
      exact ⟨-1, rfl, by decide, HBW.out⟩
theorem con_any (v : Value) (L : List Sk.Stp) (w : World) (hs : SeeT w v L) : Calls Tryd.prog 25 #[v, .func (.func 26) #[] #[]] w fun e w' => e = .returned (.bool (Sk.many L)) ∧ Below w.heap.size w w' := by
  have C := fun W (h : SeeT W v L) => Lib.hid (idx_any v L W h)
  have HS := Lib.hid hs
  obtain ⟨ao, cap, rfl, -⟩ := hs
  generalize Sk.many L = q at *
  go_enter Tryd.func25, Tryd.ntmps25
  go_wp2_with fail
  refine ((C _ HS.out).out).mono ?_
  rintro e w1 ⟨r, rfl, hr, hb1⟩
  have HB1 := Lib.hid hb1
  clear hb1
  subst hr
  go_wp2
  go_ret
  exact ⟨rfl, HB1.out⟩
set_option maxHeartbeats 8000000 in
set_option maxRecDepth 100000 in
theorem formats_any (v : Value) (L : List Sk.Stp) (w : World) (hst : StQ w) (hs : SeeT w v L) : Calls Tryd.prog 5 #[v] w fun e w' => e = .returned (.bool true) ∧ Below w.heap.size w w' := by
  have HST := Lib.hid hst
  have HS := Lib.hid hs
  obtain ⟨ao, cap, rfl, -⟩ := hs
  have CC := fun W (h : SeeT W (.slice ao L.length cap) L) => Lib.hid (con_any (.slice ao L.length cap) L W h)
  have C1 : ∀ W, StQ W → SeeT W (.slice ao L.length cap) L → Hid (Calls Tryd.prog 27 #[.slice ao L.length cap] W fun e w' => e = .returned (.tuple #[.string ⟨(Sk.fmtV L).1.toArray⟩, .int .i64 (Sk.fmtV L).2]) ∧ Below W.heap.size W w') := fun W h g => Lib.hid (sFmt_any _ L W h.st g)
  have C2 : ∀ W, SeeT W (.slice ao L.length cap) L → Hid (Calls Tryd.prog 28 #[.slice ao L.length cap] W fun e w' => e = .returned (.tuple #[.string ⟨(Sk.fmtV L).1.toArray⟩, .int .i64 (Sk.fmtV L).2]) ∧ Below W.heap.size W w') := fun W g => Lib.hid (rFmt_any _ L W g)
  generalize (⟨(Sk.fmtV L).1.toArray⟩ : ByteArray) = T at *
  generalize (Sk.fmtV L).2 = q at *
  generalize Sk.many L = m at *
  clear hst
  by_cases h128 : 128 < L.length
  · have h' : decide (128 < (L.length : Int)) = true := decide_eq_true (by omega)
    clear CC C1 C2
    go_enter Tryd.func5, Tryd.ntmps5
    go_wp2_with fail
    refine (awake_any _ HST.out).mono ?_
    rintro e wz ⟨rfl, hbz⟩
    have HBz := Lib.hid hbz
    clear hbz
    go_wp2
    go_ret
    exact ⟨rfl, HBz.out⟩
  · have h' : decide (128 < (L.length : Int)) = false := decide_eq_false (by omega)
    cases m
    · go_enter Tryd.func5, Tryd.ntmps5
      go_wp2_with fail
      refine ((CC _ HS.out).out).mono ?_
      rintro e w1 ⟨rfl, hb1⟩
      have HB1 := Lib.hid hb1
      clear hb1 CC
      go_wp2_with fail
      refine ((C1 _ (HST.out.step HB1.out) (HS.out.step HB1.out)).out).mono ?_
      rintro e w2 ⟨rfl, hb2⟩
      have HB2 := Lib.hid (below_nxt HB1.out hb2)
      clear hb2 C1
      go_wp2_with fail
      refine ((C2 _ (HS.out.step HB2.out)).out).mono ?_
      rintro e w3 ⟨rfl, hb3⟩
      have HB3 := Lib.hid (below_nxt HB2.out hb3)
      clear hb3 C2
      go_wp2_with fail
      refine (awake_any _ (HST.out.step HB3.out)).mono ?_
      rintro e wz ⟨rfl, hbz⟩
      have HBz := Lib.hid (below_nxt HB3.out hbz)
      clear hbz
      go_wp2
      go_ret
      exact ⟨rfl, HBz.out⟩
    · go_enter Tryd.func5, Tryd.ntmps5
      go_wp2_with fail
      refine ((CC _ HS.out).out).mono ?_
      rintro e w1 ⟨rfl, hb1⟩
      have HB1 := Lib.hid hb1
      clear hb1 CC C1 C2
      go_wp2_with fail
      refine (awake_any _ (HST.out.step HB1.out)).mono ?_
      rintro e wz ⟨rfl, hbz⟩
      have HBz := Lib.hid (below_nxt HB1.out hbz)
      clear hbz
      go_wp2
      go_ret
      exact ⟨rfl, HBz.out⟩
end Go.Proofs.YtgpdfcljchieiaaDoor
