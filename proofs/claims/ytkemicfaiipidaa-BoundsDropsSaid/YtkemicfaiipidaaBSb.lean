/- right of law 11. -/
import Derived.Test.YtkemicfaiipidaaBSa
namespace Go.Proofs.Ytkemicfaiipidaa
open Go.RowKit
theorem row1_any (v : Value) (l : List Int) (w : World) (hs : SeeI w v l) : Calls Try.prog 50 #[v] w fun e w' => e = .returned (.bool (l.any Bn.big)) ∧ Below w.heap.size w w' := by
  have C := fun W (h : SeeI W v l) => Lib.hid (con_big v l W h)
  have HS := Lib.hid hs
  obtain ⟨ao, cap, rfl, -⟩ := hs
  generalize l.any Bn.big = q at *
  go_enter Try.func50, Try.ntmps50
  go_wp2_with fail
  refine ((C _ HS.out).out).mono ?_
  rintro e w1 ⟨rfl, hb1⟩
  have HB1 := Lib.hid hb1
  clear hb1
  go_wp2
  go_ret
  exact ⟨rfl, HB1.out⟩
set_option maxHeartbeats 2000000 in
set_option maxRecDepth 100000 in
theorem idx_row (v : Value) (R : List (List Int)) (w : World) (hs : SeesR w v R) : Calls Try.prog 71 #[v, .func (.func 50) #[] #[]] w fun e w' => ∃ r : Int, e = .returned (.int .i64 r) ∧ decide (0 ≤ r) = (R.any fun l => l.any Bn.big) ∧ Below w.heap.size w w' := by
  have HS := Lib.hid hs
  obtain ⟨ao, cap, rfl, hcap1, hcap2, -⟩ := hs
  have HAt := Lib.hid (fun i (hi : i < R.length) (h : ((R.getD i []).any Bn.big) = true) => Bn.anyR_at (f := fun l => l.any Bn.big) hi h)
  have HNo := Lib.hid (fun (h : ∀ i, i < R.length → ((R.getD i []).any Bn.big) = false) => Bn.anyR_no (f := fun l => l.any Bn.big) h)
  generalize (R.any fun l => l.any Bn.big) = q at *
  go_enter Try.func71, Try.ntmps71
  go_wp2
  go_loopw [8] (fun s8 wr => ∃ i : Nat, i ≤ R.length ∧ s8 = .int .i64 (i : Int) ∧ Hid (∀ a, a < i → ((R.getD a []).any Bn.big) = false) ∧ Hid (Below w.heap.size w wr)) (fun s8 _ => R.length - (intOf s8).toNat)
  case atStart => exact ⟨0, Nat.zero_le _, rfl, Lib.hid (fun a h => by omega), Lib.hid (Below.refl _ _)⟩
  case round =>
    obtain ⟨i, hi, rfl, HJ, HBW⟩ := hrel
    by_cases hil : i < R.length
    · obtain ⟨b, off, cap', ar, cr, hv, hb, c1, hl1, hl2, h4⟩ := (HS.out.step HBW.out).at (Below.refl _ _) hil
      simp only [Value.slice.injEq] at hv
      obtain ⟨rfl, -, -⟩ := hv
      have HAi := Lib.hid (HAt.out i hil)
      have HJ2 : Hid (((R.getD i []).any Bn.big) = false → ∀ a, a < i + 1 → ((R.getD a []).any Bn.big) = false) := Lib.hid (fun h a ha => by
        by_cases e : a = i
        · rw [e]; exact h
        · exact HJ.out a (by omega))
      clear HAt HNo HJ
      generalize R.getD i [] = y at *
      have HK : Hid (SeeI wr (.slice ar y.length cr) y) := Lib.hid ⟨ar, cr, rfl, hl1, hl2, h4⟩
      have CF := fun W (h : SeeI W (.slice ar y.length cr) y) => Lib.hid (row1_any _ y W h)
      generalize y.any Bn.big = f at *
      clear h4
      cases f
      · have HJ3 := Lib.hid (HJ2.out rfl)
        clear HAi HJ2
        go_wp2_with fail
        refine ((CF _ HK.out).out).mono ?_
        rintro e w1 ⟨rfl, h1⟩
        have HB1 := Lib.hid (below_nxt HBW.out h1)
        clear h1 CF c1
        go_wp2
        exact ⟨⟨i + 1, by omega, by first | rfl | go_num, HJ3, HB1⟩, by simp [intOf]; omega⟩
      · have hq := HAi.out rfl
        subst hq
        go_wp2_with fail
        refine ((CF _ HK.out).out).mono ?_
        rintro e w1 ⟨rfl, h1⟩
        have HB1 := Lib.hid (below_nxt HBW.out h1)
        clear h1 CF c1
        go_wp2
        go_ret
        exact ⟨_, rfl, decide_eq_true (by omega), HB1.out⟩
    · obtain rfl : i = R.length := by omega
      have hq := HNo.out HJ.out
      subst hq
      go_wp2
      go_ret
      exact ⟨-1, rfl, by decide, HBW.out⟩
theorem con_row (v : Value) (R : List (List Int)) (w : World) (hs : SeesR w v R) : Calls Try.prog 49 #[v, .func (.func 50) #[] #[]] w fun e w' => e = .returned (.bool (R.any fun l => l.any Bn.big)) ∧ Below w.heap.size w w' := by
  have C := fun W (h : SeesR W v R) => Lib.hid (idx_row v R W h)
  have HS := Lib.hid hs
  obtain ⟨ao, cap, rfl, -⟩ := hs
  generalize (R.any fun l => l.any Bn.big) = q at *
  go_enter Try.func49, Try.ntmps49
  go_wp2_with fail
  refine ((C _ HS.out).out).mono ?_
  rintro e w1 ⟨r, rfl, hr, hb1⟩
  have HB1 := Lib.hid hb1
  clear hb1
  subst hr
  go_wp2
  go_ret
  exact ⟨rfl, HB1.out⟩
set_option maxHeartbeats 2000000 in
set_option maxRecDepth 100000 in
theorem right_any (n : Int) (v : Value) (R : List (List Int)) (w : World) (hs : SeesR w v R) : Calls Try.prog 16 #[.agg #[.int .i64 n, v]] w fun e w' => e = .returned (.bool (Bn.rgt n R)) ∧ Below w.heap.size w w' := by
  have CC := fun W (h : SeesR W v R) => Lib.hid (rChk_any n v R W h)
  have CR := fun W (h : SeesR W v R) => Lib.hid (con_row v R W h)
  have HS := Lib.hid hs
  obtain ⟨ao, cap, rfl, hcap1, hcap2, -⟩ := hs
  obtain ⟨B0, L0⟩ := boxB_new w n (.slice ao R.length cap) 24
  have HB := Lib.hid L0
  have HX := Lib.hid B0
  obtain ⟨x0, x1, x2⟩ := B0
  clear L0
  unfold Bn.rgt
  generalize (R.any fun l => l.any Bn.big) = q at *
  by_cases h6 : n ≤ 6
  · have h6z : decide (6 < n) = false := decide_eq_false (by omega)
    rw [decide_eq_true h6, Bool.true_and]
    by_cases h0 : Bn.chk n R = 0
    · rw [decide_eq_true h0, Bool.true_and]
      rw [h0] at CC
      clear h0 h6
      go_enter Try.func16, Try.ntmps16
      go_wp2_with fail
      clear x0 x1 x2
      refine ((CC _ (HS.out.step HB.out)).out).mono ?_
      rintro e w1 ⟨rfl, hb1⟩
      have HB1 := Lib.hid (below_nxt HB.out hb1)
      obtain ⟨x0, x1, x2⟩ := HX.out.step hb1
      clear hb1 CC HB
      go_wp2_with fail
      refine ((CR _ (HS.out.step HB1.out)).out).mono ?_
      rintro e w2 ⟨rfl, hb2⟩
      have HB2 := Lib.hid (below_nxt HB1.out hb2)
      clear hb2 CR HB1
      go_wp2
      go_ret
      exact ⟨rfl, HB2.out⟩
    · rw [decide_eq_false h0, Bool.false_and]
      have h0z : (Bn.chk n R != 0) = true := by simpa using h0
      generalize Bn.chk n R = c at *
      clear h0 h6
      go_enter Try.func16, Try.ntmps16
      go_wp2_with fail
      clear x0 x1 x2
      refine ((CC _ (HS.out.step HB.out)).out).mono ?_
      rintro e w1 ⟨rfl, hb1⟩
      have HB1 := Lib.hid (below_nxt HB.out hb1)
      clear hb1 CC HB
      go_wp2
      go_ret
      exact ⟨rfl, HB1.out⟩
  · have h6z : decide (6 < n) = true := decide_eq_true (by omega)
    rw [decide_eq_false h6, Bool.false_and]
    clear h6
    go_enter Try.func16, Try.ntmps16
    go_wp2
    go_ret
    exact ⟨rfl, HB.out⟩
end Go.Proofs.Ytkemicfaiipidaa

