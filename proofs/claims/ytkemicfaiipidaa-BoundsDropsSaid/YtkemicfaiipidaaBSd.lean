/- Right bounds with small numbers: what Close, Holds and Witness are for them. Plain facts. -/
import Derived.Test.YtkemicfaiipidaaBSc
import Derived.Test.YtkemicfaiipidaaBSa
import Derived.Test.YtkemicfaiipidaaBn
namespace Bn
theorem chk_rws {N : Nat} {m : Mx} (hN : N ≤ 12) (hb : ∀ i j, i ≤ N → j ≤ N → isB (m i j) = true) (hd : ∀ i, i ≤ N → m i i = 0) : chk N (rws N m) = 0 := by
  unfold chk
  rw [if_pos (idx_iff.2 ⟨by omega, by omega⟩), if_pos (by rw [rws_len]; rfl), Int.toNat_natCast, if_pos (shpb_yes fun i hi => (rws_shp N m).2 i (by rw [rws_len] at hi; omega))]
  refine scn_all fun i j hi hj _ => ?_
  rw [rws_at N m hi hj]
  unfold cellE
  rw [if_pos (hb i j hi hj)]
  by_cases e : i = j ∧ m i j ≠ 0
  · exact absurd (by rw [← e.1]; exact hd i hi) e.2
  · rw [if_neg e]
theorem big_no {x : Int} (h : big x = false) : x = -1099511627776 ∨ (-1000000 ≤ x ∧ x ≤ 1000000) := by
  unfold big grt at h
  by_cases e : x = -1099511627776
  · exact .inl e
  · rw [decide_eq_true e, Bool.true_and] at h
    simp only [Bool.or_eq_false_iff, decide_eq_false_iff_not] at h
    omega
/-- What right says. -/
theorem rgt_ok {n : Int} {R : List (List Int)} (h : rgt n R = true) : ∃ N : Nat, n = N ∧ N ≤ 6 ∧ chk n R = 0 ∧ Shp N R ∧ Rt N (mx R) ∧ Bd N 1000000 (mx R) := by
  unfold rgt at h
  simp only [Bool.and_eq_true, decide_eq_true_eq, Bool.not_eq_true'] at h
  obtain ⟨h1, h2, h3⟩ := h
  obtain ⟨N, rfl, h4, h5, h6⟩ := chk_ok h2
  refine ⟨N, rfl, by omega, h2, h5, h6, fun i j hi hj => ?_⟩
  have hil : i < R.length := by have := h5.1; omega
  have hjl : j < (R.getD i []).length := by have := h5.2 i hi; omega
  refine big_no ?_
  cases e : big (mx R i j) with
  | false => rfl
  | true =>
    have := anyR_at (f := fun l => l.any big) hil (any_at (f := big) hjl e)
    rw [this] at h3
    exact absurd h3 (by decide)
/-- Closed bounds are small too. -/
theorem clo_small {N : Nat} {b : Mx} (hN : N ≤ 6) (hR : Rt N b) (hB : Bd N 1000000 b) (h : ok N b = true) {i j : Nat} (hi : i ≤ N) (hj : j ≤ N) : clo N b i j = -1099511627776 ∨ (-8000000 ≤ clo N b i j ∧ clo N b i j ≤ 8000000) := by
  by_cases e : clo N b i j = -1099511627776
  · exact .inl e
  · have e2 := clo_pr hR h hi hj
    rw [← e2] at e ⊢
    obtain ⟨L, h1, h2, h3⟩ := pr_walk hi hj e
    have := h3.bd hB
    have hL : (L : Int) ≤ 8 := by omega
    refine .inr ?_
    omega
theorem clo_isB {N : Nat} {b : Mx} (hN : N ≤ 6) (hR : Rt N b) (hB : Bd N 1000000 b) (h : ok N b = true) {i j : Nat} (hi : i ≤ N) (hj : j ≤ N) : isB (clo N b i j) = true := by
  rcases clo_small hN hR hB h hi hj with e | e
  · rw [e]; rfl
  · unfold isB num
    rw [decide_eq_true (show -64000000 ≤ clo N b i j by omega), decide_eq_true (show clo N b i j ≤ 64000000 by omega)]
    simp
theorem cl_clo (N : Nat) (R : List (List Int)) (i j : Nat) : cl (N : Int) R i j = clo N (mx R) i j := by unfold cl; rw [Int.toNat_natCast]
/-- What Close returns for them. -/
theorem closV_small {N : Nat} {R : List (List Int)} (hN : N ≤ 6) (hc : chk N R = 0) (hR : Rt N (mx R)) (hB : Bd N 1000000 (mx R)) : closV N R = if ok N (mx R) then ((N : Int), rws N (clo N (mx R)), true, 0) else (0, [], false, 0) := by
  unfold closV
  rw [if_pos hc, Int.toNat_natCast]
  cases h : ok N (mx R) with
  | false => simp
  | true =>
    rw [if_pos rfl, if_pos rfl]
    have e : cloB N R = ((N : Int), rws N (clo N (mx R)), 0) := by
      unfold cloB Go.Proofs.Ytkemicfaiipidaa.Bn.bV
      rw [Int.toNat_natCast, if_pos (allB_iff.2 fun i j hi hj => by rw [cl_clo]; exact clo_isB hN hR hB h hi hj)]
      rw [rws_congr (m' := clo N (mx R)) (fun i j _ _ => cl_clo N R i j)]
    rw [e]
    rfl
theorem chk_clo {N : Nat} {b : Mx} (hN : N ≤ 6) (hR : Rt N b) (hB : Bd N 1000000 b) (h : ok N b = true) : chk N (rws N (clo N b)) = 0 :=
  chk_rws (by omega) (fun i j hi hj => clo_isB hN hR hB h hi hj) (clo_st hR h).diag
/-- The times of the witness are small. -/
theorem witT_num {N : Nat} {R : List (List Int)} (hN : N ≤ 6) (hR : Rt N (mx R)) (hB : Bd N 1000000 (mx R)) (h : ok N (mx R) = true) (hw : witN N R = true) : (witT N R N).all num = true :=
  all_num_of fun i hi => by
    rw [witT_len] at hi
    have h1 := witN_at hw hi
    rw [witT_at hi, opp_ne h1]
    rw [cl_clo] at h1 ⊢
    have h2 := (clo_small hN hR hB h (show i + 1 ≤ N by omega) (Nat.zero_le _)).resolve_left h1
    unfold num
    rw [decide_eq_true (show -64000000 ≤ -clo N (mx R) (i + 1) 0 by omega), decide_eq_true (show -clo N (mx R) (i + 1) 0 ≤ 64000000 by omega)]
    rfl
/-- Holds of times with few, small numbers. -/
theorem hldV_of {N : Nat} {R : List (List Int)} {ts : List Int} (hc : chk N R = 0) (hl : ts.length = N) (hn : ts.all num = true) : hldV N R ts = (hldB N R ts, 0) := by
  unfold hldV
  rw [if_pos hc, if_pos (by rw [hl]), hn, if_pos rfl, Int.toNat_natCast]
/-- The witness holds for the bounds and for the closed ones. -/
theorem witT_hld {N : Nat} {R : List (List Int)} (hR : Rt N (mx R)) (h : ok N (mx R) = true) (hw : witN N R = true) : hldB N R (witT N R N) = true ∧ hldB N (rws N (clo N (mx R))) (witT N R N) = true := by
  have h1 := witT_sat hR h hw
  exact ⟨hldB_sat.2 (sat_of_clo h1), hldB_sat.2 (sat_congr (fun i j hi hj => (rws_at N _ hi hj).symm) h1)⟩
/-- Bounds that contradict hold for no times. -/
theorem hld_no {N : Nat} {R : List (List Int)} {ts : List Int} (hR : Rt N (mx R)) (h : ok N (mx R) = false) : hldB N R ts = false := by
  cases e : hldB N R ts with
  | false => rfl
  | true => rw [sat_ok hR (hldB_sat.1 e)] at h; cases h
end Bn

