/- What Close, Leq and Meet return for right bounds with small numbers, and for closed ones. Plain facts. -/
import Derived.Test.YtkemicfaiipidaaBSf
import Derived.Test.YtkemicfaiipidaaBMa
namespace Bn
theorem st_congr {n K : Nat} {m m' : Mx} (he : ∀ i j, i ≤ n → j ≤ n → m i j = m' i j) (hK : K ≤ n + 1) (h : St n K m) : St n K m' :=
  ⟨fun i j hi hj => by rw [← he i j hi hj]; exact h.bd i j hi hj, fun i hi => by rw [← he i i hi hi]; exact h.diag i hi,
    fun k i j hk hi hj => by rw [← he i k hi (by omega), ← he k j (by omega) hj, ← he i j hi hj]; exact h.tri k i j hk hi hj⟩
theorem mx_clo_st {N : Nat} {R : List (List Int)} (hR : Rt N (mx R)) (h : ok N (mx R) = true) : St N (N + 1) (mx (rws N (clo N (mx R)))) :=
  st_congr (fun _ _ hi hj => (rws_at N _ hi hj).symm) (Nat.le_refl _) (clo_st hR h)
theorem cl_same {N : Nat} {R : List (List Int)} (hR : Rt N (mx R)) (h : ok N (mx R) = true) {i j : Nat} (hi : i ≤ N) (hj : j ≤ N) : cl (N : Int) (rws N (clo N (mx R))) i j = clo N (mx R) i j := by
  rw [cl_clo, clo_same (mx_clo_st hR h) hi hj, rws_at N _ hi hj]
/-- Closed bounds are closed already. -/
theorem closV_clo {N : Nat} {R : List (List Int)} (hN : N ≤ 6) (hR : Rt N (mx R)) (hB : Bd N 1000000 (mx R)) (h : ok N (mx R) = true) : closV N (rws N (clo N (mx R))) = ((N : Int), rws N (clo N (mx R)), true, 0) := by
  unfold closV
  rw [if_pos (chk_clo hN hR hB h), Int.toNat_natCast, if_pos (ok_st (mx_clo_st hR h))]
  have e : cloB N (rws N (clo N (mx R))) = ((N : Int), rws N (clo N (mx R)), 0) := by
    unfold cloB Go.Proofs.Ytkemicfaiipidaa.Bn.bV
    rw [Int.toNat_natCast, if_pos (allB_iff.2 fun i j hi hj => by rw [cl_same hR h hi hj]; exact clo_isB hN hR hB h hi hj)]
    rw [rws_congr (m' := clo N (mx R)) (fun i j hi hj => cl_same hR h hi hj)]
  rw [e]
  rfl
theorem twE_same {N : Nat} {R S : List (List Int)} (h1 : chk N R = 0) (h2 : chk N S = 0) : twE N R N S = 0 := by
  unfold twE
  rw [if_pos h1, if_pos h2, if_pos rfl]
theorem leqB_congr2 {N : Nat} {u u' : Mx} {S : List (List Int)} (h : ∀ i j, i ≤ N → j ≤ N → u i j = u' i j) : leqB N u S = leqB N u' S := by
  refine bool_eq ?_
  rw [leqB_iff, leqB_iff]
  constructor
  · intro g i j hi hj; rw [← h i j hi hj]; exact g i j hi hj
  · intro g i j hi hj; rw [h i j hi hj]; exact g i j hi hj
theorem leqV_small {N : Nat} {R S : List (List Int)} (h1 : chk N R = 0) (h2 : chk N S = 0) : leqV N R N S = (if ok N (mx R) then leqB N (clo N (mx R)) S else true, 0) := by
  unfold leqV
  rw [if_pos (twE_same h1 h2), Int.toNat_natCast, leqB_congr2 (u' := clo N (mx R)) (fun i j _ _ => cl_clo N R i j)]
/-- Closed bounds are not greater. -/
theorem leqV_clo {N : Nat} {R : List (List Int)} (hN : N ≤ 6) (hc : chk N R = 0) (hR : Rt N (mx R)) (hB : Bd N 1000000 (mx R)) (h : ok N (mx R) = true) : leqV N (rws N (clo N (mx R))) N R = (true, 0) := by
  unfold leqV
  rw [if_pos (twE_same (chk_clo hN hR hB h) hc), Int.toNat_natCast, if_pos (ok_st (mx_clo_st hR h))]
  rw [leqB_iff.2 (fun i j hi hj => ?_)]
  rw [cl_same hR h hi hj]
  unfold less
  by_cases e : mx R i j = -1099511627776
  · rw [decide_eq_false (fun g => g e), Bool.false_and]
  · have := fwLe e (N + 1)
    rw [decide_eq_true e, Bool.true_and]
    unfold clo
    rw [decide_eq_false this.1, decide_eq_false (by omega)]
    rfl
theorem meeV_small {N : Nat} {R S : List (List Int)} (h1 : chk N R = 0) (h2 : chk N S = 0) : meeV N R N S = ((N : Int), rws N (metM R S), 0) := by
  unfold meeV
  rw [if_pos (twE_same h1 h2), Int.toNat_natCast]
theorem chk_met {N : Nat} {R S : List (List Int)} (hR : Rt N (mx R)) (hS : Rt N (mx S)) : chk N (rws N (metM R S)) = 0 :=
  chk_rws hR.n12 (allB_iff.1 (metM_allB hR hS)) (fun i hi => by unfold metM; rw [hR.diag i hi, hS.diag i hi]; rfl)
/-- Bounds that are at most others hold for no times but theirs. -/
theorem leq_hld {N : Nat} {R S : List (List Int)} {ts : List Int} (hl : leqB N (clo N (mx R)) S = true) (h : hldB N R ts = true) : hldB N S ts = true :=
  hldB_sat.2 (leqB_sat hl (sat_clo (hldB_sat.1 h)))
end Bn

