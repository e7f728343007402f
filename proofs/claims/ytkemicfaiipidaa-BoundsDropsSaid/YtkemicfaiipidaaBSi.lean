/- Forget and Shift of right bounds with small numbers, and the extents behind Forget. Plain facts. -/
import Derived.Test.YtkemicfaiipidaaBSg
import Derived.Test.YtkemicfaiipidaaBU
import Derived.Test.YtkemicfaiipidaaBC
namespace Bn
theorem cwE_one {N a : Nat} {R : List (List Int)} {f : Int} (hc : chk N R = 0) (h1 : f ≤ (a : Int)) (haN : a ≤ N) : cwE N R f [(a : Int)] = if ok N (mx R) then 0 else 16 := by
  have e : cix N R f [(a : Int)] = 0 := by
    unfold cix
    rw [if_pos hc, if_pos]
    simp only [List.all_cons, List.all_nil, Bool.and_true]
    exact idx_iff.2 ⟨h1, by omega⟩
  unfold cwE
  rw [if_pos e, Int.toNat_natCast]
theorem bV_ok {N : Nat} {m : Mx} (h : ∀ i j, i ≤ N → j ≤ N → isB (m i j) = true) : Go.Proofs.Ytkemicfaiipidaa.Bn.bV N m = ((N : Int), rws N m, 0) := by
  unfold Go.Proofs.Ytkemicfaiipidaa.Bn.bV
  rw [if_pos (allB_iff.2 h)]
theorem fgF_eq {N a : Nat} {u : Mx} {x y : Nat} (h : ¬ (x ≠ y ∧ (x = a ∨ y = a))) : fgF N a u x y = u x y := by
  unfold fgF
  rw [if_neg]
  rintro ⟨-, -, h3, h4⟩
  exact h ⟨h3, h4⟩
theorem fgF_no {N a : Nat} {u : Mx} {x y : Nat} (hx : x ≤ N) (hy : y ≤ N) (h : x ≠ y) (h2 : x = a ∨ y = a) : fgF N a u x y = -1099511627776 := if_pos ⟨hx, hy, h, h2⟩
theorem fgF_st {N a : Nat} {u : Mx} (h : St N (N + 1) u) : St N (N + 1) (fgF N a u) := by
  have hd : ∀ i, i ≤ N → fgF N a u i i = 0 := fun i hi => by rw [fgF_eq (by simp)]; exact h.diag i hi
  refine ⟨fun i j hi hj => ?_, hd, fun k i j hk hi hj h1 h2 => ?_⟩
  · by_cases e : i ≠ j ∧ (i = a ∨ j = a)
    · exact .inl (fgF_no hi hj e.1 e.2)
    · rw [fgF_eq e]; exact h.bd i j hi hj
  · by_cases e1 : i = k
    · subst e1
      rw [hd i hi]
      exact ⟨h2, by omega⟩
    · by_cases e2 : k = j
      · subst e2
        rw [hd k hj]
        exact ⟨h1, by omega⟩
      · have n1 : ¬ (i ≠ k ∧ (i = a ∨ k = a)) := fun g => h1 (fgF_no hi (by omega) g.1 g.2)
        have n2 : ¬ (k ≠ j ∧ (k = a ∨ j = a)) := fun g => h2 (fgF_no (by omega) hj g.1 g.2)
        have n3 : ¬ (i ≠ j ∧ (i = a ∨ j = a)) := by grind
        rw [fgF_eq n1] at h1 ⊢
        rw [fgF_eq n2] at h2 ⊢
        rw [fgF_eq n3]
        exact h.tri k i j hk hi hj h1 h2
section
variable {N a : Nat} {R : List (List Int)} (hN : N ≤ 6) (hc : chk N R = 0) (hR : Rt N (mx R)) (hB : Bd N 1000000 (mx R)) (h1 : 1 ≤ a) (haN : a ≤ N) (h : ok N (mx R) = true)
include hN hR hB h
theorem fgF_isB {i j : Nat} (hi : i ≤ N) (hj : j ≤ N) : isB (fgF N a (clo N (mx R)) i j) = true := by
  by_cases e : i ≠ j ∧ (i = a ∨ j = a)
  · rw [fgF_no hi hj e.1 e.2]; rfl
  · rw [fgF_eq e]; exact clo_isB hN hR hB h hi hj
include hc h1 haN
theorem forV_small : forV N R a = ((N : Int), rws N (fgF N a (clo N (mx R))), 0) := by
  unfold forV
  rw [if_pos (by rw [cwE_one hc (by omega) haN, if_pos h]), Int.toNat_natCast, Int.toNat_natCast, bV_ok (fun i j hi hj => ?_)]
  · rw [rws_congr (m' := fgF N a (clo N (mx R))) (fun i j hi hj => fgF_congr (fun i j _ _ => cl_clo N R i j) i j hi hj)]
  · rw [fgF_congr (fun i j _ _ => cl_clo N R i j) i j hi hj]
    exact fgF_isB hN hR hB h hi hj
theorem shiV_small : shiV N R a = (((N - 1 : Nat) : Int), rws (N - 1) (shM N R a), 0) := by
  unfold shiV
  rw [if_pos (by rw [cwE_one hc (by omega) haN, if_pos h]), Int.toNat_natCast, Int.toNat_natCast, bV_ok (fun i j hi hj => ?_)]
  unfold shM
  rw [cl_clo]
  exact clo_isB hN hR hB h (shf_le haN hi h1) (shf_le haN hj h1)
omit hc in
theorem chk_shi : chk ((N - 1 : Nat) : Int) (rws (N - 1) (shM N R a)) = 0 :=
  chk_rws (by omega) (fun i j hi hj => by unfold shM; rw [cl_clo]; exact clo_isB hN hR hB h (shf_le haN hi h1) (shf_le haN hj h1))
    (fun i hi => by unfold shM; rw [cl_clo]; exact (clo_st hR h).diag _ (shf_le haN hi h1))
omit hN hB hR h1 haN in
theorem extV_at {j : Nat} (hj : j ≤ N) : extV N R j = (opp (clo N (mx R) j 0), clo N (mx R) 0 j, 0) := by
  unfold extV
  rw [if_pos (by rw [cwE_one hc (by omega) hj, if_pos h]), Int.toNat_natCast, cl_clo, cl_clo]
omit hc h1 haN in
theorem extV_for {j : Nat} (hj : j ≤ N) : extV N (rws N (fgF N a (clo N (mx R)))) j = (opp (fgF N a (clo N (mx R)) j 0), fgF N a (clo N (mx R)) 0 j, 0) := by
  have hst := fgF_st (a := a) (clo_st hR h)
  have hm : St N (N + 1) (mx (rws N (fgF N a (clo N (mx R))))) := st_congr (fun _ _ hi hj => (rws_at N _ hi hj).symm) (Nat.le_refl _) hst
  have hk : chk N (rws N (fgF N a (clo N (mx R)))) = 0 := chk_rws (by omega) (fun i j hi hj => fgF_isB hN hR hB h hi hj) hst.diag
  have hcl : ∀ {x y : Nat}, x ≤ N → y ≤ N → clo N (mx (rws N (fgF N a (clo N (mx R))))) x y = fgF N a (clo N (mx R)) x y := fun hx hy => by rw [clo_same hm hx hy, rws_at N _ hx hy]
  unfold extV
  rw [if_pos (by rw [cwE_one hk (by omega) hj, if_pos (ok_st hm)]), Int.toNat_natCast, cl_clo, cl_clo, hcl hj (Nat.zero_le _), hcl (Nat.zero_le _) hj]
omit hc hN hB hR h in
theorem extV_here : opp (fgF N a (clo N (mx R)) a 0) = -1099511627776 ∧ fgF N a (clo N (mx R)) 0 a = -1099511627776 := by
  rw [fgF_no haN (Nat.zero_le _) (by omega) (.inl rfl), fgF_no (Nat.zero_le _) haN (by omega) (.inr rfl)]
  exact ⟨rfl, rfl⟩
omit hc hN hB hR h haN in
theorem extV_there {j : Nat} (hne : j ≠ a) : fgF N a (clo N (mx R)) j 0 = clo N (mx R) j 0 ∧ fgF N a (clo N (mx R)) 0 j = clo N (mx R) 0 j :=
  ⟨fgF_eq (by omega), fgF_eq (by omega)⟩
omit hc hN hB hR h haN in
/-- Where the time j lies behind Shift. -/
theorem shM_at {j x : Nat} (hj : 1 ≤ j) (hne : j ≠ a) (hx : x = if a < j then j - 1 else j) : shM N R a 0 x = clo N (mx R) a j ∧ shM N R a x 0 = clo N (mx R) j a := by
  have e0 : shf a 0 = a := rfl
  have e1 : shf a x = j := by
    rw [hx]
    unfold shf
    split <;> split <;> (try split) <;> omega
  unfold shM
  rw [e0, e1, cl_clo, cl_clo]
  exact ⟨rfl, rfl⟩
end
end Bn
