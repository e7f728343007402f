/- Times that hold, and closed bounds. Plain facts. -/
import Derived.Test.YtkemicfaiipidaaBHa
import Derived.Test.YtkemicfaiipidaaBw
namespace Bn
/-- Times for which bounds hold. -/
def Sat (n : Nat) (b : Mx) (t : Nat → Int) : Prop := ∀ i j, i ≤ n → j ≤ n → b i j = -1099511627776 ∨ t j - t i ≤ b i j
theorem sat_psum {n : Nat} {b : Mx} {t : Nat → Int} (h : Sat n b t) {v : Nat → Nat} : ∀ {L : Nat}, (∀ q, q ≤ L → v q ≤ n) → (∀ q, q < L → b (v q) (v (q + 1)) ≠ -1099511627776) → t (v L) - t (v 0) ≤ psum b v L
  | 0, _, _ => by rw [psum]; omega
  | L + 1, h1, h2 => by
    have h3 := sat_psum h (L := L) (fun q hq => h1 q (by omega)) (fun q hq => h2 q (by omega))
    have h4 := (h (v L) (v (L + 1)) (h1 L (by omega)) (h1 (L + 1) (by omega))).resolve_left (h2 L (by omega))
    rw [psum]
    omega
theorem sat_walk {n : Nat} {b : Mx} {t : Nat → Int} (h : Sat n b t) {L i j : Nat} {s : Int} (hw : Wk n b L i j s) : t j - t i ≤ s := by
  obtain ⟨v, rfl, rfl, h3, h4, rfl⟩ := hw
  exact sat_psum h h3 h4
theorem sat_fw {n : Nat} {b : Mx} {t : Nat → Int} (h : Sat n b t) {k : Nat} (hk : k ≤ n + 1) : Sat n (fw b k) t := fun i j hi hj => by
  by_cases e : fw b k i j = -1099511627776
  · exact .inl e
  · obtain ⟨L, -, hw⟩ := fw_walk hk hi hj e
    exact .inr (sat_walk h hw)
theorem fwLe {b : Mx} {i j : Nat} (h : b i j ≠ -1099511627776) : ∀ k, fw b k i j ≠ -1099511627776 ∧ fw b k i j ≤ b i j
  | 0 => ⟨h, Int.le_refl _⟩
  | k + 1 => by
    obtain ⟨h1, h2⟩ := fwLe h k
    obtain ⟨h3, h4⟩ := mn_le (b := sm (fw b k i k) (fw b k k j)) h1
    rw [fw_succ]
    exact ⟨h3, by omega⟩
/-- Bounds that hold for times do not contradict. -/
theorem sat_ok {n : Nat} {b : Mx} {t : Nat → Int} (hR : Rt n b) (h : Sat n b t) : ok n b = true := by
  cases e : ok n b with
  | true => rfl
  | false =>
    obtain ⟨k, hk, hb⟩ := ok_no e
    obtain ⟨i, hi, hneg⟩ := bad_iff.1 hb
    have h1 := (fwLe (b := b) (i := i) (j := i) (by rw [hR.diag i hi]; decide) (k + 1)).1
    have h2 := (sat_fw h (show k + 1 ≤ n + 1 by omega) i i hi hi).resolve_left h1
    omega
theorem sat_clo {n : Nat} {b : Mx} {t : Nat → Int} (h : Sat n b t) : Sat n (clo n b) t := sat_fw h (Nat.le_refl _)
theorem sat_of_clo {n : Nat} {b : Mx} {t : Nat → Int} (h : Sat n (clo n b) t) : Sat n b t := fun i j hi hj => by
  by_cases e : b i j = -1099511627776
  · exact .inl e
  · obtain ⟨h1, h2⟩ := fwLe e (n + 1)
    have h3 := (h i j hi hj).resolve_left h1
    unfold clo at h3
    exact .inr (by omega)
/-- The least times hold for closed bounds. -/
theorem wit_sat {n : Nat} {b : Mx} {t : Nat → Int} (hR : Rt n b) (h : ok n b = true) (ht : ∀ k, k ≤ n → clo n b k 0 ≠ -1099511627776 ∧ t k = -clo n b k 0) : Sat n (clo n b) t := fun i j hi hj => by
  by_cases e : clo n b i j = -1099511627776
  · exact .inl e
  · obtain ⟨h1, h2⟩ := ht i hi
    obtain ⟨h3, h4⟩ := ht j hj
    have := ((clo_st hR h).tri j i 0 (by omega) hi (Nat.zero_le _) e h3).2
    exact .inr (by omega)
/-- No times that hold are less. -/
theorem sat_ge {n : Nat} {b : Mx} {t : Nat → Int} (h : Sat n b t) (h0 : t 0 = 0) {k : Nat} (hk : k ≤ n) (hn : clo n b k 0 ≠ -1099511627776) : -clo n b k 0 ≤ t k := by
  have := (sat_clo h k 0 hk (Nat.zero_le _)).resolve_left hn
  omega
theorem hldB_sat {N : Nat} {R : List (List Int)} {ts : List Int} : hldB N R ts = true ↔ Sat N (mx R) (tm ts) := by
  rw [hldB_iff]
  unfold hl1 Sat
  simp only [Bool.or_eq_true, decide_eq_true_eq]
theorem sat_congr {n : Nat} {b b' : Mx} {t : Nat → Int} (he : ∀ i j, i ≤ n → j ≤ n → b i j = b' i j) (h : Sat n b t) : Sat n b' t := fun i j hi hj => by
  rw [← he i j hi hj]
  exact h i j hi hj
theorem witT_at {n : Int} {R : List (List Int)} {k i : Nat} (hi : i < k) : (witT n R k).getD i 0 = opp (cl n R (i + 1) 0) := by simp [witT, hi]
theorem opp_ne {x : Int} (h : x ≠ -1099511627776) : opp x = -x := if_neg h
theorem witN_at {n : Nat} {R : List (List Int)} (h : witN n R = true) {i : Nat} (hi : i < n) : cl n R (i + 1) 0 ≠ -1099511627776 := by
  have := List.all_eq_true.1 h i (List.mem_range.2 (by simpa using hi))
  simpa using this
/-- The witness holds for the closed bounds, so for the bounds. -/
theorem witT_sat {N : Nat} {R : List (List Int)} (hR : Rt N (mx R)) (h : ok N (mx R) = true) (hw : witN N R = true) : Sat N (clo N (mx R)) (tm (witT N R N)) := by
  refine wit_sat hR h (fun k hk => ?_)
  cases k with
  | zero =>
    have := (clo_st hR h).diag 0 (Nat.zero_le _)
    rw [this]
    exact ⟨by decide, rfl⟩
  | succ k =>
    have h1 := witN_at hw (show k < N by omega)
    have e : cl (N : Int) R (k + 1) 0 = clo N (mx R) (k + 1) 0 := by unfold cl; rw [Int.toNat_natCast]
    rw [e] at h1
    refine ⟨h1, ?_⟩
    show ((0 :: witT N R N).getD (k + 1) 0) = _
    rw [List.getD_cons_succ, witT_at (show k < N by omega), e, opp_ne h1]
/-- No times that hold are less than the witness. -/
theorem witT_ge {N : Nat} {R : List (List Int)} {ts : List Int} (h : Sat N (mx R) (tm ts)) (hw : witN N R = true) {i : Nat} (hi : i < N) : (witT N R N).getD i 0 ≤ ts.getD i 0 := by
  have h1 := witN_at hw hi
  have e : cl (N : Int) R (i + 1) 0 = clo N (mx R) (i + 1) 0 := by unfold cl; rw [Int.toNat_natCast]
  have h2 := sat_ge h rfl (show i + 1 ≤ N by omega) (by rw [← e]; exact h1)
  rw [witT_at hi, opp_ne h1, e]
  exact h2
end Bn

