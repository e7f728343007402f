/- Meet, Leq and closing twice, in words of times that hold. Plain facts. -/
import Derived.Test.YtkemicfaiipidaaBSd
namespace Bn
theorem sat_met {N : Nat} {R S : List (List Int)} {t : Nat → Int} : Sat N (metM R S) t ↔ Sat N (mx R) t ∧ Sat N (mx S) t := by
  constructor
  · intro h
    constructor
    · intro i j hi hj
      by_cases e : mx R i j = -1099511627776
      · exact .inl e
      · have h1 := mn_le (b := mx S i j) e
        have h2 := (h i j hi hj).resolve_left h1.1
        unfold metM at h2
        exact .inr (by omega)
    · intro i j hi hj
      by_cases e : mx S i j = -1099511627776
      · exact .inl e
      · have h1 := mn_le' (a := mx R i j) e
        have h2 := (h i j hi hj).resolve_left h1.1
        unfold metM at h2
        exact .inr (by omega)
  · rintro ⟨h1, h2⟩ i j hi hj
    unfold metM
    rcases mn_or (mx R i j) (mx S i j) with e | e
    · rw [e]; exact h1 i j hi hj
    · rw [e]; exact h2 i j hi hj
theorem hldB_met {N : Nat} {R S : List (List Int)} {ts : List Int} : hldB N (rws N (metM R S)) ts = (hldB N R ts && hldB N S ts) := by
  refine bool_eq ?_
  rw [Bool.and_eq_true, hldB_sat, hldB_sat, hldB_sat]
  constructor
  · intro h
    exact sat_met.1 (sat_congr (fun i j hi hj => rws_at N _ hi hj) h)
  · intro h
    exact sat_congr (fun i j hi hj => (rws_at N _ hi hj).symm) (sat_met.2 h)
theorem less_no {a b : Int} (h : less a b = false) : a = -1099511627776 ∨ (b ≠ -1099511627776 ∧ b ≤ a) := by
  unfold less at h
  by_cases e : a = -1099511627776
  · exact .inl e
  · rw [decide_eq_true e, Bool.true_and] at h
    simp only [Bool.or_eq_false_iff, decide_eq_false_iff_not] at h
    exact .inr ⟨h.1, by omega⟩
/-- Times for which bounds hold, hold for those that are not less. -/
theorem leqB_sat {N : Nat} {b : Mx} {S : List (List Int)} {t : Nat → Int} (h : leqB N b S = true) (hs : Sat N b t) : Sat N (mx S) t := fun i j hi hj => by
  rcases less_no (leqB_iff.1 h i j hi hj) with e | ⟨e1, e2⟩
  · exact .inl e
  · have := (hs i j hi hj).resolve_left e1
    exact .inr (by omega)
/-- What is closed stays as it is. -/
theorem fw_same {n : Nat} {m : Mx} (h : St n (n + 1) m) : ∀ {k : Nat}, k ≤ n + 1 → ∀ i j, i ≤ n → j ≤ n → fw m k i j = m i j
  | 0, _, _, _, _, _ => rfl
  | k + 1, hk, i, j, hi, hj => by
    have hkn : k ≤ n := by omega
    rw [fw_succ, fw_same h (by omega) i j hi hj, fw_same h (by omega) i k hi hkn, fw_same h (by omega) k j hkn hj]
    by_cases e1 : m i k = -1099511627776
    · rw [e1]; unfold mn sm; simp; exact fun g => g.symm
    · by_cases e2 : m k j = -1099511627776
      · rw [e2]; unfold mn sm; simp; exact fun g => g.symm
      · obtain ⟨h1, h2⟩ := h.tri k i j (by omega) hi hj e1 e2
        rw [sm_add e1 e2]
        unfold mn
        rw [if_neg (fun g => g.elim h1 (fun g => by omega))]
theorem clo_same {n : Nat} {m : Mx} (h : St n (n + 1) m) {i j : Nat} (hi : i ≤ n) (hj : j ≤ n) : clo n m i j = m i j := fw_same h (Nat.le_refl _) i j hi hj
theorem ok_st {n : Nat} {m : Mx} (h : St n (n + 1) m) : ok n m = true := by
  cases e : ok n m with
  | true => rfl
  | false =>
    obtain ⟨k, hk, hb⟩ := ok_no e
    obtain ⟨i, hi, hneg⟩ := bad_iff.1 hb
    rw [fw_same h (by omega) i i hi hi, h.diag i hi] at hneg
    omega
/-- Closed bounds hold for the same times. -/
theorem hldB_clo {N : Nat} {R : List (List Int)} {ts : List Int} : hldB N (rws N (clo N (mx R))) ts = hldB N R ts := by
  refine bool_eq ?_
  rw [hldB_sat, hldB_sat]
  constructor
  · intro h
    exact sat_of_clo (sat_congr (fun i j hi hj => rws_at N _ hi hj) h)
  · intro h
    exact sat_congr (fun i j hi hj => (rws_at N _ hi hj).symm) (sat_clo h)
end Bn

