/- Do times hold? Plain facts. -/
import Derived.Test.YtkemicfaiipidaaBMa
namespace Bn
/-- The times, with t[0] = 0 before them. -/
def tm (ts : List Int) (k : Nat) : Int := (0 :: ts).getD k 0
def hl1 (R : List (List Int)) (ts : List Int) (i j : Nat) : Bool := decide (mx R i j = -1099511627776) || decide (tm ts j - tm ts i ≤ mx R i j)
def hldB (N : Nat) (R : List (List Int)) (ts : List Int) : Bool := (List.range (N + 1)).all fun i => (List.range (N + 1)).all fun j => hl1 R ts i j
/-- What Holds returns. -/
def hldV (n : Int) (R : List (List Int)) (ts : List Int) : Bool × Int :=
  if chk n R = 0 then (if (ts.length : Int) = n then (if ts.all num then (hldB n.toNat R ts, 0) else (false, 2)) else (false, 8)) else (false, chk n R)
theorem hldB_iff {N : Nat} {R : List (List Int)} {ts : List Int} : hldB N R ts = true ↔ ∀ i j, i ≤ N → j ≤ N → hl1 R ts i j = true := by
  unfold hldB
  rw [List.all_eq_true]
  constructor
  · intro h i j hi hj
    have := List.all_eq_true.1 (h i (List.mem_range.2 (by omega))) j (List.mem_range.2 (by omega))
    exact this
  · intro h i hi
    rw [List.all_eq_true]
    intro j hj
    exact h i j (by have := List.mem_range.1 hi; omega) (by have := List.mem_range.1 hj; omega)
theorem num_iff {x : Int} : num x = true ↔ -64000000 ≤ x ∧ x ≤ 64000000 := by unfold num; simp
theorem all_num {ts : List Int} (h : ts.all num = true) {i : Nat} (hi : i < ts.length) : -64000000 ≤ ts.getD i 0 ∧ ts.getD i 0 ≤ 64000000 := by
  rw [List.getD_eq_getElem?_getD, List.getElem?_eq_getElem hi]
  exact num_iff.1 (List.all_eq_true.1 h _ (List.getElem_mem hi))
theorem tm_bd {ts : List Int} (h : ts.all num = true) (k : Nat) : -64000000 ≤ tm ts k ∧ tm ts k ≤ 64000000 := by
  unfold tm
  rcases k with _ | k
  · simp
  · by_cases hk : k < ts.length
    · simpa using all_num h hk
    · simp [List.getD, List.getElem?_eq_none (Nat.le_of_not_lt hk)]
theorem all_num_of {ts : List Int} (h : ∀ i, i < ts.length → num (ts.getD i 0) = true) : ts.all num = true := by
  rw [List.all_eq_true]
  intro x hx
  obtain ⟨i, hi, rfl⟩ := List.mem_iff_getElem.1 hx
  have := h i hi
  rw [List.getD_eq_getElem?_getD, List.getElem?_eq_getElem hi] at this
  exact this
theorem all_num_no {ts : List Int} {i : Nat} (hi : i < ts.length) (h : num (ts.getD i 0) = false) : ts.all num = false := by
  rw [List.all_eq_false]
  refine ⟨ts[i], List.getElem_mem hi, ?_⟩
  rw [List.getD_eq_getElem?_getD, List.getElem?_eq_getElem hi] at h
  simpa using h
theorem hl1_bd {N : Nat} {R : List (List Int)} (hR : Rt N (mx R)) {i j : Nat} (hi : i ≤ N) (hj : j ≤ N) : -1099511627776 ≤ mx R i j ∧ mx R i j ≤ 64000000 := by
  have := hR.bd i j hi hj; omega
end Bn

