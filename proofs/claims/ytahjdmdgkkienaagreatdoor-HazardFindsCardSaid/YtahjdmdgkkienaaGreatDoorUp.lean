/- Tables of Boolean functions as numbers: plain facts, of no program. -/
import Derived.Laws.BitsAllLaws
namespace Tt

/-- All points of n variables. -/
def full (n : Nat) : Nat := 2 ^ 2 ^ n - 1
/-- What Check returns. -/
def chk (n : Int) (b : Nat) : Int := if n < 0 ∨ 6 < n then 2 else if b < 2 ^ 2 ^ n.toNat then 0 else 3
theorem size_le {n : Nat} (h : n ≤ 6) : 2 ^ n ≤ 64 := by
  have := Nat.pow_le_pow_right (n := 2) (by omega) h
  omega
theorem full_lt {n : Nat} (h : n ≤ 6) : full n < 2 ^ 64 := by
  unfold full
  have h1 := Nat.pow_le_pow_right (n := 2) (by omega) (size_le h)
  have h2 : 0 < 2 ^ 2 ^ n := Nat.pow_pos (by omega)
  omega
theorem outside {b k : Nat} (hb : b < 2 ^ 64) (hk : k ≤ 64) : (b &&& (2 ^ 64 - 1 - (2 ^ k - 1))) = 0 ↔ b < 2 ^ k := by
  have h0 : 0 < 2 ^ k := Nat.pow_pos (by omega)
  have h1 : 2 ^ k ≤ 2 ^ 64 := Nat.pow_le_pow_right (by omega) hk
  have e : 2 ^ 64 - 1 - (2 ^ k - 1) = 2 ^ 64 - ((2 ^ k - 1) + 1) := by omega
  rw [e]
  constructor
  · intro h
    refine Nat.lt_pow_two_of_testBit b fun i hi => ?_
    have h2 : (b &&& (2 ^ 64 - ((2 ^ k - 1) + 1))).testBit i = false := by rw [h]; simp
    rw [Nat.testBit_and, Nat.testBit_two_pow_sub_succ (by omega), Nat.testBit_two_pow_sub_one] at h2
    by_cases h64 : i < 64
    · simp [h64, show ¬ i < k from by omega] at h2; exact h2
    · exact Nat.testBit_lt_two_pow (Nat.lt_of_lt_of_le hb (Nat.pow_le_pow_right (by omega) (by omega)))
  · intro h
    apply Nat.eq_of_testBit_eq
    intro i
    rw [Nat.testBit_and, Nat.testBit_two_pow_sub_succ (by omega), Nat.testBit_two_pow_sub_one]
    by_cases hi : i < k
    · simp [hi]
    · have := Nat.testBit_lt_two_pow (Nat.lt_of_lt_of_le h (Nat.pow_le_pow_right (n := 2) (by omega) (show k ≤ i by omega)))
      simp [this]
theorem chk_zero {n : Int} {b : Nat} : chk n b = 0 ↔ 0 ≤ n ∧ n ≤ 6 ∧ b < 2 ^ 2 ^ n.toNat := by
  unfold chk
  by_cases h1 : n < 0 ∨ 6 < n
  · rw [if_pos h1]; simp; omega
  · rw [if_neg h1]
    by_cases h2 : b < 2 ^ 2 ^ n.toNat
    · rw [if_pos h2]; simp [h2]; omega
    · rw [if_neg h2]; simp [h2]
/-- A bit as the program reads it. -/
theorem bit_one (b k : Nat) : (b / 2 ^ k % 2 == 1) = b.testBit k := by
  rw [Nat.testBit_eq_decide_div_mod_eq]
  by_cases h : b / 2 ^ k % 2 = 1 <;> simp [h]
/-- The table of a list of points. -/
def mk (n : Nat) (p : Nat → Bool) : Nat := (List.range (2 ^ n)).foldl (fun a k => if p k then a ||| 2 ^ k else a) 0
theorem fold_bit (p : Nat → Bool) : ∀ (m : Nat) (i : Nat), ((List.range m).foldl (fun a k => if p k then a ||| 2 ^ k else a) 0).testBit i = (decide (i < m) && p i)
  | 0, i => by simp
  | m + 1, i => by
    rw [List.range_succ, List.foldl_append, List.foldl_cons, List.foldl_nil]
    by_cases hp : p m = true
    · rw [if_pos hp, Nat.testBit_or, fold_bit p m i, Nat.testBit_two_pow]
      by_cases hi : m = i
      · subst hi; simp [hp]
      · by_cases h2 : i < m
        · simp [h2, hi, show i < m + 1 by omega]
        · simp [h2, hi, show ¬ i < m + 1 by omega]
    · rw [if_neg hp, fold_bit p m i]
      by_cases hi : m = i
      · subst hi; simp [hp]
      · by_cases h2 : i < m
        · simp [h2, show i < m + 1 by omega]
        · simp [h2, show ¬ i < m + 1 by omega]
theorem mk_bit (n : Nat) (p : Nat → Bool) (i : Nat) : (mk n p).testBit i = (decide (i < 2 ^ n) && p i) := fold_bit p _ i
theorem mk_lt (n : Nat) (p : Nat → Bool) : mk n p < 2 ^ 2 ^ n := Nat.lt_pow_two_of_testBit _ fun i hi => by rw [mk_bit]; simp; omega
/-- Two tables with the same points are one. -/
theorem same {n b c : Nat} (hb : b < 2 ^ 2 ^ n) (hc : c < 2 ^ 2 ^ n) (h : ∀ i, i < 2 ^ n → b.testBit i = c.testBit i) : b = c := by
  apply Nat.eq_of_testBit_eq
  intro i
  by_cases hi : i < 2 ^ n
  · exact h i hi
  · rw [Nat.testBit_lt_two_pow (Nat.lt_of_lt_of_le hb (Nat.pow_le_pow_right (by omega) (by omega))), Nat.testBit_lt_two_pow (Nat.lt_of_lt_of_le hc (Nat.pow_le_pow_right (by omega) (by omega)))]
end Tt

