/- The lowest bit of a word and the text of a table: plain facts, of no program. -/
import Derived.Lib.TrailingZeros
import Derived.Test.YtahjdmdgkkienaaGreatDoorUp
namespace Tt
theorem ctz_form {x : Nat} (h0 : x ≠ 0) (h : x < 18446744073709551616) : ∃ m, x = 2 ^ Go.Lib.ctz 64 x * (2 * m + 1) ∧ Go.Lib.ctz 64 x < 64 := by
  obtain ⟨m, hm, hk⟩ := Go.Lib.ctzFrom_spec 64 x (by omega) (by omega)
  have e : Go.Lib.ctz 64 x = Go.Lib.ctzFrom 64 x := by simp [Go.Lib.ctz, h0]
  rw [e]
  exact ⟨m, hm, hk⟩
theorem low_bit {x : Nat} (h0 : x ≠ 0) (h : x < 18446744073709551616) : x.testBit (Go.Lib.ctz 64 x) = true := by
  obtain ⟨m, hm, hk⟩ := ctz_form h0 h
  generalize Go.Lib.ctz 64 x = k at *
  subst hm
  have := Nat.testBit_two_pow_mul_add (2 * m + 1) (b := 0) (i := k) (Nat.pow_pos (by omega)) k
  rw [Nat.add_zero] at this
  rw [this, if_neg (by omega), Nat.sub_self, Nat.testBit_zero]
  simp
theorem low_lt {x k : Nat} (h0 : x ≠ 0) (h : x < 18446744073709551616) (hk : x < 2 ^ k) : Go.Lib.ctz 64 x < k := by
  apply Nat.lt_of_not_le
  intro hle
  have h1 := low_bit h0 h
  rw [Nat.testBit_lt_two_pow (Nat.lt_of_lt_of_le hk (Nat.pow_le_pow_right (by omega) hle))] at h1
  cases h1
theorem pred_bit {x : Nat} (h0 : x ≠ 0) (h : x < 18446744073709551616) (j : Nat) : (x &&& (x - 1)).testBit j = (x.testBit j && !decide (j = Go.Lib.ctz 64 x)) := by
  obtain ⟨m, hm, hk⟩ := ctz_form h0 h
  generalize Go.Lib.ctz 64 x = k at *
  have hp : 0 < 2 ^ k := Nat.pow_pos (by omega)
  have e1 := Nat.testBit_two_pow_mul_add (2 * m + 1) (b := 0) (i := k) hp j
  have e2 := Nat.testBit_two_pow_mul_add (2 * m) (b := 2 ^ k - 1) (i := k) (by omega) j
  rw [Nat.add_zero, ← hm] at e1
  have e3 : 2 ^ k * (2 * m) + (2 ^ k - 1) = x - 1 := by
    rw [hm, Nat.mul_add, Nat.mul_one]; omega
  rw [e3] at e2
  rw [Nat.testBit_and, e1, e2]
  by_cases hj : j < k
  · simp [hj]
  · rw [if_neg hj, if_neg hj]
    by_cases he : j = k
    · subst he; simp [Nat.testBit_zero]
    · obtain ⟨d, rfl⟩ : ∃ d, j = k + (d + 1) := ⟨j - k - 1, by omega⟩
      have e4 : k + (d + 1) - k = d + 1 := by omega
      rw [e4, Nat.testBit_succ, Nat.testBit_succ, show (2 * m + 1) / 2 = m by omega, show 2 * m / 2 = m by omega]
      simp
/-- A character of a text. -/
def chr (b : Bool) : UInt8 := if b then 49 else 48
theorem chr_true : ((chr true).toNat : Int) = 49 := rfl
theorem chr_false : ((chr false).toNat : Int) = 48 := rfl
/-- The text of a table. -/
def txt (n b : Nat) : List UInt8 := (List.range (2 ^ n)).map fun k => chr (b.testBit k)
theorem txt_length (n b : Nat) : (txt n b).length = 2 ^ n := by simp [txt]
theorem txt_at (n b j : Nat) (h : j < (txt n b).length) : (txt n b)[j] = chr (b.testBit j) := by simp [txt]
end Tt

