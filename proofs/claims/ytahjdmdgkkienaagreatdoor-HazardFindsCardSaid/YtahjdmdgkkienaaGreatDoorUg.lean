/- Cofactors of tables: plain facts, of no program. -/
import Derived.Test.YtahjdmdgkkienaaGreatDoorUs
namespace Tt
/-- The words of the variables. -/
def col (i : Nat) : Nat := [12297829382473034410, 14757395258967641292, 17361641481138401520, 18374966859414961920, 18446462603027742720, 18446744069414584320].getD i 0
theorem col_lt (i : Nat) : col i < 18446744073709551616 := by
  unfold col
  rcases i with _ | _ | _ | _ | _ | _ | i <;> simp
theorem and_lt64 (a : Nat) {b : Nat} (h : b < 18446744073709551616) : a &&& b < 18446744073709551616 := Nat.lt_of_le_of_lt Nat.and_le_right h
/-- The cofactors' words, as the program computes them. -/
def lo (b i : Nat) : Nat := (b &&& (18446744073709551615 - col i)) ||| ((b &&& (18446744073709551615 - col i)) * 2 ^ 2 ^ i % 18446744073709551616)
def hi (b i : Nat) : Nat := (b &&& col i) ||| ((b &&& col i) / 2 ^ 2 ^ i)
theorem or_lt64 {a b : Nat} (h1 : a < 18446744073709551616) (h2 : b < 18446744073709551616) : a ||| b < 18446744073709551616 := Nat.or_lt_two_pow (n := 64) h1 h2
theorem lo_lt (b i : Nat) : lo b i < 18446744073709551616 := or_lt64 (and_lt64 _ (by omega)) (Nat.mod_lt _ (by omega))
theorem hi_lt (b i : Nat) : hi b i < 18446744073709551616 := or_lt64 (and_lt64 _ (col_lt i)) (Nat.lt_of_le_of_lt (Nat.div_le_self _ _) (and_lt64 _ (col_lt i)))
/-- A point with a value of a variable. -/
def wth (k i : Nat) (v : Bool) : Nat := if k.testBit i = v then k else if v then k + 2 ^ i else k - 2 ^ i
theorem col_bit : ∀ i, i < 6 → ∀ k, k < 64 → (col i).testBit k = k.testBit i := by decide +kernel
theorem ncol_bit : ∀ i, i < 6 → ∀ k, k < 64 → (18446744073709551615 - col i).testBit k = !k.testBit i := by decide +kernel
theorem down_bit : ∀ i, i < 6 → ∀ k, k < 64 → 2 ^ i ≤ k → (k - 2 ^ i).testBit i = !k.testBit i := by decide +kernel
theorem up_bit : ∀ i, i < 6 → ∀ k, k < 64 → (k + 2 ^ i).testBit i = !k.testBit i := by decide +kernel
theorem up_lt : ∀ i, i < 6 → ∀ k, k < 64 → k.testBit i = false → k + 2 ^ i < 64 := by decide +kernel
theorem dn_le : ∀ i, i < 6 → ∀ k, k < 64 → k.testBit i = true → 2 ^ i ≤ k := by decide +kernel
theorem wth_lt : ∀ n, n < 7 → ∀ i, i < n → ∀ k, k < 64 → ∀ v : Bool, (wth k i v < 2 ^ n ↔ k < 2 ^ n) := by decide +kernel
theorem lo_bit {b i k : Nat} (hi : i < 6) (hk : k < 64) : (lo b i).testBit k = b.testBit (wth k i false) := by
  unfold lo
  rw [Nat.testBit_or, Nat.testBit_and, ncol_bit i hi k hk, show (18446744073709551616 : Nat) = 2 ^ 64 from rfl, Nat.testBit_mod_two_pow, Nat.testBit_mul_two_pow]
  unfold wth
  have h1 := dn_le i hi k hk
  have h2 := down_bit i hi k hk
  cases h : k.testBit i
  · rw [if_pos rfl]
    by_cases hle : 2 ^ i ≤ k
    · rw [Nat.testBit_and, ncol_bit i hi (k - 2 ^ i) (Nat.lt_of_le_of_lt (Nat.sub_le _ _) hk), h2 hle, h]; simp
    · simp [hle]
  · have h3 := h1 h
    rw [if_neg (by simp), Nat.testBit_and, ncol_bit i hi (k - 2 ^ i) (Nat.lt_of_le_of_lt (Nat.sub_le _ _) hk), h2 h3, h]; simp [h3, hk]
theorem hi_bit {b i k : Nat} (hi' : i < 6) (hk : k < 64) (hb : b < 2 ^ 64) : (hi b i).testBit k = b.testBit (wth k i true) := by
  unfold hi
  rw [Nat.testBit_or, Nat.testBit_and, col_bit i hi' k hk, Nat.testBit_div_two_pow, Nat.testBit_and]
  unfold wth
  have h2 := up_bit i hi' k hk
  have h1 := up_lt i hi' k hk
  cases h : k.testBit i
  · rw [if_neg (by simp), if_pos rfl, col_bit i hi' _ (h1 h), h2, h]; simp
  · rw [if_pos rfl]
    by_cases hlt : k + 2 ^ i < 64
    · rw [col_bit i hi' _ hlt, h2, h]; simp
    · have : b.testBit (k + 2 ^ i) = false := Nat.testBit_lt_two_pow (Nat.lt_of_lt_of_le hb (Nat.pow_le_pow_right (by omega) (by omega)))
      simp [this]
theorem lo_lt0 (b i : Nat) (hb : b < 2 ^ 64) : lo b i < 2 ^ 64 := by
  unfold lo
  refine Nat.or_lt_two_pow (Nat.lt_of_le_of_lt Nat.and_le_left hb) ?_
  exact Nat.lt_of_lt_of_eq (Nat.mod_lt _ (by omega)) rfl
theorem hi_lt0 (b i : Nat) (hb : b < 2 ^ 64) : hi b i < 2 ^ 64 := by
  unfold hi
  have h := Nat.lt_of_le_of_lt (Nat.and_le_left (n := b) (m := col i)) hb
  exact Nat.or_lt_two_pow h (Nat.lt_of_le_of_lt (Nat.div_le_self _ _) h)
theorem bits_up {x m : Nat} (hx : x < 2 ^ 64) (h : ∀ k, k < 64 → m ≤ k → x.testBit k = false) : x < 2 ^ m := by
  refine Nat.lt_pow_two_of_testBit x fun k hk => ?_
  by_cases h64 : k < 64
  · exact h k h64 hk
  · exact Nat.testBit_lt_two_pow (Nat.lt_of_lt_of_le hx (Nat.pow_le_pow_right (by omega) (by omega)))
theorem w64 {n b : Nat} (hn : n ≤ 6) (hb : b < 2 ^ 2 ^ n) : b < 2 ^ 64 := Nat.lt_of_lt_of_le hb (Nat.pow_le_pow_right (by omega) (size_le hn))
theorem high_bit {n b k : Nat} (hb : b < 2 ^ 2 ^ n) (hk : 2 ^ n ≤ k) : b.testBit k = false := Nat.testBit_lt_two_pow (Nat.lt_of_lt_of_le hb (Nat.pow_le_pow_right (by omega) hk))
theorem lo_fits {n b i : Nat} (hn : n ≤ 6) (hi' : i < n) (hb : b < 2 ^ 2 ^ n) : lo b i < 2 ^ 2 ^ n :=
  bits_up (lo_lt0 b i (w64 hn hb)) fun k hk hle => by
    rw [lo_bit (by omega) hk]
    exact high_bit hb (Nat.le_of_not_lt fun h => by have := (wth_lt n (by omega) i hi' k hk false).1 h; omega)
theorem hi_fits {n b i : Nat} (hn : n ≤ 6) (hi' : i < n) (hb : b < 2 ^ 2 ^ n) : hi b i < 2 ^ 2 ^ n :=
  bits_up (hi_lt0 b i (w64 hn hb)) fun k hk hle => by
    rw [hi_bit (by omega) hk (w64 hn hb)]
    exact high_bit hb (Nat.le_of_not_lt fun h => by have := (wth_lt n (by omega) i hi' k hk true).1 h; omega)
/-- A cofactor of the definition. -/
def cof (b i : Nat) (v : Bool) : Nat := bif v then hi b i else lo b i
theorem cof_bit {n b i k : Nat} (v : Bool) (hn : n ≤ 6) (hi' : i < n) (hb : b < 2 ^ 2 ^ n) (hk : k < 64) : (cof b i v).testBit k = b.testBit (wth k i v) := by
  cases v
  · exact lo_bit (by omega) hk
  · exact hi_bit (by omega) hk (w64 hn hb)
theorem cof_fits {n b i : Nat} (v : Bool) (hn : n ≤ 6) (hi' : i < n) (hb : b < 2 ^ 2 ^ n) : cof b i v < 2 ^ 2 ^ n := by
  cases v
  · exact lo_fits hn hi' hb
  · exact hi_fits hn hi' hb
theorem fix_cof {n b i : Nat} (v : Bool) (hn : n ≤ 6) (hi' : i < n) (hb : b < 2 ^ 2 ^ n) : mk n (fun k => b.testBit (wth k i v)) = cof b i v := by
  refine same (mk_lt n _) (cof_fits v hn hi' hb) fun k hk => ?_
  have := size_le hn
  rw [mk_bit, cof_bit v hn hi' hb (by omega)]
  simp [hk]
end Tt

