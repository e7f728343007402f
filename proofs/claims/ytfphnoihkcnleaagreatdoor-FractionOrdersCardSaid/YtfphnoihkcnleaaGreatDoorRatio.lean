/- Quotients with a sign, and the rational numbers that they are: sums, products, quotients, opposites, floors and signs. Plain; no program. -/
import Derived.Test.YtfphnoihkcnleaaGreatDoorSpec
namespace Fr
open Limb

/-- A natural number with a sign. -/
def sg (b : Bool) (n : Nat) : Int := if b then -(n : Int) else n

theorem sg_natAbs (b : Bool) (n : Nat) : (sg b n).natAbs = n := by unfold sg; split <;> simp
theorem sg_neg (b : Bool) (n : Nat) : (sg b n < 0) ↔ (b = true ∧ 0 < n) := by
  unfold sg
  cases b <;> simp <;> omega
theorem sg_not (b : Bool) (n : Nat) : sg (!b) n = -(sg b n) := by unfold sg; cases b <;> simp
theorem sg_mul (a b : Bool) (m n : Nat) : sg (a != b) (m * n) = sg a m * sg b n := by
  unfold sg; cases a <;> cases b <;> simp [Int.neg_mul, Int.mul_neg]
theorem sg_zero (b : Bool) : sg b 0 = 0 := by unfold sg; cases b <;> simp
theorem sg_eq_zero (b : Bool) (n : Nat) : sg b n = 0 ↔ n = 0 := by unfold sg; cases b <;> simp

/-- The number of a quotient. -/
def num (b : Bool) (m n : Nat) : Rat := mkRat (sg b m) n

theorem num_parts (b : Bool) (m n : Nat) (hn : 0 < n) : (num b m n).num.natAbs = m / Nat.gcd m n ∧ (num b m n).den = n / Nat.gcd m n ∧ ((num b m n).num < 0 ↔ (b = true ∧ 0 < m)) := by
  unfold num
  have hg : 0 < Nat.gcd m n := Nat.gcd_pos_of_pos_right _ hn
  have hgi : (0 : Int) < ((Nat.gcd m n : Nat) : Int) := by omega
  rw [Rat.num_mkRat, Rat.den_mkRat, if_neg (by omega), if_neg (by omega), sg_natAbs, Nat.gcd_comm n m]
  refine ⟨?_, rfl, ?_⟩
  · unfold sg
    cases b with
    | false => simp; rw [← Int.natCast_ediv, Int.natAbs_natCast]
    | true =>
      simp only [if_true]
      have hd : (((Nat.gcd m n : Nat) : Int)) ∣ (m : Int) := Int.ofNat_dvd.2 (Nat.gcd_dvd_left m n)
      rw [Int.neg_ediv_of_dvd hd, Int.natAbs_neg, ← Int.natCast_ediv, Int.natAbs_natCast]
  · rw [← sg_neg]
    constructor
    · intro h
      exact Int.not_le.1 fun h0 => absurd (Int.ediv_nonneg h0 (Int.le_of_lt hgi)) (by omega)
    · intro h
      exact Int.ediv_neg_of_neg_of_pos h hgi

theorem num_eq_zero (b : Bool) (m n : Nat) (hn : 0 < n) : num b m n = 0 ↔ m = 0 := by
  unfold num; rw [Rat.mkRat_eq_zero (by omega), sg_eq_zero]

theorem num_neg (b : Bool) (m n : Nat) : num (!b) m n = -(num b m n) := by unfold num; rw [sg_not, Rat.neg_mkRat]
theorem num_mul (a b : Bool) (m n k l : Nat) : num (a != b) (m * k) (n * l) = num a m n * num b k l := by unfold num; rw [sg_mul, Rat.mkRat_mul_mkRat]
theorem num_add_of (a b c : Bool) (m n k l r : Nat) (hn : 0 < n) (hl : 0 < l) (h : sg c r = sg a (m * l) + sg b (k * n)) : num c r (n * l) = num a m n + num b k l := by
  unfold num
  rw [Rat.mkRat_add_mkRat _ _ (by omega) (by omega), h]
  have h1 : sg a (m * l) = sg a m * (l : Int) := by unfold sg; cases a <;> simp [Int.neg_mul]
  have h2 : sg b (k * n) = sg b k * (n : Int) := by unfold sg; cases b <;> simp [Int.neg_mul]
  rw [h1, h2]
theorem num_add_same (a : Bool) (m n k l : Nat) (hn : 0 < n) (hl : 0 < l) : num a (m * l + k * n) (n * l) = num a m n + num a k l :=
  num_add_of a a a m n k l _ hn hl (by unfold sg; cases a <;> simp <;> omega)
theorem num_add_less (a b : Bool) (m n k l : Nat) (hn : 0 < n) (hl : 0 < l) (hab : a ≠ b) (h : m * l ≤ k * n) : num b (k * n - m * l) (n * l) = num a m n + num b k l :=
  num_add_of a b b m n k l _ hn hl (by unfold sg; cases a <;> cases b <;> simp at hab ⊢ <;> omega)
theorem num_add_more (a b : Bool) (m n k l : Nat) (hn : 0 < n) (hl : 0 < l) (hab : a ≠ b) (h : k * n ≤ m * l) : num a (m * l - k * n) (n * l) = num a m n + num b k l :=
  num_add_of a b a m n k l _ hn hl (by unfold sg; cases a <;> cases b <;> simp at hab ⊢ <;> omega)
theorem num_div (a b : Bool) (m n k l : Nat) (hk : 0 < k) (hl : 0 < l) : num (a != b) (m * l) (n * k) = num a m n / num b k l := by
  rw [num_mul, Rat.div_def]
  congr 1
  refine (Rat.inv_eq_of_mul_eq_one ?_).symm
  unfold num
  rw [Rat.mkRat_mul_mkRat, ← sg_mul]
  have : (b != b) = false := by cases b <;> rfl
  rw [this]
  show mkRat ((k * l : Nat) : Int) (l * k) = 1
  have h1 := (Rat.mkRat_eq_iff (n₁ := ((k * l : Nat) : Int)) (n₂ := 1) (d₁ := l * k) (d₂ := 1) (Nat.ne_of_gt (Nat.mul_pos hl hk)) (by omega)).2 (by rw [Nat.mul_comm k l]; simp)
  rw [h1]; rfl

theorem floor_mk (a : Int) (n : Nat) (hn : 0 < n) : (mkRat a n).floor = a / (n : Int) := by
  have h1 : mkRat a n = (a : Rat) / (n : Rat) := Rat.mkRat_eq_div a n
  rw [Rat.floor_def, Rat.num_mkRat, Rat.den_mkRat, if_neg (by omega), if_neg (by omega)]
  have hg : 0 < Nat.gcd n a.natAbs := Nat.gcd_pos_of_pos_left _ hn
  have d1 : ((Nat.gcd n a.natAbs : Nat) : Int) ∣ a := Int.dvd_natAbs.1 (Int.ofNat_dvd.2 (Nat.gcd_dvd_right _ _))
  have d2 : Nat.gcd n a.natAbs ∣ n := Nat.gcd_dvd_left _ _
  obtain ⟨x, hx⟩ := d1
  obtain ⟨y, hy⟩ := d2
  generalize Nat.gcd n a.natAbs = g at *
  subst hx
  subst hy
  rw [Int.mul_ediv_cancel_left _ (by omega), Nat.mul_div_cancel_left _ hg, Int.natCast_mul, Int.mul_ediv_mul_of_pos _ _ (by omega)]

theorem num_floor (b : Bool) (m n : Nat) (hn : 0 < n) : (num b m n).floor = sg b (if b = true ∧ 0 < m % n then m / n + 1 else m / n) := by
  unfold num
  rw [floor_mk _ _ hn]
  unfold sg
  cases b with
  | false => simp
  | true =>
    simp only [if_true, true_and]
    have h := Nat.div_add_mod m n
    by_cases h0 : 0 < m % n
    · rw [if_pos h0]
      have h1 : -(m : Int) = (n : Int) * (-((m / n : Nat) : Int) - 1) + ((n : Int) - ((m % n : Nat) : Int)) := by
        have : (m : Int) = (n : Int) * ((m / n : Nat) : Int) + ((m % n : Nat) : Int) := by rw [← Int.natCast_mul, ← Int.natCast_add, h]
        rw [Int.mul_sub, Int.mul_neg]; omega
      have h2 := Nat.mod_lt m hn
      rw [h1, Int.add_comm, Int.add_mul_ediv_left _ _ (by omega), Int.ediv_eq_zero_of_lt (by omega) (by omega)]
      omega
    · rw [if_neg h0]
      have h1 : -(m : Int) = (n : Int) * (-((m / n : Nat) : Int)) := by
        have : (m : Int) = (n : Int) * ((m / n : Nat) : Int) := by rw [← Int.natCast_mul]; congr 1; omega
        rw [Int.mul_neg]; omega
      rw [h1, Int.mul_ediv_cancel_left _ (by omega)]

theorem num_int (b : Bool) (m : Nat) : num b m 1 = ((sg b m : Int) : Rat) := by
  unfold num
  rw [Rat.mkRat_eq_div]
  show ((sg b m : Int) : Rat) / 1 = _
  rw [Rat.div_def]
  grind

theorem floor_num (b : Bool) (m n : Nat) (hn : 0 < n) : num b (if b = true ∧ 0 < m % n then m / n + 1 else m / n) 1 = (((num b m n).floor : Int) : Rat) := by
  rw [num_int, num_floor b m n hn]

theorem rat_num {s : List UInt8} (_h : chk s = 0) : rat s = num (isNeg (numT s)) (dv (bare (numT s))) (dv (denT s)) := rfl

/-- The sign of a number. -/
def sgnQ (q : Rat) : Int := if q < 0 then -1 else if q = 0 then 0 else 1
def cmpQ (p q : Rat) : Int := if p < q then -1 else if p = q then 0 else 1

theorem sgnQ_num (b : Bool) (m n : Nat) (hn : 0 < n) : sgnQ (num b m n) = if m = 0 then 0 else if b then -1 else 1 := by
  have h := num_parts b m n hn
  have h0 := num_eq_zero b m n hn
  unfold sgnQ
  have h1 : num b m n < 0 ↔ (num b m n).num < 0 := by rw [Rat.lt_iff]; simp
  by_cases hm : m = 0
  · rw [if_neg (by rw [h1, h.2.2]; omega), if_pos (h0.2 hm), if_pos hm]
  · rw [if_neg hm]
    cases b with
    | true => rw [if_pos (by rw [h1, h.2.2]; exact ⟨rfl, by omega⟩)]; rfl
    | false => rw [if_neg (by rw [h1, h.2.2]; simp), if_neg (by rw [h0]; exact hm)]; rfl
theorem cmpQ_sub (p q : Rat) : sgnQ (p - q) = cmpQ p q := by
  unfold sgnQ cmpQ
  have h1 : p - q < 0 ↔ p < q := by constructor <;> intro h <;> grind
  have h2 : p - q = 0 ↔ p = q := by constructor <;> intro h <;> grind
  simp only [h1, h2]

end Fr
