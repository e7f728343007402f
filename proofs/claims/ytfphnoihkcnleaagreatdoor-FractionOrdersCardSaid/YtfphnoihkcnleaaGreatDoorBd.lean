/- Rational numbers whose parts are bounded by powers of ten. Plain; no program. -/
import Derived.Test.YtfphnoihkcnleaaGreatDoorSgn
namespace Fr
open Limb

def Bd (q : Rat) (k : Nat) : Prop := ∃ b m n, 0 < n ∧ q = num b m n ∧ m ≤ 10 ^ k ∧ n ≤ 10 ^ k

theorem Bd.up {q : Rat} {k l : Nat} (h : Bd q k) (hl : k ≤ l) : Bd q l := by
  obtain ⟨b, m, n, h1, h2, h3, h4⟩ := h
  have h5 : 10 ^ k ≤ 10 ^ l := Nat.pow_le_pow_right (by omega) hl
  exact ⟨b, m, n, h1, h2, Nat.le_trans h3 h5, Nat.le_trans h4 h5⟩
theorem Bd.mul {p q : Rat} {k l : Nat} (h : Bd p k) (g : Bd q l) : Bd (p * q) (k + l) := by
  obtain ⟨b, m, n, h1, rfl, h3, h4⟩ := h
  obtain ⟨c, x, y, g1, rfl, g3, g4⟩ := g
  refine ⟨b != c, m * x, n * y, Nat.mul_pos h1 g1, (num_mul b c m n x y).symm, ?_, ?_⟩
  · rw [Nat.pow_add]; exact Nat.mul_le_mul h3 g3
  · rw [Nat.pow_add]; exact Nat.mul_le_mul h4 g4
theorem Bd.neg {p : Rat} {k : Nat} (h : Bd p k) : Bd (-p) k := by
  obtain ⟨b, m, n, h1, rfl, h3, h4⟩ := h
  exact ⟨!b, m, n, h1, (num_neg b m n).symm, h3, h4⟩
theorem Bd.add {p q : Rat} {k l : Nat} (h : Bd p k) (g : Bd q l) : Bd (p + q) (k + l + 1) := by
  obtain ⟨b, m, n, h1, rfl, h3, h4⟩ := h
  obtain ⟨c, x, y, g1, rfl, g3, g4⟩ := g
  have e1 : m * y ≤ 10 ^ (k + l) := by rw [Nat.pow_add]; exact Nat.mul_le_mul h3 g4
  have e2 : x * n ≤ 10 ^ (k + l) := by rw [Nat.pow_add, Nat.mul_comm x n]; exact Nat.mul_le_mul h4 g3
  have e3 : n * y ≤ 10 ^ (k + l) := by rw [Nat.pow_add]; exact Nat.mul_le_mul h4 g4
  have e4 : 10 ^ (k + l + 1) = 10 * 10 ^ (k + l) := by rw [Nat.pow_succ, Nat.mul_comm]
  have e5 : 0 < n * y := Nat.mul_pos h1 g1
  by_cases hbc : b = c
  · subst hbc
    exact ⟨b, m * y + x * n, n * y, e5, (num_add_same b m n x y h1 g1).symm, by omega, by omega⟩
  · rcases Nat.le_total (m * y) (x * n) with hle | hle
    · exact ⟨c, x * n - m * y, n * y, e5, (num_add_less b c m n x y h1 g1 hbc hle).symm, by omega, by omega⟩
    · exact ⟨b, m * y - x * n, n * y, e5, (num_add_more b c m n x y h1 g1 hbc hle).symm, by omega, by omega⟩
theorem Bd.sub {p q : Rat} {k l : Nat} (h : Bd p k) (g : Bd q l) : Bd (p - q) (k + l + 1) := by
  rw [Rat.sub_eq_add_neg]; exact h.add g.neg
theorem Bd.div {p q : Rat} {k l : Nat} (h : Bd p k) (g : Bd q l) (hq : q ≠ 0) : Bd (p / q) (k + l) := by
  obtain ⟨b, m, n, h1, rfl, h3, h4⟩ := h
  obtain ⟨c, x, y, g1, rfl, g3, g4⟩ := g
  have hx : 0 < x := Nat.pos_of_ne_zero fun h => hq ((num_eq_zero c x y g1).2 h)
  refine ⟨b != c, m * y, n * x, Nat.mul_pos h1 hx, (num_div b c m n x y hx g1).symm, ?_, ?_⟩
  · rw [Nat.pow_add]; exact Nat.mul_le_mul h3 g4
  · rw [Nat.pow_add]; exact Nat.mul_le_mul h4 g3
theorem Bd.floor {p : Rat} {k : Nat} (h : Bd p k) : Bd ((p.floor : Int) : Rat) (k + 1) := by
  obtain ⟨b, m, n, h1, rfl, h3, h4⟩ := h
  have e4 : 10 ^ (k + 1) = 10 * 10 ^ k := by rw [Nat.pow_succ, Nat.mul_comm]
  have e5 : 0 < 10 ^ k := Nat.pow_pos (by omega)
  have e6 : m / n ≤ m := Nat.div_le_self _ _
  refine ⟨b, _, 1, by omega, (floor_num b m n h1).symm, ?_, by omega⟩
  split <;> omega
theorem Bd.fits {q : Rat} {k : Nat} (h : Bd q k) (hk : k < 60) : fits q = true := by
  obtain ⟨b, m, n, h1, rfl, h3, h4⟩ := h
  have hp := num_parts b m n h1
  have e1 : 10 ^ k < 10 ^ 60 := Nat.pow_lt_pow_right (by omega) hk
  have e2 : m / Nat.gcd m n ≤ m := Nat.div_le_self _ _
  have e3 : n / Nat.gcd m n ≤ n := Nat.div_le_self _ _
  unfold Fr.fits
  rw [hp.1, hp.2.1]
  simp only [Bool.and_eq_true, decide_eq_true_eq]
  exact ⟨Nat.lt_of_le_of_lt (Nat.le_trans e2 h3) e1, Nat.lt_of_le_of_lt (Nat.le_trans e3 h4) e1⟩
theorem bd_zero (k : Nat) : Bd 0 k := ⟨false, 0, 1, by omega, by rfl, Nat.zero_le _, Nat.pow_pos (by omega)⟩
theorem bd_int (z : Int) {k : Nat} (h : z.natAbs ≤ 10 ^ k) : Bd (z : Rat) k := by
  refine ⟨decide (z < 0), z.natAbs, 1, by omega, ?_, h, Nat.pow_pos (by omega)⟩
  rw [num_int]
  congr 1
  unfold sg
  by_cases hz : z < 0
  · rw [if_pos (by simpa using hz)]; omega
  · rw [if_neg (by simpa using hz)]; omega

theorem bare_len (l : List UInt8) : (bare l).length ≤ l.length := by
  cases l with
  | nil => exact Nat.le_refl _
  | cons c l => rw [bare]; split <;> simp
theorem parts_len (l : List UInt8) : (numT l).length ≤ l.length ∧ ((cut l).2.isSome = true → (denT l).length ≤ l.length) := by
  have hj := congrArg List.length (cut_join l)
  unfold numT denT
  cases h : (cut l).2 with
  | none => rw [h] at hj; simp at hj; exact ⟨by omega, fun h => by cases h⟩
  | some m => rw [h] at hj; simp at hj; exact ⟨by omega, fun _ => by simp; omega⟩
/-- The parts of a short fraction. -/
theorem bd_short {s : List UInt8} (h : chk s = 0) {k : Nat} (hk : s.length ≤ k) : Bd (rat s) k := by
  obtain ⟨h1, h2, h3, h4, h5, h6, h7⟩ := chk_zero h
  refine ⟨_, _, _, den_pos h, rat_num h, ?_, ?_⟩
  · have e1 := dv_lt (isInt_all h1)
    have e2 := bare_len (numT s)
    have e3 := (parts_len s).1
    have e4 : 10 ^ (bare (numT s)).length ≤ 10 ^ k := Nat.pow_le_pow_right (by omega) (by omega)
    omega
  · cases hc : (cut s).2 with
    | none =>
      have : dv (denT s) = 1 := by unfold denT; rw [hc]; rfl
      rw [this]; exact Nat.pow_pos (by omega)
    | some m =>
      have e0 : (denT s).all isDig = true := by have := isInt_all h2; rw [bare_of_not h5] at this; exact this
      have e1 := dv_lt e0
      have e3 := (parts_len s).2 (by rw [hc]; rfl)
      have e4 : 10 ^ (denT s).length ≤ 10 ^ k := Nat.pow_le_pow_right (by omega) (by omega)
      omega

theorem text_len {q : Rat} (h : fits q = true) : (text q).length ≤ 122 := by
  unfold fits at h
  simp only [Bool.and_eq_true, decide_eq_true_eq] at h
  have h3 := (render_len q.num.natAbs 60 (by omega)).2 h.1
  have h4 := (render_len q.den 60 (by omega)).2 h.2
  unfold text
  rw [List.length_append, List.length_append]
  have e1 : (if q.num < 0 then ([45] : List UInt8) else []).length ≤ 1 := by split <;> simp
  have e2 : (if q.den = 1 then ([] : List UInt8) else 47 :: render q.den).length ≤ 61 := by split <;> simp; omega
  omega
theorem text_inj {p q : Rat} : text p = text q ↔ p = q := by
  constructor
  · intro h
    rw [← rat_text p, h, rat_text]
  · rintro rfl; rfl

end Fr
