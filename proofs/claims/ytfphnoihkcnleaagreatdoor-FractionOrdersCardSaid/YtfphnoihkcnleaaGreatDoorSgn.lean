/- The sign of a fraction, by its text. Plain; no program. -/
import Derived.Test.YtfphnoihkcnleaaGreatDoorRatio
namespace Fr
open Limb

theorem isNeg_app {p q : List UInt8} (h : p ≠ []) : isNeg (p ++ q) = isNeg p := by
  cases p with
  | nil => exact absurd rfl h
  | cons c l => rfl
theorem isInt_nonempty {s : List UInt8} (h : isInt s = true) : s ≠ [] := by
  intro h0
  subst h0
  exact absurd h (by decide)
theorem isNeg_numT {s : List UInt8} (h : isInt (numT s) = true) : isNeg s = isNeg (numT s) := by
  have hj := cut_join s
  have h0 := isInt_nonempty h
  have h1 : isNeg ((cut s).1 ++ (match (cut s).2 with | none => [] | some m => 47 :: m)) = isNeg (numT s) := isNeg_app h0
  exact (congrArg isNeg hj).trans h1
theorem frac_nonempty {s : List UInt8} (h : chk s = 0) : s ≠ [] := by
  intro h0
  subst h0
  exact absurd h (by decide)
theorem zero_text {s : List UInt8} (h : chk s = 0) (hn : isNeg s = false) : dv (bare (numT s)) = 0 ↔ s = [48] := by
  obtain ⟨h1, h2, h3, h4, h5, h6, h7⟩ := chk_zero h
  rw [isNeg_numT h1] at hn
  constructor
  · intro h0
    have h8 := isInt_render h1
    rw [h0, render_zero, bare_of_not hn] at h8
    rw [h0, Nat.gcd_zero_left] at h7
    have h9 : (cut s).2 = none := by
      cases hc : (cut s).2 with
      | none => rfl
      | some m => have := h6 (by rw [hc]; rfl); omega
    have hj := cut_join s
    rw [h9] at hj
    simp only [List.append_nil] at hj
    rw [hj]
    exact h8.symm
  · rintro rfl
    decide
theorem sgn_neg {s : List UInt8} (h : chk s = 0) (hn : isNeg s = true) : sgnQ (rat s) = -1 := by
  have h1 := (chk_zero h).1
  rw [isNeg_numT h1] at hn
  rw [rat_num h, sgnQ_num _ _ _ (den_pos h), hn]
  have := isInt_pos h1 hn
  rw [if_neg (by omega)]
  rfl
theorem sgn_zero {s : List UInt8} (h : chk s = 0) (hn : isNeg s = false) (h0 : s = [48]) : sgnQ (rat s) = 0 := by
  rw [rat_num h, sgnQ_num _ _ _ (den_pos h), if_pos ((zero_text h hn).2 h0)]
theorem sgn_pos {s : List UInt8} (h : chk s = 0) (hn : isNeg s = false) (h0 : s ≠ [48]) : sgnQ (rat s) = 1 := by
  have h2 := hn
  rw [isNeg_numT (chk_zero h).1] at h2
  rw [rat_num h, sgnQ_num _ _ _ (den_pos h), if_neg (fun h1 => h0 ((zero_text h hn).1 h1)), h2]
  rfl
theorem rat_zero_iff {s : List UInt8} (h : chk s = 0) : rat s = 0 ↔ s = [48] := by
  constructor
  · intro h0
    cases hn : isNeg s with
    | true =>
      have := sgn_neg h hn
      rw [h0] at this
      exact absurd this (by decide)
    | false =>
      rw [rat_num h, num_eq_zero _ _ _ (den_pos h)] at h0
      exact (zero_text h hn).1 h0
  · rintro rfl
    rfl
theorem neg_of_zero {s : List UInt8} (h : s = [48]) : isNeg s = false := by subst h; rfl

end Fr
