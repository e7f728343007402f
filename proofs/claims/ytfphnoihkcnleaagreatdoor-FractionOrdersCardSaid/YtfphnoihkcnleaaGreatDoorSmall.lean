/- What strconv.Atoi makes of the texts of fractions. Plain; no program. -/
import Derived.Test.YtfphnoihkcnleaaGreatDoorTxt
import Derived.Lib.AtoiAll
namespace Fr
open Limb Go.Lib

/-- The int of a fraction, or the number of the error. -/
def smallV (s : List UInt8) : Int × Int :=
  if chk s = 0 then (if (rat s).den = 1 ∧ -9223372036854775808 ≤ (rat s).num ∧ (rat s).num < 9223372036854775808 then ((rat s).num, 0) else (0, 2)) else (0, chk s)

theorem dv_cons (c : UInt8) (l : List UInt8) : dv (c :: l) = dig c * 10 ^ l.length + dv l := by
  have h := dv_app [c] l
  simpa [dv, val] using h

theorem parse_digs : ∀ (l : List UInt8) (acc : Nat), l.all isDig = true → acc < 18446744073709551616 →
    parseUint10 acc l = if acc * 10 ^ l.length + dv l < 18446744073709551616 then .ok (acc * 10 ^ l.length + dv l) else .range
  | [], acc, _, ha => by
    have h0 : dv [] = 0 := rfl
    rw [h0]
    simp [parseUint10, ha]
  | c :: l, acc, h, ha => by
    rw [List.all_cons, Bool.and_eq_true] at h
    have hc : 48 ≤ c.toNat ∧ c.toNat ≤ 57 := by have := h.1; unfold isDig at this; simpa using this
    have hd : dig c = c.toNat - 48 := rfl
    have hp : 0 < 10 ^ l.length := Nat.pow_pos (by omega)
    have e : acc * 10 ^ (c :: l).length + dv (c :: l) = (acc * 10 + dig c) * 10 ^ l.length + dv l := by
      rw [dv_cons, List.length_cons, Nat.pow_succ, Nat.add_mul, Nat.mul_assoc, Nat.mul_comm (10 ^ l.length) 10]; omega
    rw [e, parseUint10, if_pos hc]
    by_cases h1 : 1844674407370955162 ≤ acc
    · rw [if_pos h1, if_neg]
      have : (acc * 10 + dig c) * 1 ≤ (acc * 10 + dig c) * 10 ^ l.length := Nat.mul_le_mul (Nat.le_refl _) hp
      omega
    · rw [if_neg h1, ← hd]
      by_cases h2 : 18446744073709551616 ≤ acc * 10 + dig c
      · rw [if_pos h2, if_neg]
        have : (acc * 10 + dig c) * 1 ≤ (acc * 10 + dig c) * 10 ^ l.length := Nat.mul_le_mul (Nat.le_refl _) hp
        omega
      · rw [if_neg h2]
        exact parse_digs l _ h.2 (by omega)

theorem parse_ok : ∀ (l : List UInt8) (acc u : Nat), parseUint10 acc l = .ok u → l.all isDig = true
  | [], _, _, _ => rfl
  | c :: l, acc, u, h => by
    rw [parseUint10] at h
    split at h
    · rename_i hc
      split at h
      · cases h
      · split at h
        · cases h
        · rw [List.all_cons, parse_ok l _ u h]
          unfold isDig
          simp [hc.1, hc.2]
    · cases h

theorem atoi_digs {l : List UInt8} (h : l.all isDig = true) (h0 : l ≠ []) : parseMag l = if dv l < 18446744073709551616 then .ok (dv l) else .range := by
  unfold parseMag
  rw [if_neg h0, parse_digs l 0 h (by omega)]
  simp

theorem atoi_int {s : List UInt8} (h : isInt s = true) :
    atoiAll s = if -9223372036854775808 ≤ sv s ∧ sv s < 9223372036854775808 then .ok (sv s) else .range := by
  have ha := isInt_all h
  have hn := isInt_ne h
  unfold atoiAll
  match s, h with
  | [], h => exact absurd rfl hn
  | c :: r, h =>
    by_cases hc : c = 45
    · subst hc
      have hb : bare (45 :: r) = r := rfl
      have hs : sv (45 :: r) = -(dv r : Int) := rfl
      rw [hb] at ha hn
      have hsg : ((45 : UInt8).toNat = 43 ∨ (45 : UInt8).toNat = 45) := Or.inr rfl
      simp only []
      rw [if_pos hsg, atoi_digs ha hn, hs]
      by_cases h1 : dv r < 18446744073709551616
      · rw [if_pos h1]
        simp only []
        rw [if_neg (by intro h; exact h.1 rfl)]
        by_cases h2 : 9223372036854775808 < dv r
        · rw [if_pos ⟨rfl, h2⟩, if_neg (by omega)]
        · rw [if_neg (by intro h; exact h2 h.2), if_pos (show -9223372036854775808 ≤ -(dv r : Int) ∧ -(dv r : Int) < 9223372036854775808 from by omega)]
          rfl
      · rw [if_neg h1, if_neg (by omega)]
    · have hb : bare (c :: r) = c :: r := by simp [bare, hc]
      have hs : sv (c :: r) = (dv (c :: r) : Int) := by
        unfold sv isNeg
        rw [hb, if_neg (by simpa using hc)]
      rw [hb] at ha hn
      have hcd : 48 ≤ c.toNat ∧ c.toNat ≤ 57 := by
        have : isDig c = true := by rw [List.all_cons, Bool.and_eq_true] at ha; exact ha.1
        unfold isDig at this; simpa using this
      simp only []
      rw [if_neg (by omega), atoi_digs ha hn, hs]
      by_cases h1 : dv (c :: r) < 18446744073709551616
      · rw [if_pos h1]
        simp only []
        by_cases h2 : 9223372036854775808 ≤ dv (c :: r)
        · rw [if_pos ⟨by omega, h2⟩, if_neg (by omega)]
        · rw [if_neg (by intro h; exact h2 h.2), if_neg (by intro h; omega), if_pos (show -9223372036854775808 ≤ (dv (c :: r) : Int) ∧ (dv (c :: r) : Int) < 9223372036854775808 from by omega), if_neg (show ¬ c.toNat = 45 from by omega)]
      · rw [if_neg h1, if_neg (by omega)]

theorem atoi_slash {s : List UInt8} (h : (47 : UInt8) ∈ s) (v : Int) : atoiAll s ≠ .ok v := by
  intro he
  unfold atoiAll at he
  match s, h with
  | c :: r, h =>
    simp only [] at he
    have hm : (47 : UInt8) ∈ (if c.toNat = 43 ∨ c.toNat = 45 then r else c :: r) := by
      split
      · rename_i hc
        rcases List.mem_cons.1 h with h | h
        · exfalso
          rw [← h] at hc
          rcases hc with hc | hc <;> exact absurd hc (by decide)
        · exact h
      · exact h
    generalize (if c.toNat = 43 ∨ c.toNat = 45 then r else c :: r) = l at *
    cases hp : parseMag l
    case ok u =>
      unfold parseMag at hp
      split at hp
      · cases hp
      · have := parse_ok l 0 u hp
        rw [List.all_eq_true] at this
        exact absurd (this _ hm) (by decide)
    all_goals
      rw [hp] at he
      cases he

/-- What Atoi makes of a fraction. -/
theorem atoi_frac {s : List UInt8} (h : chk s = 0) : (∃ v, atoiAll s = .ok v ∧ smallV s = (v, 0)) ∨ ((atoiAll s = atoiAll [] ∨ atoiAll s = .range) ∧ smallV s = (0, 2)) := by
  obtain ⟨h1, h2, h3, h4, h5, h6, h7⟩ := chk_zero h
  obtain ⟨hn, hd⟩ := rat_parts h
  unfold smallV
  rw [if_pos h, hn, hd]
  have hj := cut_join s
  cases hc : (cut s).2 with
  | none =>
    rw [hc] at hj
    have hs : numT s = s := by unfold numT; simpa using hj.symm
    have hden : dv (denT s) = 1 := by unfold denT; rw [hc]; rfl
    rw [hs] at h1
    rw [hs, hden, atoi_int h1]
    by_cases hr : -9223372036854775808 ≤ sv s ∧ sv s < 9223372036854775808
    · left
      exact ⟨sv s, if_pos hr, if_pos ⟨rfl, hr.1, hr.2⟩⟩
    · right
      exact ⟨.inr (if_neg hr), if_neg (fun h => hr h.2)⟩
  | some m =>
    rw [hc] at hj
    right
    have hden : ¬ dv (denT s) = 1 := by
      intro h1
      have h8 := denT_eq h
      rw [if_pos h1, hc] at h8
      cases h8
    refine ⟨?_, if_neg (fun h => hden h.1)⟩
    have hm : (47 : UInt8) ∈ s := by rw [hj]; simp
    cases ha : atoiAll s
    case ok v => exact absurd ha (atoi_slash hm v)
    case range => exact .inr rfl
    exact .inl rfl

end Fr
