/- Prime implicants: what they are, by their points; plain facts. -/
import Derived.Test.YtahjdmdgkkienaaGreatDoorJp
import Derived.Test.YtahjdmdgkkienaaGreatDoorIv
namespace Ic

/-- A cube without its condition for a variable is wider. -/
theorem clr_bit {c i j : Nat} (hc : c < 2 ^ 64) (hi : i < 64) : (c &&& (18446744073709551615 - 2 ^ i)).testBit j = (c.testBit j && !decide (j = i)) := by
  rw [cons_bit hc (Nat.pow_lt_pow_right (by omega) hi), Nat.testBit_two_pow]
  congr 2
  exact decide_eq_decide.2 eq_comm
theorem imp_iff {n on fr c v : Nat} (hn : n ≤ 6) (ho : on < 2 ^ 64) (hf : fr < 2 ^ 64) : imp n on fr c v = true ↔ ∀ k, k < 2 ^ n → inn c v k = true → (on ||| fr).testBit k = true := by
  unfold imp
  rw [beq_iff_eq, sub_iff (Tt.w64 hn (tab_lt n c v)) (Nat.or_lt_two_pow ho hf)]
  constructor
  · intro h k hk hi
    exact h k (by rw [tab_in hk]; exact hi)
  · intro h k hk
    rw [tab_bit, Bool.and_eq_true, decide_eq_true_iff] at hk
    exact h k hk.1 hk.2
theorem tight_iff {n on fr c v : Nat} : tight n on fr c v n = true ↔ ∀ i, i < n → c.testBit i = true → imp n on fr (c &&& (18446744073709551615 - 2 ^ i)) (v &&& (18446744073709551615 - 2 ^ i)) = false := by
  unfold tight
  rw [List.all_eq_true]
  constructor
  · intro h i hi hc
    have := h i (List.mem_range.2 hi)
    rw [hc] at this
    simpa using this
  · intro h i hi
    cases hc : c.testBit i
    · rfl
    · rw [h i (List.mem_range.1 hi) hc]; rfl
theorem prime_iff {n on fr c v : Nat} : prime n on fr c v = true ↔ tab n c v &&& on ≠ 0 ∧ imp n on fr c v = true ∧ tight n on fr c v n = true := by
  unfold prime
  rw [Bool.and_eq_true, Bool.and_eq_true, Bool.not_eq_true', beq_eq_false_iff_ne]

/-- Two prime cubes, of which one is inside the other one, are one. -/
theorem prime_alone {n on fr c v d u : Nat} (hn : n ≤ 6) (ho : on < 2 ^ 64) (hf : fr < 2 ^ 64) (hc : c < 2 ^ n) (_ : d < 2 ^ n) (hs : Sub v c) (ht : Sub u d) (h1 : prime n on fr c v = true) (h2 : prime n on fr d u = true) (hi : insB c v d u = true) : c = d ∧ v = u := by
  obtain ⟨-, -, h3⟩ := prime_iff.1 h1
  obtain ⟨-, h4, -⟩ := prime_iff.1 h2
  unfold insB at hi
  rw [Bool.and_eq_true, Bool.and_eq_true, beq_iff_eq, beq_iff_eq, beq_iff_eq, opp_zero, or_left, or_left] at hi
  obtain ⟨a1, a2, a3⟩ := hi
  have hdc : ∀ i, c.testBit i = true → d.testBit i = true := by
    intro i hci
    cases hdi : d.testBit i
    · exfalso
      have hin : i < n := bit_lt hc hci
      have hw := tight_iff.1 h3 i hin hci
      have : imp n on fr (c &&& (18446744073709551615 - 2 ^ i)) (v &&& (18446744073709551615 - 2 ^ i)) = true := by
        rw [imp_iff hn ho hf] at h4 ⊢
        intro k hk hik
        refine h4 k hk ?_
        rw [inn_iff (clr_sub hs)] at hik
        rw [inn_iff ht]
        intro j hj
        have hji : j ≠ i := fun e => by rw [e, hdi] at hj; cases hj
        have hcj := a2 j hj
        have := hik j (by rw [clr_bit (w64 hn hc) (by omega), hcj]; simp [hji])
        rw [this, clr_bit (w64 hn (hs.lt hc)) (by omega), ← a1 j hcj hj]
        simp [hji]
      rw [this] at hw; cases hw
    · rfl
  have e1 : c = d := Nat.eq_of_testBit_eq fun i => by
    cases h : c.testBit i
    · cases h' : d.testBit i
      · rfl
      · rw [a2 i h'] at h; cases h
    · rw [hdc i h]
  refine ⟨e1, Nat.eq_of_testBit_eq fun i => ?_⟩
  cases h : c.testBit i
  · have : v.testBit i = false := by
      cases h' : v.testBit i
      · rfl
      · rw [hs i h'] at h; cases h
    have h2 : u.testBit i = false := by
      cases h' : u.testBit i
      · rfl
      · rw [← e1] at ht; rw [ht i h'] at h; cases h
    rw [this, h2]
  · exact a1 i h (hdc i h)

/-- Each implicant with a point of On lies in a prime one. -/
theorem prime_over {n on fr : Nat} (hn : n ≤ 6) (_ : on < 2 ^ 64) (_ : fr < 2 ^ 64) {k : Nat} (hk : k < 2 ^ n) (hon : on.testBit k = true) :
    ∀ c v, c < 2 ^ n → Sub v c → imp n on fr c v = true → inn c v k = true → ∃ d u, d < 2 ^ n ∧ Sub u d ∧ prime n on fr d u = true ∧ inn d u k = true ∧ (∀ j, inn c v j = true → inn d u j = true) := by
  intro c
  induction c using Nat.strongRecOn with
  | _ c ih =>
    intro v hc hs hi hin
    cases ht : tight n on fr c v n
    · have : ¬ ∀ i, i < n → c.testBit i = true → imp n on fr (c &&& (18446744073709551615 - 2 ^ i)) (v &&& (18446744073709551615 - 2 ^ i)) = false := fun h => by
        rw [tight_iff.2 h] at ht; cases ht
      simp only [Classical.not_forall] at this
      obtain ⟨i, hin', hci, hne⟩ := this
      have hi2 : imp n on fr (c &&& (18446744073709551615 - 2 ^ i)) (v &&& (18446744073709551615 - 2 ^ i)) = true := by simpa using hne
      have hlt : c &&& (18446744073709551615 - 2 ^ i) < c := by
        refine Nat.lt_of_le_of_ne Nat.and_le_left (clr_ne (by omega) hci)
      have hwide : ∀ j, inn c v j = true → inn (c &&& (18446744073709551615 - 2 ^ i)) (v &&& (18446744073709551615 - 2 ^ i)) j = true := by
        intro j hj
        rw [inn_iff hs] at hj
        rw [inn_iff (clr_sub hs)]
        intro a ha
        rw [clr_bit (w64 hn hc) (by omega), Bool.and_eq_true] at ha
        rw [clr_bit (w64 hn (hs.lt hc)) (by omega), hj a ha.1]
        simp at ha
        simp [ha.2]
      obtain ⟨d, u, b1, b2, b3, b4, b5⟩ := ih _ hlt _ (clr_lt hc) (clr_sub hs) hi2 (hwide k hin)
      exact ⟨d, u, b1, b2, b3, b4, fun j hj => b5 j (hwide j hj)⟩
    · exact ⟨c, v, hc, hs, prime_iff.2 ⟨tab_ne.2 ⟨k, hk, hin, hon⟩, hi, ht⟩, hin, fun _ h => h⟩
end Ic

