/- What parse returns, in terms of the texts of fractions and their numbers; Check, Sign, Neg, Floor, Ceil. -/
import Derived.Test.YtfphnoihkcnleaaGreatDoorPh
namespace Go.Proofs.YtfphnoihkcnleaaGreatDoor
open Go.RowKit

/-- What parse leaves for a fraction. -/
def GoodQ (w : World) (q : Rat) (e : Ending) (w' : World) : Prop := ∃ x, e = .returned (.tuple #[x, .int .i64 0]) ∧ Below w.heap.size w w' ∧ RatQ w' x q 120 ∧ Newer w.heap.size x

theorem chk_cond (l : List UInt8) : (Fr.isNeg (Fr.denT l) || ((Fr.cut l).2.isSome && decide (Fr.dv (Fr.bare (Fr.denT l)) ≤ 1)) || (Nat.gcd (Fr.dv (Fr.bare (Fr.numT l))) (Fr.dv (Fr.bare (Fr.denT l))) != 1)) =
    (Fr.isNeg (Fr.denT l) || ((Fr.cut l).2.isSome && decide (Fr.dv (Fr.denT l) ≤ 1)) || (Nat.gcd (Fr.dv (Fr.bare (Fr.numT l))) (Fr.dv (Fr.denT l)) != 1)) := by
  cases h : Fr.isNeg (Fr.denT l) with
  | true => simp
  | false => rw [Fr.bare_of_not h]

theorem parse_bad (s : ByteArray) (w : World) (hst : St w) (hs : s.size ≤ 800) (h : Fr.chk s.data.toList ≠ 0) :
    Calls Tryz.prog 51 #[.string s] w (BadPost w (Fr.chk s.data.toList)) := by
  unfold Fr.chk at h ⊢
  by_cases h1 : (!Fr.isInt (Fr.numT s.data.toList) || !Fr.isInt (Fr.denT s.data.toList)) = true
  · rw [if_pos h1]
    refine parse_form s w hst hs ?_
    cases hn : Fr.isInt (Fr.numT s.data.toList) with
    | false => exact .inl rfl
    | true => rw [hn] at h1; exact .inr ⟨rfl, by simpa using h1⟩
  · rw [if_neg h1] at h ⊢
    simp only [Bool.or_eq_true, Bool.not_eq_true', not_or, Bool.not_eq_false] at h1
    by_cases h2 : (Fr.isLong (Fr.numT s.data.toList) || Fr.isLong (Fr.denT s.data.toList)) = true
    · rw [if_pos h2]
      refine parse_large s w hst hs h1.1 h1.2 ?_
      cases hn : Fr.isLong (Fr.numT s.data.toList) with
      | true => exact .inl rfl
      | false => rw [hn] at h2; exact .inr ⟨rfl, by simpa using h2⟩
    · rw [if_neg h2] at h ⊢
      simp only [Bool.or_eq_true, not_or, Bool.not_eq_true] at h2
      refine parse_rest s w hst hs h1.1 h1.2 h2.1 h2.2 _ ?_ ?_
      · intro hc e w' hb
        rw [chk_cond] at hc
        rw [if_pos hc]
        exact hb
      · intro hc e w' hb
        rw [chk_cond] at hc
        rw [hc] at h
        exact absurd rfl h

theorem parse_good (s : ByteArray) (w : World) (hst : St w) (hs : s.size ≤ 800) (h : Fr.chk s.data.toList = 0) :
    Calls Tryz.prog 51 #[.string s] w (GoodQ w (Fr.rat s.data.toList)) := by
  obtain ⟨h1, h2, h3, h4, h5, h6, h7⟩ := Fr.chk_zero h
  have hd := Fr.den_pos h
  refine parse_rest s w hst hs h1 h2 h3 h4 _ ?_ ?_
  · intro hc
    exfalso
    rw [chk_cond] at hc
    unfold Fr.chk at h
    rw [h1, h2, h3, h4, hc] at h
    exact absurd h (by decide)
  · rintro hc e w' ⟨x, r1, r2, r3, r4⟩
    rw [Fr.bare_of_not h5] at r3
    exact ⟨x, r1, r2, ⟨_, _, _, r3, hd, (Fr.rat_num h).symm⟩, r4⟩

end Go.Proofs.YtfphnoihkcnleaaGreatDoor
