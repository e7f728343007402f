/- The contracts of the reference of tables: Check, given, And, Or, Made. -/
import Derived.Test.YtahjdmdgkkienaaGreatDoorUi
import Derived.Test.YtahjdmdgkkienaaGreatDoorUg
import Derived.StillTailTactics
namespace Tt
/-- The table of the points below m. -/
def upto (p : Nat → Bool) (m : Nat) : Nat := (List.range m).foldl (fun a k => if p k then a ||| 2 ^ k else a) 0
theorem upto_zero (p : Nat → Bool) : upto p 0 = 0 := rfl
theorem upto_succ (p : Nat → Bool) (m : Nat) : upto p (m + 1) = if p m then upto p m ||| 2 ^ m else upto p m := by
  unfold upto
  rw [List.range_succ, List.foldl_append, List.foldl_cons, List.foldl_nil]
theorem upto_all (p : Nat → Bool) (n : Nat) : upto p (2 ^ n) = mk n p := rfl
theorem upto_lt (p : Nat → Bool) (m : Nat) : upto p m < 2 ^ m := Nat.lt_pow_two_of_testBit _ fun i hi => by
  have := fold_bit p m i
  unfold upto
  rw [this]; simp; omega
theorem chk_ok {n : Nat} {b : Nat} (hn : n ≤ 6) (hb : b < 2 ^ 2 ^ n) : chk n b = 0 := chk_zero.2 ⟨by omega, by omega, by simpa using hb⟩
/-- The error of two tables. -/
def giv (n : Int) (b : Nat) (m : Int) (c : Nat) : Int := if chk n b ≠ 0 then chk n b else if chk m c ≠ 0 then chk m c else if n = m then 0 else 8
theorem giv_zero {n : Int} {b : Nat} {m : Int} {c : Nat} : giv n b m c = 0 ↔ chk n b = 0 ∧ chk m c = 0 ∧ n = m := by
  unfold giv
  by_cases h1 : chk n b ≠ 0
  · rw [if_pos h1]; simp [h1]
  · rw [if_neg h1]
    by_cases h2 : chk m c ≠ 0
    · rw [if_pos h2]; simp [h2]
    · rw [if_neg h2]
      by_cases h3 : n = m
      · rw [if_pos h3]; subst h3; simp at h1 h2; simp [h1, h2]
      · rw [if_neg h3]; simp [h3]
end Tt
namespace Go.Proofs.YtahjdmdgkkienaaGreatDoor
open Go.RowKit

end Go.Proofs.YtahjdmdgkkienaaGreatDoor

