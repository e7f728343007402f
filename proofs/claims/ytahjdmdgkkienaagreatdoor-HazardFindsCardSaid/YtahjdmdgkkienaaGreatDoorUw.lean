/- The contracts of package truth: cofactors, values, the connectives. -/
import Derived.Test.YtahjdmdgkkienaaGreatDoorUv
namespace Go.Proofs.YtahjdmdgkkienaaGreatDoor
open Go.RowKit Go.Shelf
theorem six {i : Nat} (h : i < 6) : i = 0 ∨ i = 1 ∨ i = 2 ∨ i = 3 ∨ i = 4 ∨ i = 5 := by omega
theorem spread_up (l q : Nat) (hl : l < 18446744073709551616) : bits .or .u64 (l : Int) (IntKind.u64.wrap ((l : Int) * (q : Int))) = ((l ||| (l * q % 18446744073709551616) : Nat) : Int) := by
  have e : IntKind.u64.wrap ((l : Int) * (q : Int)) = ((l * q % 18446744073709551616 : Nat) : Int) := by
    rw [IntKind.wrap_u64, ← Int.natCast_mul]; omega
  rw [e, u64_or_nat _ _ hl (Nat.mod_lt _ (by omega))]
theorem spread_dn (l q : Nat) (hl : l < 18446744073709551616) : bits .or .u64 (l : Int) ((l : Int) / (q : Int)) = ((l ||| (l / q) : Nat) : Int) := by
  rw [← Int.natCast_ediv, u64_or_nat _ _ hl (Nat.lt_of_le_of_lt (Nat.div_le_self _ _) hl)]
/-- What checkVariable returns. -/
def chkv (n : Int) (b : Nat) (i : Int) : Int := if Tt.chk n b ≠ 0 then Tt.chk n b else if 0 ≤ i ∧ i < n then 0 else 2
theorem chkv_zero {n : Int} {b : Nat} {i : Int} : chkv n b i = 0 ↔ Tt.chk n b = 0 ∧ 0 ≤ i ∧ i < n := by
  unfold chkv
  by_cases h1 : Tt.chk n b ≠ 0
  · rw [if_pos h1]; simp [h1]
  · rw [if_neg h1]
    by_cases h2 : 0 ≤ i ∧ i < n
    · rw [if_pos h2]; simp at h1; simp [h1, h2]
    · rw [if_neg h2]; simp; intro _; omega
end Go.Proofs.YtahjdmdgkkienaaGreatDoor

