/- timed and Forget of the reference. -/
import Derived.Test.YtkemicfaiipidaaBU
import Derived.Test.YtkemicfaiipidaaBP
namespace Bn
/-- A matrix behind the first k steps of Forget. -/
def fgS (P : Mx) (a k : Nat) : Mx := fun x y => if x ≠ y ∧ ((x = a ∧ y < k) ∨ (y = a ∧ x < k)) then -1099511627776 else P x y
theorem fgS_zero (P : Mx) (a x y : Nat) : fgS P a 0 x y = P x y := if_neg (by omega)
theorem fgS_same (P : Mx) (a x y : Nat) : fgS P a a x y = fgS P a (a + 1) x y := by unfold fgS; grind
theorem fgS_next {P : Mx} {a k : Nat} (h : k ≠ a) (x y : Nat) : up (up (fgS P a k) a k (-1099511627776)) k a (-1099511627776) x y = fgS P a (k + 1) x y := by unfold fgS up; grind
theorem fgS_end {P : Mx} {N a x y : Nat} (hx : x ≤ N) (hy : y ≤ N) : fgS P a (N + 1) x y = fgF N a P x y := by unfold fgS fgF; grind
end Bn
namespace Go.Proofs.Ytkemicfaiipidaa
open Go.RowKit
end Go.Proofs.Ytkemicfaiipidaa

