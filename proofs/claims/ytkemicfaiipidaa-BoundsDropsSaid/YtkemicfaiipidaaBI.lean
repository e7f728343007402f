/- Few, Possible, Extent and Witness of the reference. -/
import Derived.Test.YtkemicfaiipidaaBs
import Derived.Test.YtkemicfaiipidaaBi
import Derived.Test.YtkemicfaiipidaaBA
namespace Bn
def few (n : Int) (R : List (List Int)) : Bool := decide (R.length ≤ 50) && (R.all fun r => decide (r.length ≤ 50)) && (decide (n ≤ 5) || decide (chk n R ≠ 0))
/-- What the reference has in the place of the closed bounds. -/
theorem pr_cl {n : Nat} {R : List (List Int)} (hR : Rt n (mx R)) (h : ok n (mx R) = true) {i j : Nat} (hi : i ≤ n) (hj : j ≤ n) : pr n (mx R) (n + 1) i j = cl n R i j := by
  unfold cl; rw [Int.toNat_natCast]; exact clo_pr hR h hi hj
end Bn
namespace Go.Proofs.Ytkemicfaiipidaa
open Go.RowKit

theorem OwnB.form {B : Nat} {W : World} {v : Value} {n : Nat} {m : Bn.Mx} (h : OwnB B W v n m) : ∃ A cap f c, v = .agg #[.int .i64 (n : Int), .slice (some ⟨A, 0, none⟩) (n + 1) cap] ∧ n + 1 ≤ cap ∧ cap ≤ 9223372036854775807 ∧ Grd B W A (n + 1) (n + 1) f c m := h
end Go.Proofs.Ytkemicfaiipidaa

