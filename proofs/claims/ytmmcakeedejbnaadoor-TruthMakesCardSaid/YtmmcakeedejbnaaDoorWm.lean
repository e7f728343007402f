/- The call of TruthMakes, for the numbers that a card hands in. -/
import Derived.Test.YtmmcakeedejbnaaDoorVm
namespace Go.Proofs.YtmmcakeedejbnaaDoor
open Go.RowKit
theorem lawMakes_card (x0 y0 x1 x2 : Int) (W : World) (hst : St W) (_ : -9223372036854775808 ≤ x0) (_ : x0 ≤ 9223372036854775807) (h0 : 0 ≤ y0) (h1 : y0 ≤ 18446744073709551615) (_ : -9223372036854775808 ≤ x1) (_ : x1 ≤ 9223372036854775807) (_ : -9223372036854775808 ≤ x2) (_ : x2 ≤ 9223372036854775807) :
    Calls Tryd.prog 3 #[.agg #[.int .i64 x0, .int .u64 y0], .int .i64 x1, .int .i64 x2] W fun e w' => e = .returned (.bool true) ∧ Below W.heap.size W w' := by
  obtain ⟨b, rfl⟩ := Int.eq_ofNat_of_zero_le h0
  exact lawMakes_any x0 b x1 x2 W hst (by omega)
end Go.Proofs.YtmmcakeedejbnaaDoor
