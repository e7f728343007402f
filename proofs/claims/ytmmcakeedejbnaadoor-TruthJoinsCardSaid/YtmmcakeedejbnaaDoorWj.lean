/- The call of TruthJoins, for the numbers that a card hands in. -/
import Derived.Test.YtmmcakeedejbnaaDoorVj
namespace Go.Proofs.YtmmcakeedejbnaaDoor
open Go.RowKit
theorem lawJoins_card (x0 y0 x1 y1 : Int) (W : World) (hst : St W) (_ : -9223372036854775808 ≤ x0) (_ : x0 ≤ 9223372036854775807) (h0 : 0 ≤ y0) (h1 : y0 ≤ 18446744073709551615) (_ : -9223372036854775808 ≤ x1) (_ : x1 ≤ 9223372036854775807) (h2 : 0 ≤ y1) (h3 : y1 ≤ 18446744073709551615) :
    Calls Tryd.prog 4 #[.agg #[.int .i64 x0, .int .u64 y0], .agg #[.int .i64 x1, .int .u64 y1]] W fun e w' => e = .returned (.bool true) ∧ Below W.heap.size W w' := by
  obtain ⟨b, rfl⟩ := Int.eq_ofNat_of_zero_le h0
  obtain ⟨c, rfl⟩ := Int.eq_ofNat_of_zero_le h2
  exact lawJoins_any x0 b x1 c W hst (by omega) (by omega)
end Go.Proofs.YtmmcakeedejbnaaDoor
