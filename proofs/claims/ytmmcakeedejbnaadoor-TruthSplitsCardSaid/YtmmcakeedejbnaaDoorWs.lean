/- The call of TruthSplits, for the numbers that a card hands in. -/
import Derived.Test.YtmmcakeedejbnaaDoorVs
namespace Go.Proofs.YtmmcakeedejbnaaDoor
open Go.RowKit
theorem lawSplits_card (x0 y0 x1 : Int) (W : World) (hst : St W) (_ : -9223372036854775808 ≤ x0) (_ : x0 ≤ 9223372036854775807) (h0 : 0 ≤ y0) (h1 : y0 ≤ 18446744073709551615) (h2 : 0 ≤ x1) (h3 : x1 ≤ 255) :
    Calls Tryd.prog 9 #[.agg #[.int .i64 x0, .int .u64 y0], .int .u8 x1] W fun e w' => e = .returned (.bool true) ∧ Below W.heap.size W w' := by
  obtain ⟨b, rfl⟩ := Int.eq_ofNat_of_zero_le h0
  obtain ⟨x, rfl⟩ := Int.eq_ofNat_of_zero_le h2
  exact lawSplits_any x0 b x W hst (by omega) (by omega)
end Go.Proofs.YtmmcakeedejbnaaDoor
