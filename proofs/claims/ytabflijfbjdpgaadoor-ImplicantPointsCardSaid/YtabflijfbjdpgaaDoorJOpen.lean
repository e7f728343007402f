/- What the condition of a card gives the walks: the variables of the program and of the library; and a world that meets it. -/
import Derived.Test.YtabflijfbjdpgaaDoorRows
import Derived.Test.YtabflijfbjdpgaaDoorTie
import Derived.Test.YtabflijfbjdpgaaDoorCards
import Derived.Test.YtabflijfbjdpgaaDoorIy
import Derived.Deep.DeepHandedRow
import Derived.Deep.DeepWitnessRowRef
import Derived.Lay
import Derived.MakeChecks
import Derived.Stop.LaidErr
import Derived.Lib.LaidTab
import Derived.ProofKit
import Derived.SevenTiedAt
namespace Go.Proofs.YtabflijfbjdpgaaDoor
open Go.ChangeShapes Go.WideShapes Go.RowKit

theorem ownKey : ownKnob Tryd.prog.godebug = none := by kernel_rfl
def colInts : List Int := [12297829382473034410, 14757395258967641292, 17361641481138401520, 18374966859414961920, 18446462603027742720, 18446744069414584320]
theorem col_eq : (Rows.laid_pneumatic_truth_columns : DataW Unit) = Lib.tabData .u64 colInts := by kernel_rfl
theorem col_type : (Tryd.prog.globals[0]?).map (·.type) = some 132 := by kernel_rfl
theorem col_named : Tryd.prog.globalNamed "pneumatic/truth.columns" = some 0 := by kernel_rfl

theorem st_of {W : World} (_ : W.ShapedOpen Tryd.prog) {r : List (String × DataW Unit)}
    (hL : laidMet Tryd.prog (("pneumatic/truth.columns", Rows.laid_pneumatic_truth_columns) :: r) W) : St W := by
  have h2 := hL
  rw [col_eq] at h2
  have t2 := Lib.tabIs_of_head col_named col_type Tryd.underlying132 Tryd.underlying30 (by kernel_rfl) (by kernel_rfl) h2
  have c2 : ColTab W := fun j hj => by
    have h := t2.cell col_named j (show j < colInts.length from hj)
    rw [h]
    have e : ∀ j, j < 6 → colInts.getD j 0 = ((Tt.col j : Nat) : Int) := by decide +kernel
    rw [e j hj]
  exact ⟨c2, World.block_lt_of_cell? W ⟨0, 0, none⟩ (c2 0 (by omega))⟩

end Go.Proofs.YtabflijfbjdpgaaDoor
