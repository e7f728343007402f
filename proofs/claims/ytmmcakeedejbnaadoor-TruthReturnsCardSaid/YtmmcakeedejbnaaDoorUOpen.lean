/- What the condition of a card gives the walks: the variables of the program and of the library; and a world that meets it. -/
import Derived.Test.YtmmcakeedejbnaaDoorRows
import Derived.Test.YtmmcakeedejbnaaDoorTie
import Derived.Test.YtmmcakeedejbnaaDoorCards
import Derived.Test.YtmmcakeedejbnaaDoorUo
import Derived.Deep.DeepHandedRow
import Derived.Deep.DeepWitnessRowRef
import Derived.Lay
import Derived.MakeChecks
import Derived.Stop.LaidErr
import Derived.Lib.LaidTab
import Derived.ProofKit
import Derived.SevenTiedAt
namespace Go.Proofs.YtmmcakeedejbnaaDoor
open Go.ChangeShapes Go.WideShapes Go.RowKit

theorem ownKey : ownKnob Tryd.prog.godebug = none := by kernel_rfl
def tzInts : List Int := Lib.deBruijn64tab.map fun n : Nat => (n : Int)
def colInts : List Int := [12297829382473034410, 14757395258967641292, 17361641481138401520, 18374966859414961920, 18446462603027742720, 18446744069414584320]
theorem tz_eq : (Rows.laid_math_bits_deBruijn64tab : DataW Unit) = Lib.tabData .u8 tzInts := by kernel_rfl
theorem col_eq : (Rows.laid_pneumatic_truth_columns : DataW Unit) = Lib.tabData .u64 colInts := by kernel_rfl
theorem tz_type : (Tryd.prog.globals[1]?).map (·.type) = some 116 := by kernel_rfl
theorem col_type : (Tryd.prog.globals[0]?).map (·.type) = some 81 := by kernel_rfl
theorem tz_named : Tryd.prog.globalNamed "math/bits.deBruijn64tab" = some 1 := by kernel_rfl
theorem col_named : Tryd.prog.globalNamed "pneumatic/truth.columns" = some 0 := by kernel_rfl

theorem st_of {W : World} (_ : W.ShapedOpen Tryd.prog) {x : String × DataW Unit} {r : List (String × DataW Unit)}
    (hL : laidMet Tryd.prog (x :: ("math/bits.deBruijn64tab", Rows.laid_math_bits_deBruijn64tab) :: ("pneumatic/truth.columns", Rows.laid_pneumatic_truth_columns) :: r) W) : St W := by
  have h1 := hL.tail
  have h2 := hL.tail.tail
  rw [tz_eq] at h1
  rw [col_eq] at h2
  have t1 := Lib.tabIs_of_head tz_named tz_type Tryd.underlying116 Tryd.underlying5 (by kernel_rfl) (by kernel_rfl) h1
  have t2 := Lib.tabIs_of_head col_named col_type Tryd.underlying81 Tryd.underlying22 (by kernel_rfl) (by kernel_rfl) h2
  have c1 : TzTab W := fun j hj => by
    have h := t1.cell tz_named j (show j < tzInts.length from hj)
    rw [h]
    have e : ∀ j, j < 64 → tzInts.getD j 0 = ((Lib.deBruijn64tab.getD j 0 : Nat) : Int) := by decide +kernel
    rw [e j hj]
  have c2 : ColTab W := fun j hj => by
    have h := t2.cell col_named j (show j < colInts.length from hj)
    rw [h]
    have e : ∀ j, j < 6 → colInts.getD j 0 = ((Tt.col j : Nat) : Int) := by decide +kernel
    rw [e j hj]
  exact ⟨c1, c2, World.block_lt_of_cell? W ⟨1, 0, none⟩ (c1 0 (by omega)), World.block_lt_of_cell? W ⟨0, 0, none⟩ (c2 0 (by omega))⟩

end Go.Proofs.YtmmcakeedejbnaaDoor
