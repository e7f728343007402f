/- What the condition of a card gives the walks: the variables of the library; and a world that meets it. -/
import Derived.Test.YtmmcakeedejbnacDoorRows
import Derived.Test.YtmmcakeedejbnacDoorTie
import Derived.Test.YtmmcakeedejbnacDoorCards
import Derived.Test.YtmmcakeedejbnacDoorPj
import Derived.Deep.DeepHandedRow
import Derived.Deep.DeepWitnessRowRef
import Derived.Lay
import Derived.MakeChecks
import Derived.Stop.LaidErr
import Derived.Lib.LaidTab
import Derived.ProofKit
import Derived.SevenTiedAt
namespace Go.Proofs.YtmmcakeedejbnacDoor
open Go.ChangeShapes Go.WideShapes Go.RowKit

theorem ownKey : ownKnob Tryd.prog.godebug = none := by kernel_rfl
theorem pow_eq : (Rows.laid_internal_strconv_uint64pow10 : DataW Unit) = Lib.tabData .u64 Lib.pow10Tab := by kernel_rfl
theorem pow_type : (Tryd.prog.globals[0]?).map (·.type) = some 143 := by kernel_rfl

theorem size_of {W : World} (h : W.ShapedOpen Tryd.prog) : 6 ≤ W.heap.size := by
  obtain ⟨⟨z, t⟩, hz⟩ := Option.isSome_iff_exists.1 (show (((begin Tryd.prog (fun _ _ => 0) default).world.heap[5]?).bind Obj.row?).isSome = true by kernel_rfl)
  obtain ⟨cs, hcs, _⟩ := h.1 5 z t (of_decide_eq_true (by kernel_rfl)) hz
  have := (Array.getElem?_eq_some_iff.1 hcs).1
  omega

theorem st_of {W : World} (hsh : W.ShapedOpen Tryd.prog) {x y : String × DataW Unit} {r : List (String × DataW Unit)}
    (hL : laidMet Tryd.prog (x :: y :: ("internal/strconv.uint64pow10", Rows.laid_internal_strconv_uint64pow10) :: r) W) : St W := by
  have h1 := hL.tail.tail
  rw [pow_eq] at h1
  exact ⟨size_of hsh, Tryd.laysM145.s1_3 W hsh, Lib.tabIs_of_head Tryd.pow10_global pow_type Tryd.underlying143 Tryd.underlying118 (by kernel_rfl) (by kernel_rfl) h1⟩


end Go.Proofs.YtmmcakeedejbnacDoor

