/- What the condition of a card gives the walks: the variables of the library; and a world that meets it. -/
import Derived.Test.YtldclpdmcopgnaaGreatDoorRows
import Derived.Test.YtldclpdmcopgnaaGreatDoorTie
import Derived.Test.YtldclpdmcopgnaaGreatDoorCards
import Derived.Test.YtldclpdmcopgnaaGreatDoorPj
import Derived.Deep.DeepHandedRow
import Derived.Deep.DeepWitnessRowRef
import Derived.Lay
import Derived.MakeChecks
import Derived.Stop.LaidErr
import Derived.Lib.LaidTab
import Derived.ProofKit
import Derived.SevenTiedAt
namespace Go.Proofs.YtldclpdmcopgnaaGreatDoor
open Go.ChangeShapes Go.WideShapes Go.RowKit

theorem ownKey : ownKnob Tryz.prog.godebug = none := by kernel_rfl

theorem size_of {W : World} (h : W.ShapedOpen Tryz.prog) : 3 ≤ W.heap.size := by
  obtain ⟨⟨z, t⟩, hz⟩ := Option.isSome_iff_exists.1 (show (((begin Tryz.prog (fun _ _ => 0) default).world.heap[2]?).bind Obj.row?).isSome = true by kernel_rfl)
  obtain ⟨cs, hcs, _⟩ := h.1 2 z t (of_decide_eq_true (by kernel_rfl)) hz
  have := (Array.getElem?_eq_some_iff.1 hcs).1
  omega

theorem st_of {W : World} (hsh : W.ShapedOpen Tryz.prog) : St W := ⟨size_of hsh, Tryz.laysM145.s1_3 W hsh⟩


end Go.Proofs.YtldclpdmcopgnaaGreatDoor

