/- What the condition of a card gives the walks: the variables of the library; and a world that meets it. -/
import Derived.Test.YtfphnoihkcnleaaGreatDoorRows
import Derived.Test.YtfphnoihkcnleaaGreatDoorTie
import Derived.Test.YtfphnoihkcnleaaGreatDoorCards
import Derived.Test.YtfphnoihkcnleaaGreatDoorPj
import Derived.Deep.DeepHandedRow
import Derived.Deep.DeepWitnessRowRef
import Derived.Lay
import Derived.MakeChecks
import Derived.Stop.LaidErr
import Derived.Lib.LaidTab
import Derived.ProofKit
import Derived.SevenTiedAt
namespace Go.Proofs.YtfphnoihkcnleaaGreatDoor
open Go.ChangeShapes Go.WideShapes Go.RowKit

theorem ownKey : ownKnob Tryz.prog.godebug = none := by kernel_rfl
theorem pow_eq : (Rows.laid_internal_strconv_uint64pow10 : DataW Unit) = Lib.tabData .u64 Lib.pow10Tab := by kernel_rfl
theorem pow_type : (Tryz.prog.globals[3]?).map (·.type) = some 172 := by kernel_rfl

theorem size_of {W : World} (h : W.ShapedOpen Tryz.prog) : 8 ≤ W.heap.size := by
  obtain ⟨⟨z, t⟩, hz⟩ := Option.isSome_iff_exists.1 (show (((begin Tryz.prog (fun _ _ => 0) default).world.heap[7]?).bind Obj.row?).isSome = true by kernel_rfl)
  obtain ⟨cs, hcs, _⟩ := h.1 7 z t (of_decide_eq_true (by kernel_rfl)) hz
  have := (Array.getElem?_eq_some_iff.1 hcs).1
  omega

theorem st_of {W : World} (hsh : W.ShapedOpen Tryz.prog) {x y : String × DataW Unit} {r : List (String × DataW Unit)}
    (hL : laidMet Tryz.prog (x :: y :: ("internal/strconv.uint64pow10", Rows.laid_internal_strconv_uint64pow10) :: r) W) : St W := by
  have h1 := hL.tail.tail
  rw [pow_eq] at h1
  exact ⟨size_of hsh, Tryz.laysM145.s1_3 W hsh, Lib.tabIs_of_head Tryz.pow10_global pow_type Tryz.underlying172 Tryz.underlying138 (by kernel_rfl) (by kernel_rfl) h1⟩

theorem star_eq : "*" ++ "errors.errorString" = "*errors.errorString" := by decide
theorem row_err (u : TypeId) (h : Tryz.prog.typeName? 3 u = some "*errors.errorString") : u = 168 :=
  typeName_ptr_named (nm := "errors.errorString") (by rw [star_eq]; kernel_rfl) (by kernel_rfl) (by decide) u (by rw [star_eq]; exact h)
theorem stE_of {W : World} {x y z u : String × DataW Unit} {r : List (String × DataW Unit)}
    (hL : laidMet Tryz.prog (x :: y :: z :: u :: ("strconv.ErrRange", Rows.laid_strconv_ErrRange) :: ("strconv.ErrSyntax", Rows.laid_strconv_ErrSyntax) :: r) W) : StE W := by
  have h1 := hL.tail.tail.tail.tail
  obtain ⟨a1, _, v1, _⟩ := laid_sentinel (g := 1) h1 (by kernel_rfl) (by kernel_rfl) Tryz.underlying77 row_err Tryz.underlying168 Tryz.underlying170 rfl rfl Tryz.underlying9 (by kernel_rfl) (by kernel_rfl)
  obtain ⟨a2, _, v2, _⟩ := laid_sentinel (g := 0) h1.tail (by kernel_rfl) (by kernel_rfl) Tryz.underlying77 row_err Tryz.underlying168 Tryz.underlying170 rfl rfl Tryz.underlying9 (by kernel_rfl) (by kernel_rfl)
  exact ⟨⟨_, _, v1⟩, ⟨_, _, v2⟩⟩

end Go.Proofs.YtfphnoihkcnleaaGreatDoor
