/- What the condition of a card gives the walks: the variables of the library; and a world that meets it. -/
import Derived.Test.YtjpbccpleflkhaaGreatDoorRows
import Derived.Test.YtjpbccpleflkhaaGreatDoorTie
import Derived.Test.YtjpbccpleflkhaaGreatDoorCards
import Derived.Test.YtjpbccpleflkhaaGreatDoorG04
import Derived.Deep.DeepHandedRow
import Derived.Deep.DeepWitnessRowRef
import Derived.Lay
import Derived.MakeChecks
import Derived.Stop.LaidErr
import Derived.Lib.LaidTab
import Derived.ProofKit
import Derived.SevenTiedAt
namespace Go.Proofs.YtjpbccpleflkhaaGreatDoor
open Go.ChangeShapes Go.WideShapes Go.RowKit

theorem ownKey : ownKnob Tryz.prog.godebug = none := by kernel_rfl
theorem pow_eq : (Rows.laid_internal_strconv_uint64pow10 : DataW Unit) = Lib.tabData .u64 Lib.pow10Tab := by kernel_rfl
theorem pow_type : (Tryz.prog.globals[1]?).map (·.type) = some 151 := by kernel_rfl
theorem size_of {W : World} (h : W.ShapedOpen Tryz.prog) : 4 ≤ W.heap.size := by
  obtain ⟨⟨z, t⟩, hz⟩ := Option.isSome_iff_exists.1 (show (((begin Tryz.prog (fun _ _ => 0) default).world.heap[3]?).bind Obj.row?).isSome = true by kernel_rfl)
  obtain ⟨cs, hcs, _⟩ := h.1 3 z t (of_decide_eq_true (by kernel_rfl)) hz
  have := (Array.getElem?_eq_some_iff.1 hcs).1
  omega
theorem star_eq : "*" ++ "errors.errorString" = "*errors.errorString" := by decide
theorem row_err (u : TypeId) (h : Tryz.prog.typeName? 3 u = some "*errors.errorString") : u = 166 :=
  typeName_ptr_named (nm := "errors.errorString") (by rw [star_eq]; kernel_rfl) (by kernel_rfl) (by decide) u (by rw [star_eq]; exact h)
theorem stQ_of {W : World} (hsh : W.ShapedOpen Tryz.prog) {x y : String × DataW Unit} {r : List (String × DataW Unit)}
    (hL : laidMet Tryz.prog (x :: y :: ("internal/strconv.uint64pow10", Rows.laid_internal_strconv_uint64pow10) :: ("strconv.ErrRange", Rows.laid_strconv_ErrRange) :: ("strconv.ErrSyntax", Rows.laid_strconv_ErrSyntax) :: r) W) : StQ W := by
  have h1 := hL.tail.tail
  have h2 := h1.tail
  rw [pow_eq] at h1
  obtain ⟨a1, _, v1, _⟩ := laid_sentinel (g := 3) h2 (by kernel_rfl) (by kernel_rfl) Tryz.underlying122 row_err Tryz.underlying166 Tryz.underlying168 rfl rfl Tryz.underlying9 (by kernel_rfl) (by kernel_rfl)
  obtain ⟨a2, _, v2, _⟩ := laid_sentinel (g := 2) h2.tail (by kernel_rfl) (by kernel_rfl) Tryz.underlying122 row_err Tryz.underlying166 Tryz.underlying168 rfl rfl Tryz.underlying9 (by kernel_rfl) (by kernel_rfl)
  exact ⟨⟨size_of hsh, Tryz.laysM145.s1_3 W hsh, Lib.tabIs_of_head Tryz.pow10_global pow_type Tryz.underlying151 Tryz.underlying136 (by kernel_rfl) (by kernel_rfl) h1⟩, ⟨_, _, v1⟩, ⟨_, _, v2⟩⟩
end Go.Proofs.YtjpbccpleflkhaaGreatDoor

