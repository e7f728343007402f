/- What the condition of a card gives the walks: the variables of the library; and a world that meets it. -/
import Derived.Test.YtjpbccpleflkhaaDoorRows
import Derived.Test.YtjpbccpleflkhaaDoorTie
import Derived.Test.YtjpbccpleflkhaaDoorCards
import Derived.Test.YtjpbccpleflkhaaDoorG04
import Derived.Deep.DeepHandedRow
import Derived.Deep.DeepWitnessRowRef
import Derived.Lay
import Derived.MakeChecks
import Derived.Stop.LaidErr
import Derived.Lib.LaidTab
import Derived.ProofKit
import Derived.SevenTiedAt
namespace Go.Proofs.YtjpbccpleflkhaaDoor
open Go.ChangeShapes Go.WideShapes Go.RowKit

theorem ownKey : ownKnob Tryd.prog.godebug = none := by kernel_rfl
theorem pow_eq : (Rows.laid_internal_strconv_uint64pow10 : DataW Unit) = Lib.tabData .u64 Lib.pow10Tab := by kernel_rfl
theorem pow_type : (Tryd.prog.globals[3]?).map (·.type) = some 189 := by kernel_rfl
theorem size_of {W : World} (h : W.ShapedOpen Tryd.prog) : 4 ≤ W.heap.size := by
  obtain ⟨⟨z, t⟩, hz⟩ := Option.isSome_iff_exists.1 (show (((begin Tryd.prog (fun _ _ => 0) default).world.heap[3]?).bind Obj.row?).isSome = true by kernel_rfl)
  obtain ⟨cs, hcs, _⟩ := h.1 3 z t (of_decide_eq_true (by kernel_rfl)) hz
  have := (Array.getElem?_eq_some_iff.1 hcs).1
  omega
theorem star_eq : "*" ++ "errors.errorString" = "*errors.errorString" := by decide
theorem row_err (u : TypeId) (h : Tryd.prog.typeName? 3 u = some "*errors.errorString") : u = 193 :=
  typeName_ptr_named (nm := "errors.errorString") (by rw [star_eq]; kernel_rfl) (by kernel_rfl) (by decide) u (by rw [star_eq]; exact h)
theorem stQ_of {W : World} (hsh : W.ShapedOpen Tryd.prog) {x y : String × DataW Unit} {r : List (String × DataW Unit)}
    (hL : laidMet Tryd.prog (x :: y :: ("internal/strconv.uint64pow10", Rows.laid_internal_strconv_uint64pow10) :: ("strconv.ErrRange", Rows.laid_strconv_ErrRange) :: ("strconv.ErrSyntax", Rows.laid_strconv_ErrSyntax) :: r) W) : StQ W := by
  have h1 := hL.tail.tail
  have h2 := h1.tail
  rw [pow_eq] at h1
  obtain ⟨a1, _, v1, _⟩ := laid_sentinel (g := 2) h2 (by kernel_rfl) (by kernel_rfl) Tryd.underlying148 row_err Tryd.underlying193 Tryd.underlying195 rfl rfl Tryd.underlying9 (by kernel_rfl) (by kernel_rfl)
  obtain ⟨a2, _, v2, _⟩ := laid_sentinel (g := 1) h2.tail (by kernel_rfl) (by kernel_rfl) Tryd.underlying148 row_err Tryd.underlying193 Tryd.underlying195 rfl rfl Tryd.underlying9 (by kernel_rfl) (by kernel_rfl)
  exact ⟨⟨size_of hsh, Tryd.laysM145.s1_3 W hsh, Lib.tabIs_of_head Tryd.pow10_global pow_type Tryd.underlying189 Tryd.underlying174 (by kernel_rfl) (by kernel_rfl) h1⟩, ⟨_, _, v1⟩, ⟨_, _, v2⟩⟩
end Go.Proofs.YtjpbccpleflkhaaDoor

