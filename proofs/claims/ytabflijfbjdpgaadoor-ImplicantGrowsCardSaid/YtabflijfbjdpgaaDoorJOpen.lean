/- What the condition of a card gives the walks: the variables of the program and of the library; and a world that meets it. -/
import Derived.Test.YtabflijfbjdpgaaDoorRows
import Derived.Test.YtabflijfbjdpgaaDoorTie
import Derived.Test.YtabflijfbjdpgaaDoorCards
import Derived.Test.YtabflijfbjdpgaaDoorIy
import Derived.Lib.SmallJoins
import Derived.Deep.DeepHandedRow
import Derived.Deep.DeepWitnessRowRef
import Derived.Lay
import Derived.MakeChecks
import Derived.Stop.LaidErr
import Derived.Lib.LaidTab
import Derived.ProofKit
import Derived.SevenTiedAt
namespace Go.Proofs.YtabflijfbjdpgaaDoor
open Go.ChangeShapes Go.WideShapes Go.RowKit

theorem ownKey : ownKnob Tryd.prog.godebug = none := by kernel_rfl
def colInts : List Int := [12297829382473034410, 14757395258967641292, 17361641481138401520, 18374966859414961920, 18446462603027742720, 18446744069414584320]
theorem col_eq : (Rows.laid_pneumatic_truth_columns : DataW Unit) = Lib.tabData .u64 colInts := by kernel_rfl
theorem col_type : (Tryd.prog.globals[0]?).map (·.type) = some 132 := by kernel_rfl
theorem col_named : Tryd.prog.globalNamed "pneumatic/truth.columns" = some 0 := by kernel_rfl

theorem st_of {W : World} (_ : W.ShapedOpen Tryd.prog) {r : List (String × DataW Unit)}
    (hL : laidMet Tryd.prog (("pneumatic/truth.columns", Rows.laid_pneumatic_truth_columns) :: r) W) : St W := by
  have h2 := hL
  rw [col_eq] at h2
  have t2 := Lib.tabIs_of_head col_named col_type Tryd.underlying132 Tryd.underlying30 (by kernel_rfl) (by kernel_rfl) h2
  have c2 : ColTab W := fun j hj => by
    have h := t2.cell col_named j (show j < colInts.length from hj)
    rw [h]
    have e : ∀ j, j < 6 → colInts.getD j 0 = ((Tt.col j : Nat) : Int) := by decide +kernel
    rw [e j hj]
  exact ⟨c2, World.block_lt_of_cell? W ⟨0, 0, none⟩ (c2 0 (by omega))⟩


section
variable {H : Type} {enc : TypeId × Value → H} {w : World} {base : Nat} {spare : Nat → Bool} {held : Bool}
set_option maxRecDepth 100000 in
/-- A task that came in. -/
theorem open_task {r : Reach} {b0 : Nat} {v : Value} {d : DataW H} {p : List MemPlace} (hv : Value.okWide Tryd.prog w r b0 58 v) (h : DataW.Trod enc Tryd.prog w base spare held 58 v d p) :
    ∃ x0 y0 x1 y1 : Int, v = .agg #[.int .i64 x0, .int .u64 y0, .int .i64 x1, .int .u64 y1] ∧ d = .agg [.agg [.lit (.int .i64 x0), .lit (.int .u64 y0)], .agg [.lit (.int .i64 x1), .lit (.int .u64 y1)]] ∧ p = [] ∧
      (Lit.int .i64 x0).wf = true ∧ (Lit.int .u64 y0).wf = true ∧ (Lit.int .i64 x1).wf = true ∧ (Lit.int .u64 y1).wf = true := by
  obtain ⟨cs, rfl, hsz⟩ := okWide_struct Tryd.underlying58 hv
  obtain ⟨c0, c1, c2, c3, rfl⟩ := Joins.array4 (hsz.trans (show Tryd.prog.cellsOf 58 = 4 by kernel_rfl))
  obtain ⟨fuel, hf⟩ := h
  have hc : Tryd.prog.cellsOf 32 = 2 := by kernel_rfl
  have hi : Tryd.prog.cellsOf 3 = 1 := by kernel_rfl
  have hu : Tryd.prog.cellsOf 30 = 1 := by kernel_rfl
  obtain ⟨a, b, n, hx, _, h0, h1⟩ := trod_struct2 Tryd.underlying58 hf
  simp [Value.cells, hc] at h0 h1
  obtain ⟨a0, a1, n0, ha, _, k0, k1⟩ := trod_struct2 Tryd.underlying32 h0
  obtain ⟨b0', b1, n1, hb, _, l0, l1⟩ := trod_struct2 Tryd.underlying32 h1
  simp [hi, hu] at k0 k1 l0 l1
  obtain ⟨x0, e0, rfl, w0⟩ := DataW.trod_int Tryd.underlying3 k0
  obtain ⟨y0, e1, rfl, w1⟩ := DataW.trod_int Tryd.underlying30 k1
  obtain ⟨x1, e2, rfl, w2⟩ := DataW.trod_int Tryd.underlying3 l0
  obtain ⟨y1, e3, rfl, w3⟩ := DataW.trod_int Tryd.underlying30 l1
  simp only [List.cons.injEq, and_true] at e0 e1 e2 e3
  subst e0 e1 e2 e3
  subst ha hb
  simp only [Prod.mk.injEq] at hx
  obtain ⟨rfl, rfl⟩ := hx
  exact ⟨x0, y0, x1, y1, rfl, rfl, rfl, w0, w1, w2, w3⟩
set_option maxRecDepth 100000 in
theorem shut_task {x0 y0 x1 y1 : Int} (w0 : (Lit.int .i64 x0).wf = true) (w1 : (Lit.int .u64 y0).wf = true) (w2 : (Lit.int .i64 x1).wf = true) (w3 : (Lit.int .u64 y1).wf = true) :
    DataW.Trod enc Tryd.prog w base spare held 58 (.agg #[.int .i64 x0, .int .u64 y0, .int .i64 x1, .int .u64 y1]) (.agg [.agg [.lit (.int .i64 x0), .lit (.int .u64 y0)], .agg [.lit (.int .i64 x1), .lit (.int .u64 y1)]]) [] := by
  have hc : Tryd.prog.cellsOf 32 = 2 := by kernel_rfl
  have hT : Tryd.prog.cellsOf 58 = 4 := by kernel_rfl
  have hi : Tryd.prog.cellsOf 3 = 1 := by kernel_rfl
  have hu : Tryd.prog.cellsOf 30 = 1 := by kernel_rfl
  have ht : ∀ (x y : Int), (Lit.int .i64 x).wf = true → (Lit.int .u64 y).wf = true → DataW.trod enc Tryd.prog w base spare held 2 32 [.int .i64 x, .int .u64 y] = some (.agg [.lit (.int .i64 x), .lit (.int .u64 y)], []) := fun x y hx hy =>
    trod_struct2_mk (enc := enc) (w := w) (base := base) (spare := spare) (held := held) (n := 1) (cs := [.int .i64 x, .int .u64 y]) (y0 := (.lit (.int .i64 x), [])) (y1 := (.lit (.int .u64 y), [])) Tryd.underlying32 (by simp [hc])
      (by simp [hi, DataW.trod, Tryd.underlying3, hx]) (by simp [hu, DataW.trod, Tryd.underlying30, hy])
  exact ⟨3, trod_struct2_mk (enc := enc) (w := w) (base := base) (spare := spare) (held := held) (n := 2) (cs := [.int .i64 x0, .int .u64 y0, .int .i64 x1, .int .u64 y1]) (y0 := (.agg [.lit (.int .i64 x0), .lit (.int .u64 y0)], [])) (y1 := (.agg [.lit (.int .i64 x1), .lit (.int .u64 y1)], [])) Tryd.underlying58 (by simp [hT])
    (by simpa [hc] using ht x0 y0 w0 w1) (by simpa [hc] using ht x1 y1 w2 w3)⟩
end
end Go.Proofs.YtabflijfbjdpgaaDoor
