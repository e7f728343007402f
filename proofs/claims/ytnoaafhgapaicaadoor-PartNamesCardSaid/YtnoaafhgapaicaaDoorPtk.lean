/- What the condition of a card gives: also the second variable of package lexer. -/
import Derived.Test.YtnoaafhgapaicaaDoorGO
import Derived.Test.YtnoaafhgapaicaaDoorPtf
namespace Pt
def gv (i j : Nat) : Bool := (i == 1 && j == 1) || (i == 3 && j == 3) || (i == 5 && decide (3 ≤ j))
end Pt
namespace Go.Proofs.YtnoaafhgapaicaaDoor
open Go.ChangeShapes Go.WideShapes Go.RowKit
theorem go_type : (Tryd.prog.globals[1]?).map (·.type) = some 135 := by kernel_rfl
theorem go_named : Tryd.prog.globalNamed "pneumatic/lexer.goesOn" = some 1 := by kernel_rfl
set_option maxRecDepth 100000 in
theorem go_of {W : World} {r : List (String × DataW Unit)} (h : laidMet Tryd.prog (("pneumatic/lexer.goesOn", Rows.laid_pneumatic_lexer_goesOn) :: r) W) : ∀ j, j < 6 → W.cell? ⟨1, 30 + j, none⟩ = some (.bool (decide (3 ≤ j))) := by
  obtain ⟨ps, ⟨g', t', cs, fuel, p, q, hg', ht', hvar, hd, _, _⟩, _⟩ := h
  obtain rfl := Option.some.inj (go_named.symm.trans hg')
  obtain rfl := Option.some.inj (go_type.symm.trans ht')
  obtain ⟨xs, m, -, hx, -, hxl, hall⟩ := DataW.trod_array Tryd.underlying135 hd
  have hl : (Rows.laid_pneumatic_lexer_goesOn : DataW Unit) = .agg ((List.range 6).map fun i => .agg ((List.range 6).map fun j => .lit (.bool (Pt.gv i j)))) := by kernel_rfl
  have hx1 := congrArg Prod.fst hx
  rw [hl] at hx1
  simp only [DataW.agg.injEq] at hx1
  have h1 := hall 5 (by omega)
  rw [show Tryd.prog.cellsOf 134 = 6 by kernel_rfl, List.getElem?_eq_getElem (by omega)] at h1
  obtain ⟨ys, m2, -, hy, -, hyl, hall2⟩ := DataW.trod_array Tryd.underlying134 h1
  have h2 := congrArg (·[5]?) hx1
  simp only [List.getElem?_map, List.getElem?_eq_getElem (show 5 < xs.length by omega), hy, List.getElem?_range (show 5 < 6 by omega), Option.map_some, Option.some.injEq, DataW.agg.injEq] at h2
  intro j hj
  have h3 := hall2 j hj
  rw [show Tryd.prog.cellsOf 4 = 1 by kernel_rfl, List.getElem?_eq_getElem (by omega)] at h3
  obtain ⟨b, hcs, hyj⟩ := DataW.trod_bool Tryd.underlying4 h3
  have h4 := congrArg (·[j]?) h2
  simp only [List.getElem?_map, List.getElem?_eq_getElem (show j < ys.length by omega), hyj, List.getElem?_range hj, Option.map_some, Option.some.injEq, DataW.lit.injEq, Lit.bool.injEq] at h4
  have hb : b = decide (3 ≤ j) := by rw [← h4]; simp [Pt.gv]
  have hc : cs[30 + j]? = some (.bool b) := by
    have := congrArg (·[0]?) hcs
    simpa [List.getElem?_take, List.getElem?_drop, hj] using this
  have hv := World.var?_cell go_named hvar (30 + j)
  rw [← hb]
  simpa [hc] using hv
abbrev StG (W : World) : Prop := Lg W
theorem stG_of {W : World} (hsh : W.ShapedOpen Tryd.prog) {r : List (String × DataW Unit)} (hL : laidMet Tryd.prog (("pneumatic/lexer.members", Rows.laid_pneumatic_lexer_members) :: ("pneumatic/lexer.goesOn", Rows.laid_pneumatic_lexer_goesOn) :: r) W) : StG W :=
  ⟨⟨size_of hsh, mem_of hL⟩, go_of hL.tail⟩
end Go.Proofs.YtnoaafhgapaicaaDoor
