/- What the condition of a card gives the walks: the variables of package lexer. -/
import Derived.Test.YthjkcncfppndkaaDoorRows
import Derived.Test.YthjkcncfppndkaaDoorTie
import Derived.Test.YthjkcncfppndkaaDoorCards
import Derived.Test.YthjkcncfppndkaaDoorGI
import Derived.Deep.DeepHandedRow
import Derived.Deep.DeepWitnessRowRef
import Derived.Lay
import Derived.MakeChecks
import Derived.Stop.LaidErr
import Derived.Lib.LaidTab
import Derived.ProofKit
import Derived.SevenTiedAt
import Derived.OpenShut
namespace Go.Proofs.YthjkcncfppndkaaDoor
open Go.ChangeShapes Go.WideShapes Go.RowKit

theorem ownKey : ownKnob Tryd.prog.godebug = none := by kernel_rfl
theorem mem_type : (Tryd.prog.globals[0]?).map (·.type) = some 133 := by kernel_rfl
theorem mem_named : Tryd.prog.globalNamed "pneumatic/lexer.members" = some 0 := by kernel_rfl
theorem mem_of {W : World} {r : List (String × DataW Unit)} (h : laidMet Tryd.prog (("pneumatic/lexer.members", Rows.laid_pneumatic_lexer_members) :: r) W) : ∀ i, i < 6 → W.cell? ⟨0, i, none⟩ = some (.string (Pt.memV i)) := by
  obtain ⟨ps, ⟨g', t', cs, fuel, p, q, hg', ht', hvar, hd, _, _⟩, _⟩ := h
  obtain rfl := Option.some.inj (mem_named.symm.trans hg')
  obtain rfl := Option.some.inj (mem_type.symm.trans ht')
  obtain ⟨xs, m, -, hx, -, hxl, hall⟩ := DataW.trod_array Tryd.underlying133 hd
  have hl : (Rows.laid_pneumatic_lexer_members : DataW Unit) = .agg ((List.range 6).map fun i => .lit (.string (Pt.memV i).data.toList)) := by kernel_rfl
  have hx1 := congrArg Prod.fst hx
  rw [hl] at hx1
  simp only [DataW.agg.injEq] at hx1
  intro i hi
  have h1 := hall i hi
  rw [show Tryd.prog.cellsOf 9 = 1 by kernel_rfl, List.getElem?_eq_getElem (by omega)] at h1
  obtain ⟨s, hcs, hxi, -⟩ := DataW.trod_string Tryd.underlying9 h1
  have h2 := congrArg (·[i]?) hx1
  simp only [List.getElem?_map, List.getElem?_eq_getElem (show i < xs.length by omega), hxi, List.getElem?_range hi, Option.map_some, Option.some.injEq, DataW.lit.injEq, Lit.string.injEq] at h2
  have hs : s = Pt.memV i := by
    obtain ⟨⟨l⟩⟩ := s
    generalize Pt.memV i = z at *
    obtain ⟨⟨k⟩⟩ := z
    simp only at h2
    rw [h2]
  have hc : cs[i]? = some (.string s) := by
    have := congrArg (·[0]?) hcs
    simpa [List.getElem?_take, List.getElem?_drop] using this
  have hv := World.var?_cell mem_named hvar i
  rw [← hs]
  simpa [hc] using hv
abbrev St (W : World) : Prop := Lx W
theorem size_of {W : World} (h : W.ShapedOpen Tryd.prog) : 3 ≤ W.heap.size := by
  obtain ⟨⟨z, t⟩, hz⟩ := Option.isSome_iff_exists.1 (show (((begin Tryd.prog (fun _ _ => 0) default).world.heap[2]?).bind Obj.row?).isSome = true by kernel_rfl)
  obtain ⟨cs, hcs, _⟩ := h.1 2 z t (of_decide_eq_true (by kernel_rfl)) hz
  have := (Array.getElem?_eq_some_iff.1 hcs).1
  omega
theorem st_of {W : World} (hsh : W.ShapedOpen Tryd.prog) {r : List (String × DataW Unit)} (hL : laidMet Tryd.prog (("pneumatic/lexer.members", Rows.laid_pneumatic_lexer_members) :: r) W) : St W :=
  ⟨size_of hsh, mem_of hL⟩
end Go.Proofs.YthjkcncfppndkaaDoor
