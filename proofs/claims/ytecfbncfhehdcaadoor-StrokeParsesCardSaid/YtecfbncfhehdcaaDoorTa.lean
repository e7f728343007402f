/- The contracts of package timespan and of its reference on spans: times, Check, Of, both. -/
import Derived.WalkKit
import Derived.Lib.Hide
import Derived.Deep.QuietTactic
import Derived.BigQuiet
import Derived.Deep.RegionWith
import Derived.Deep.Light
import Derived.Test.YtecfbncfhehdcaaDoorProg
import Derived.Test.YtecfbncfhehdcaaDoorTp
namespace Go.Proofs.YtecfbncfhehdcaaDoor
open Go.RowKit

/-- A new variable of two numbers. -/
def PairI (W : World) (g : Nat) (x y : Int) : Prop :=
  g < W.heap.size ∧ W.cell? ⟨g, 0, none⟩ = some (.int .i64 x) ∧ W.cell? ⟨g, 1, none⟩ = some (.int .i64 y) ∧ W.frozen? ⟨g, 0, none⟩ = false ∧ W.frozen? ⟨g, 1, none⟩ = false
theorem PairI.below {W W' : World} {g : Nat} {x y : Int} (h : PairI W g x y) {B : Nat} (hB : g < B) (hb : Below B W W') : PairI W' g x y := by
  obtain ⟨h0, h1, h2, h3, h4⟩ := h
  exact ⟨Nat.lt_of_lt_of_le h0 hb.size, (hb.cell (p := ⟨g, 0, none⟩) hB).trans h1, (hb.cell (p := ⟨g, 1, none⟩) hB).trans h2, (hb.frozen (p := ⟨g, 0, none⟩) hB).trans h3, (hb.frozen (p := ⟨g, 1, none⟩) hB).trans h4⟩
theorem pairI_new (w : World) (x y : Int) (T : TypeId) : PairI (w.alloc (.cells #[.int .i64 x, .int .i64 y] T)) w.heap.size x y := by
  unfold PairI
  simp

theorem ret_bool {a b : Bool} (h : a = b) : Ending.returned (.bool a) = Ending.returned (.bool b) := by rw [h]
theorem ret_int {k : IntKind} {a b : Int} (h : a = b) : Ending.returned (.int k a) = Ending.returned (.int k b) := by rw [h]

theorem rTime_any (t : Int) (w : World) : Calls Tryd.prog 107 #[.int .i64 t] w fun e w' => e = .returned (.bool (Tm.isT t)) ∧ w = w' := by
  go_enter Tryd.func107, Tryd.ntmps107
  go_wp2
  all_goals (go_ret; refine ⟨ret_bool ?_, rfl⟩; simp only [Tm.isT]; first | grind | skip)

end Go.Proofs.YtecfbncfhehdcaaDoor

