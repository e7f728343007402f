/- The checks of strokes and steps, of package stroke. -/
import Derived.Test.YtecfbncfhehdcaaDoorQB
namespace Go.Proofs.YtecfbncfhehdcaaDoor
open Go.RowKit

theorem sChk_any (a : Int) (o : Bool) (w : World) : Calls Tryd.prog 74 #[.agg #[.int .i64 a, .bool o]] w fun e w' => e = .returned (.int .i64 (Sk.chkS a)) ∧ Below w.heap.size w w' := by
  have hB0 : Below w.heap.size w (w.alloc (.cells #[.int .i64 a, .bool o] 47)) := allocB _ _
  go_enter Tryd.func74, Tryd.ntmps74
  go_wp2
  all_goals (go_ret; refine ⟨ret_int ?_, hB0⟩; unfold Sk.chkS Sk.act; go_light; grind)
theorem sOrd_any (a b : Int) (o p : Bool) (w : World) : Calls Tryd.prog 87 #[.agg #[.int .i64 a, .bool o], .agg #[.int .i64 b, .bool p]] w fun e w' => e = .returned (.int .i64 (Sk.ordE a b)) ∧ Below w.heap.size w w' := by
  have hB0 : Below w.heap.size w ((w.alloc (.cells #[.int .i64 a, .bool o] 47)).alloc (.cells #[.int .i64 b, .bool p] 47)) := (allocB _ _).alloc (by simp) _
  go_enter Tryd.func87, Tryd.ntmps87
  go_wp2
  all_goals (go_ret; refine ⟨ret_int ?_, hB0⟩; unfold Sk.ordE; go_light; grind)
end Go.Proofs.YtecfbncfhehdcaaDoor

