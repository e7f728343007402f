/- Opposite and Text, of package stroke and of the reference. -/
import Derived.Test.YtecfbncfhehdcaaDoorQZ
namespace Sk
open Go
def oppV (a : Int) (o : Bool) : Str × Int := if chkS a = 0 then ((a, !o), 0) else ((0, false), chkS a)
def txtV (a : Int) (o : Bool) : List UInt8 × Int := if chkS a = 0 then (strT (a, o), 0) else ([], chkS a)
end Sk
namespace Go.Proofs.YtecfbncfhehdcaaDoor
open Go.RowKit
def OppP (q : Sk.Str × Int) (w : World) (e : Ending) (w' : World) : Prop := e = .returned (.tuple #[.agg #[.int .i64 q.1.1, .bool q.1.2], .int .i64 q.2]) ∧ Below w.heap.size w w'
def TxtP (q : List UInt8 × Int) (w : World) (e : Ending) (w' : World) : Prop := e = .returned (.tuple #[.string ⟨q.1.toArray⟩, .int .i64 q.2]) ∧ Below w.heap.size w w'
theorem rAct_any (n : Int) (w : World) : Calls Tryd.prog 106 #[.int .i64 n] w fun e w' => e = .returned (.bool (Sk.act n)) ∧ Below w.heap.size w w' := by
  go_enter Tryd.func106, Tryd.ntmps106
  go_wp2
  all_goals (go_ret; refine ⟨ret_bool ?_, Below.refl _ _⟩; unfold Sk.act; go_light; grind)
set_option maxRecDepth 100000 in
theorem rWri_any (k : Nat) (o : Bool) (hk : k < 6) (w : World) : Calls Tryd.prog 105 #[.agg #[.int .i64 (k : Int), .bool o]] w fun e w' => e = .returned (.string ⟨(Sk.strT ((k : Int), o)).toArray⟩) ∧ Below w.heap.size w w' := by
  have HB := Lib.hid (allocB w (.cells #[.int .i64 (k : Int), .bool o] 47))
  rcases (show k = 0 ∨ k = 1 ∨ k = 2 ∨ k = 3 ∨ k = 4 ∨ k = 5 by omega) with rfl | rfl | rfl | rfl | rfl | rfl <;> cases o
  all_goals
    clear hk
    go_enter Tryd.func105, Tryd.ntmps105
    go_wp2
    go_ret
    exact ⟨by kernel_rfl, HB.out⟩
end Go.Proofs.YtecfbncfhehdcaaDoor

