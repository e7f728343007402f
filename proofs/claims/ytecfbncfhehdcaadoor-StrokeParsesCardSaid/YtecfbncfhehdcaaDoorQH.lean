/- The texts of strokes, of package stroke. -/
import Derived.Test.YtecfbncfhehdcaaDoorQG
import Derived.Laws.Cover4
namespace Sk
def sgn (o : Bool) : Int := if o then 43 else 45
/-- The text of a stroke. -/
def strT (x : Str) : List UInt8 := [(65 + x.1.toNat).toUInt8, if x.2 then 43 else 45]
end Sk
namespace Go.Proofs.YtecfbncfhehdcaaDoor
open Go.RowKit
theorem runes_strT (k : Nat) (o : Bool) (hk : k < 6) : runesBytes [65 + (k : Int), Sk.sgn o] = ⟨(Sk.strT ((k : Int), o)).toArray⟩ := by
  rcases (show k = 0 ∨ k = 1 ∨ k = 2 ∨ k = 3 ∨ k = 4 ∨ k = 5 by omega) with rfl | rfl | rfl | rfl | rfl | rfl <;> cases o <;> kernel_rfl
theorem conv_strT (k : Nat) (o : Bool) (hk : k < 6) (W : World) (g : Nat) (h0 : W.cell? ⟨g, 0, none⟩ = some (.int .i32 (65 + (k : Int)))) (h1 : W.cell? ⟨g, 1, none⟩ = some (.int .i32 (Sk.sgn o))) :
    (convert 146 9 (.slice (some ⟨g, 0, none⟩) 2 2)).run Tryd.prog W = .ok (.string ⟨(Sk.strT ((k : Int), o)).toArray⟩) W := by
  have h := run_convert_runes (P := Tryd.prog) W 146 9 21 ⟨g, 0, none⟩ 2 2 [65 + (k : Int), Sk.sgn o] (by simp) Tryd.underlying146 Tryd.underlying21 Tryd.underlying9 (fun j hj => by
    have ap : (⟨g, 0, none⟩ : Addr).add j = ⟨g, j, none⟩ := by unfold Addr.add; split <;> simp_all
    rw [ap]
    rcases (show j = 0 ∨ j = 1 by simp at hj; omega) with rfl | rfl
    · exact h0
    · exact h1)
  rw [h, show ([65 + (k : Int), Sk.sgn o].take 2) = [65 + (k : Int), Sk.sgn o] from rfl, runes_strT k o hk]
set_option maxRecDepth 100000 in
theorem sTx_any (k : Nat) (o : Bool) (hk : k < 6) (w : World) : Calls Tryd.prog 101 #[.agg #[.int .i64 (k : Int), .bool o]] w fun e w' => e = .returned (.string ⟨(Sk.strT ((k : Int), o)).toArray⟩) ∧ Below w.heap.size w w' := by
  have hB0 : ∀ z, Below w.heap.size w ((w.alloc (.cells #[.int .i64 (k : Int), .bool o] 47)).alloc (.cells #[.int .i32 (65 + (k : Int)), z] 21)) := fun z => (allocB _ _).alloc (by simp) _
  have HB := Lib.hid hB0
  have hcv := conv_strT k o hk ((w.alloc (.cells #[.int .i64 (k : Int), .bool o] 47)).alloc (.cells #[.int .i32 (65 + (k : Int)), .int .i32 (Sk.sgn o)] 21)) (w.heap.size + 1) (by simp) (by simp)
  have hk0 : (0 : Int) ≤ (k : Int) := by omega
  have hk6 : (k : Int) < 6 := by omega
  clear hB0 hk
  generalize Sk.strT ((k : Int), o) = st at *
  cases o
  · unfold Sk.sgn at hcv
    simp only [Bool.false_eq_true, if_false] at hcv
    go_enter Tryd.func101, Tryd.ntmps101
    go_wp2
    go_ret
    exact ⟨rfl, HB.out _⟩
  · unfold Sk.sgn at hcv
    simp only [if_true] at hcv
    go_enter Tryd.func101, Tryd.ntmps101
    go_wp2
    go_ret
    exact ⟨rfl, HB.out _⟩
end Go.Proofs.YtecfbncfhehdcaaDoor

