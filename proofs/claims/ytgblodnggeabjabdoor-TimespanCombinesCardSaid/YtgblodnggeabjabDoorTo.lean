/- The call of the statement TimespanAdds. -/
import Derived.Test.YtgblodnggeabjabDoorTn
namespace Go.Proofs.YtgblodnggeabjabDoor
open Go.RowKit

theorem set_other {w : World} {g b o : Nat} (h : b ≠ g) (x y : Value) : ((w.setCell ⟨g, 0, none⟩ x).setCell ⟨g, 1, none⟩ y).cell? ⟨b, o, none⟩ = w.cell? ⟨b, o, none⟩ := set2 w g b o h x y
/-- A span is stored. -/
def Put (w : World) (g : Nat) (x y : Int) : World := (w.setCell ⟨g, 0, none⟩ (.int .i64 x)).setCell ⟨g, 1, none⟩ (.int .i64 y)
theorem put_size (w : World) (g : Nat) (x y : Int) : (Put w g x y).heap.size = w.heap.size := by simp [Put]
theorem PairI.other {w : World} {b g : Nat} {u v : Int} (h : PairI w b u v) (hne : b ≠ g) (x y : Int) : PairI (Put w g x y) b u v := by
  obtain ⟨h0, h1, h2, h3, h4⟩ := h
  refine ⟨by rw [put_size]; exact h0, (set2 w g b 0 hne _ _).trans h1, (set2 w g b 1 hne _ _).trans h2, ?_, ?_⟩
  · unfold Put; simpa using h3
  · unfold Put; simpa using h4
theorem PairI.same {w : World} {g : Nat} {u v : Int} (h : PairI w g u v) (x y : Int) : PairI (Put w g x y) g x y := by
  obtain ⟨h0, h1, h2, h3, h4⟩ := h
  refine ⟨by rw [put_size]; exact h0, ?_, ?_, ?_, ?_⟩
  · unfold Put; simp [go_sem, h1]
  · unfold Put; simp [go_sem, h2]
  · unfold Put; simpa using h3
  · unfold Put; simpa using h4
theorem below_put {w0 w : World} {g : Nat} (h : Below w0.heap.size w0 w) (hg : w0.heap.size ≤ g) (x y : Int) : Below w0.heap.size w0 (Put w g x y) :=
  (h.setCell (p := ⟨g, 0, none⟩) hg _).setCell (p := ⟨g, 1, none⟩) hg _

end Go.Proofs.YtgblodnggeabjabDoor
