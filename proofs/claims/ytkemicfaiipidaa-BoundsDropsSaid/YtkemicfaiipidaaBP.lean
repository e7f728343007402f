/- checked and Closed of the reference. -/
import Derived.Test.YtkemicfaiipidaaBA
import Derived.Test.YtkemicfaiipidaaBI
namespace Bn
theorem befB_next {n : Nat} {m : Mx} {i j : Nat} (h : befB n m i j) (hb : isB (m i j) = true) : befB n m i (j + 1) := by
  intro a b ha hb2 g
  by_cases e : a = i ∧ b = j
  · obtain ⟨rfl, rfl⟩ := e; exact hb
  · exact h a b ha hb2 (by omega)
theorem befB_row {n : Nat} {m : Mx} {i : Nat} (h : befB n m i (n + 1)) : befB n m (i + 1) 0 := fun a b h1 h2 h3 => h a b h1 h2 (by omega)
theorem befB_zero (n : Nat) (m : Mx) : befB n m 0 0 := fun a b _ _ h => by omega
theorem befB_end {n : Nat} {m : Mx} (h : befB n m (n + 1) 0) : allB n m = true := allB_iff.2 fun i j hi hj => h i j hi hj (by omega)
end Bn
namespace Go.Proofs.Ytkemicfaiipidaa
open Go.RowKit
/-- What checked leaves. -/
def CkdP (N : Nat) (m : Bn.Mx) (v : Value) (w : World) (e : Ending) (w' : World) : Prop :=
  ∃ u, e = .returned (.tuple #[u, .int .i64 (Bn.bV N m).2.2]) ∧ ((Bn.allB N m = true ∧ u = .agg #[.int .i64 (N : Int), v]) ∨ (Bn.allB N m = false ∧ u = .agg #[.int .i64 0, .slice none 0 0])) ∧ Below w.heap.size w w'
theorem CkdP.no {N : Nat} {m : Bn.Mx} {v : Value} {w w' : World} {i j : Nat} (hi : i ≤ N) (hj : j ≤ N) (h : Bn.isB (m i j) = false) (hb : Below w.heap.size w w') : CkdP N m v w (.returned (.tuple #[.agg #[.int .i64 0, .slice none 0 0], .int .i64 11])) w' := by
  have hf : Bn.allB N m = false := by
    cases g : Bn.allB N m with
    | false => rfl
    | true => have := Bn.allB_iff.1 g i j hi hj; rw [h] at this; cases this
  exact ⟨_, by unfold Bn.bV; rw [hf]; rfl, .inr ⟨hf, rfl⟩, hb⟩
theorem CkdP.yes {N : Nat} {m : Bn.Mx} {v : Value} {w w' : World} (h : Bn.befB N m (N + 1) 0) (hb : Below w.heap.size w w') : CkdP N m v w (.returned (.tuple #[.agg #[.int .i64 (N : Int), v], .int .i64 0])) w' :=
  ⟨_, by unfold Bn.bV; rw [Bn.befB_end h]; rfl, .inl ⟨Bn.befB_end h, rfl⟩, hb⟩
/-- What it returned, where the bounds are one's own. -/
theorem CkdP.val {B N : Nat} {m : Bn.Mx} {v : Value} {w w' : World} {e : Ending} (h : CkdP N m v w e w') (ho : OwnB B w (.agg #[.int .i64 (N : Int), v]) N m) :
    ∃ u, e = .returned (.tuple #[u, .int .i64 (Bn.bV N m).2.2]) ∧ ValF B w' u (Bn.bV N m).1 (Bn.bV N m).2.1 ∧ Below w.heap.size w w' := by
  obtain ⟨u, rfl, h1, h2⟩ := h
  refine ⟨u, rfl, ?_, h2⟩
  rcases h1 with ⟨h3, rfl⟩ | ⟨h3, rfl⟩
  · unfold Bn.bV
    rw [h3]
    obtain ⟨A, cap, f, c, hv, h4, h5, h6⟩ := ho
    rw [hv]
    exact (h6.step h2).valF h4 h5
  · unfold Bn.bV
    rw [h3]
    exact ValF.nil _ _

end Go.Proofs.Ytkemicfaiipidaa

