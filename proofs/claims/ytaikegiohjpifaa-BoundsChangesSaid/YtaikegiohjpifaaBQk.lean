/- What stands in the variables of Grow, over the orders of a drawn region. -/
import Derived.Test.YtaikegiohjpifaaBQg
namespace Go.Proofs.Ytaikegiohjpifaa
open Go.RowKit
theorem BoxW.new (W : World) (v : Value) (T : TypeId) : BoxW (W.alloc (.cells #[v] T)) W.heap.size v := by unfold BoxW; simp
theorem BoxW.newAt {W : World} {v : Value} {T : TypeId} {q : Nat} (h : q = W.heap.size) : BoxW (W.alloc (.cells #[v] T)) q v := by rw [h]; exact BoxW.new W v T
theorem BoxW.new1 (W : World) (o : Obj) (v : Value) (T : TypeId) : BoxW ((W.alloc o).alloc (.cells #[v] T)) (W.heap.size + 1) v := BoxW.newAt (by simp)
theorem BoxW.newS (W : World) (p : Addr) (u v : Value) (T : TypeId) : BoxW ((W.setCell p u).alloc (.cells #[v] T)) W.heap.size v := BoxW.newAt (by simp [World.setCell])
theorem BoxW.over {W W' : World} {g : Nat} {v : Value} (h : BoxW W g v) (hb : Below W.heap.size W W') : BoxW W' g v :=
  ⟨Nat.lt_of_lt_of_le h.1 hb.size, (hb.cell (p := ⟨g, 0, none⟩) h.1).trans h.2.1, (hb.frozen (p := ⟨g, 0, none⟩) h.1).trans h.2.2⟩
theorem BoxW.made {W : World} {g : Nat} {v : Value} (h : BoxW W g v) (o : Obj) : BoxW (W.alloc o) g v := h.over ((Below.refl _ _).alloc (Nat.le_refl _) o)
theorem BoxW.same {W : World} {g : Nat} {v : Value} (h : BoxW W g v) (u : Value) : BoxW (W.setCell ⟨g, 0, none⟩ u) g u :=
  ⟨by simpa [World.setCell] using h.1, World.cell?_setCell_same' _ _ _ (by rw [h.2.1]; rfl), by rw [World.frozen?_setCell]; exact h.2.2⟩
theorem BoxW.far {W : World} {g q : Nat} {v : Value} (h : BoxW W g v) (hq : q ≠ g) (u : Value) : BoxW (W.setCell ⟨q, 0, none⟩ u) g v :=
  ⟨by simpa [World.setCell] using h.1, by rw [World.cell?_setCell_other (w := W) (v := u) (a := ⟨q, 0, none⟩) (b := ⟨g, 0, none⟩) (fun e' => hq (by have := congrArg Addr.block e'; simpa using this))]; exact h.2.1, by rw [World.frozen?_setCell]; exact h.2.2⟩
structure K2 (w : World) (n a b : Int) (v : Value) (W : World) : Prop where
  bx : BoxB W w.heap.size n v
  sp : BoxB W (w.heap.size + 1) a (.int .i64 b)
  res : ResI W (w.heap.size + 1 + 1) 0 (.slice none 0 0)
  bel : Below w.heap.size w W
theorem K2.step {w W W' : World} {n a b : Int} {v : Value} (h : K2 w n a b v W) (hb : Below W.heap.size W W') : K2 w n a b v W' := ⟨h.bx.step hb, h.sp.step hb, h.res.step hb, below_nxt h.bel hb⟩
theorem K2.made {w W : World} {n a b : Int} {v : Value} (h : K2 w n a b v W) (o : Obj) : K2 w n a b v (W.alloc o) := h.step ((Below.refl _ _).alloc (Nat.le_refl _) o)
theorem K2.set {w W : World} {n a b : Int} {v : Value} (h : K2 w n a b v W) {q : Nat} (hq : w.heap.size + 1 + 1 < q) (u : Value) : K2 w n a b v (W.setCell ⟨q, 0, none⟩ u) :=
  have hg := grown_set (i := 0) (v := u) (grown_refl W (some q))
  ⟨h.bx.grown hg (by omega), h.sp.grown hg (by omega), h.res.grown hg (by omega), h.bel.setCell (p := ⟨q, 0, none⟩) (by simp only; omega) u⟩
structure K3 (w : World) (n a b : Int) (v : Value) (gA : Nat) (mA : Bn.Mx) (W : World) : Prop where
  k2 : K2 w n a b v W
  mA : MtxI W gA n mA
theorem K3.step {w W W' : World} {n a b : Int} {v : Value} {gA : Nat} {mA : Bn.Mx} (h : K3 w n a b v gA mA W) (hb : Below W.heap.size W W') : K3 w n a b v gA mA W' := ⟨h.k2.step hb, h.mA.step hb⟩
theorem K3.made {w W : World} {n a b : Int} {v : Value} {gA : Nat} {mA : Bn.Mx} (h : K3 w n a b v gA mA W) (o : Obj) : K3 w n a b v gA mA (W.alloc o) := h.step ((Below.refl _ _).alloc (Nat.le_refl _) o)
theorem K3.set {w W : World} {n a b : Int} {v : Value} {gA : Nat} {mA : Bn.Mx} (h : K3 w n a b v gA mA W) {q : Nat} (hq : w.heap.size + 1 + 1 < q) (hA : gA ≠ q) (u : Value) : K3 w n a b v gA mA (W.setCell ⟨q, 0, none⟩ u) :=
  ⟨h.k2.set hq u, h.mA.grown (grown_set (i := 0) (v := u) (grown_refl W (some q))) hA⟩
structure K4 (w : World) (n a b : Int) (v : Value) (gA : Nat) (mA : Bn.Mx) (k : Int) (gB : Nat) (mB : Bn.Mx) (W : World) : Prop where
  k3 : K3 w n a b v gA mA W
  mB : MtxI W gB k mB
theorem K4.step {w W W' : World} {n a b k : Int} {v : Value} {gA gB : Nat} {mA mB : Bn.Mx} (h : K4 w n a b v gA mA k gB mB W) (hb : Below W.heap.size W W') : K4 w n a b v gA mA k gB mB W' := ⟨h.k3.step hb, h.mB.step hb⟩
theorem K4.made {w W : World} {n a b k : Int} {v : Value} {gA gB : Nat} {mA mB : Bn.Mx} (h : K4 w n a b v gA mA k gB mB W) (o : Obj) : K4 w n a b v gA mA k gB mB (W.alloc o) := h.step ((Below.refl _ _).alloc (Nat.le_refl _) o)
theorem K4.set {w W : World} {n a b k : Int} {v : Value} {gA gB : Nat} {mA mB : Bn.Mx} (h : K4 w n a b v gA mA k gB mB W) {q : Nat} (hq : w.heap.size + 1 + 1 < q) (hA : gA ≠ q) (hB : gB ≠ q) (u : Value) : K4 w n a b v gA mA k gB mB (W.setCell ⟨q, 0, none⟩ u) :=
  ⟨h.k3.set hq hA u, h.mB.grown (grown_set (i := 0) (v := u) (grown_refl W (some q))) hB⟩
end Go.Proofs.Ytaikegiohjpifaa
