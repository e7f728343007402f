/- Strokes and steps in memory. -/
import Derived.WalkKit
import Derived.Lib.Hide
import Derived.Deep.QuietTactic
import Derived.BigQuiet
import Derived.Deep.RegionWith
import Derived.Deep.Light
import Derived.Deep.LoopGhost
import Derived.Deep.RegionHeld3
import Derived.Laws.AppendOwnNone
import Derived.Laws.OwnMore
import Derived.Maps.AppendAt
import Derived.Deep.RegionLaw
import Derived.Test.YtecfbncfhehdcaaDoorProg
import Derived.Test.YtecfbncfhehdcaaDoorQA
import Derived.Test.YtecfbncfhehdcaaDoorTa
namespace Go.Proofs.YtecfbncfhehdcaaDoor
open Go.RowKit

theorem below_nxt {w0 w w' : World} (h : Below w0.heap.size w0 w) (hb : Below w.heap.size w w') : Below w0.heap.size w0 w' := h.trans (hb.mono h.size)
theorem below_box {w0 w w' : World} {o : Obj} (h : Below w0.heap.size w0 w) (hb : Below (w.alloc o).heap.size (w.alloc o) w') : Below w0.heap.size w0 w' :=
  (h.alloc h.size o).trans (hb.mono (by have := h.size; simp; omega))
theorem below_drewN {B : Nat} (w : World) (n : Nat) : Below B w (w.drewN n) := ⟨rfl, rfl, rfl, Nat.le_refl _, fun _ _ => rfl⟩
theorem allocB (W : World) (o : Obj) : Below W.heap.size W (W.alloc o) := (Below.refl _ _).alloc (Nat.le_refl _) o

/-- The box of a struct of two fields. -/
def BoxP (W : World) (g : Nat) (a b : Value) : Prop := g < W.heap.size ∧ W.cell? ⟨g, 0, none⟩ = some a ∧ W.cell? ⟨g, 1, none⟩ = some b
theorem BoxP.below {W W' : World} {g : Nat} {a b : Value} (h : BoxP W g a b) {B : Nat} (hB : g < B) (hb : Below B W W') : BoxP W' g a b :=
  ⟨Nat.lt_of_lt_of_le h.1 hb.size, (hb.cell (p := ⟨g, 0, none⟩) hB).trans h.2.1, (hb.cell (p := ⟨g, 1, none⟩) hB).trans h.2.2⟩
theorem BoxP.step {W W' : World} {g : Nat} {a b : Value} (h : BoxP W g a b) (hb : Below W.heap.size W W') : BoxP W' g a b := h.below h.1 hb
theorem boxP_new (w : World) (a b : Value) (T : TypeId) : BoxP (w.alloc (.cells #[a, b] T)) w.heap.size a b ∧ Below w.heap.size w (w.alloc (.cells #[a, b] T)) ∧ (w.alloc (.cells #[a, b] T)).heap.size = w.heap.size + 1 :=
  ⟨by unfold BoxP; simp, allocB _ _, by simp⟩
/-- A variable in a block of its own. -/
def BoxV (W : World) (g : Nat) (v : Value) : Prop := g < W.heap.size ∧ W.cell? ⟨g, 0, none⟩ = some v
theorem BoxV.step {W W' : World} {g : Nat} {v : Value} (h : BoxV W g v) (hb : Below W.heap.size W W') : BoxV W' g v := ⟨Nat.lt_of_lt_of_le h.1 hb.size, (hb.cell (p := ⟨g, 0, none⟩) h.1).trans h.2⟩
theorem boxV_new (w : World) (v : Value) (T : TypeId) : BoxV (w.alloc (.cells #[v] T)) w.heap.size v := by unfold BoxV; simp
/-- The box of a result of two fields, which is written. -/
def ResP (W : World) (g : Nat) (a b : Value) : Prop := g < W.heap.size ∧ W.cell? ⟨g, 0, none⟩ = some a ∧ W.cell? ⟨g, 1, none⟩ = some b ∧ W.frozen? ⟨g, 0, none⟩ = false ∧ W.frozen? ⟨g, 1, none⟩ = false
theorem ResP.step {W W' : World} {g : Nat} {a b : Value} (h : ResP W g a b) (hb : Below W.heap.size W W') : ResP W' g a b :=
  ⟨Nat.lt_of_lt_of_le h.1 hb.size, (hb.cell (p := ⟨g, 0, none⟩) h.1).trans h.2.1, (hb.cell (p := ⟨g, 1, none⟩) h.1).trans h.2.2.1, (hb.frozen (p := ⟨g, 0, none⟩) h.1).trans h.2.2.2.1, (hb.frozen (p := ⟨g, 1, none⟩) h.1).trans h.2.2.2.2⟩
theorem resP_new (w : World) (a b : Value) (T : TypeId) : ResP (w.alloc (.cells #[a, b] T)) w.heap.size a b := by unfold ResP; simp
theorem ResP.put {W : World} {g : Nat} {a b : Value} (h : ResP W g a b) (a' b' : Value) : ResP ((W.setCell ⟨g, 0, none⟩ a').setCell ⟨g, 1, none⟩ b') g a' b' := by
  obtain ⟨h0, h1, h2, h3, h4⟩ := h
  have e1 : (W.setCell ⟨g, 0, none⟩ a').cell? ⟨g, 1, none⟩ = some b := by
    rw [World.cell?_setCell_other (w := W) (v := a') (a := ⟨g, 0, none⟩) (b := ⟨g, 1, none⟩) (fun e' => by have := congrArg Addr.off e'; simp at this)]; exact h2
  have e0 : (W.setCell ⟨g, 0, none⟩ a').cell? ⟨g, 0, none⟩ = some a' := World.cell?_setCell_same' _ _ _ (by rw [h1]; rfl)
  refine ⟨by simpa using h0, ?_, World.cell?_setCell_same' _ _ _ (by rw [e1]; rfl), by rw [World.frozen?_setCell, World.frozen?_setCell]; exact h3, by rw [World.frozen?_setCell, World.frozen?_setCell]; exact h4⟩
  rw [World.cell?_setCell_other (w := W.setCell ⟨g, 0, none⟩ a') (v := b') (a := ⟨g, 1, none⟩) (b := ⟨g, 0, none⟩) (fun e' => by have := congrArg Addr.off e'; simp at this)]
  exact e0

/-- Where strokes lie, if there are any. -/
def CellsK (w : World) (ao : Option Addr) (l : List Sk.Str) : Prop :=
  0 < l.length → ∃ g off, ao = some ⟨g, off, none⟩ ∧ g < w.heap.size ∧ ∀ i, i < l.length → w.cell? ⟨g, off + i * 2, none⟩ = some (.int .i64 (l.getD i Sk.d0).1) ∧ w.cell? ⟨g, off + i * 2 + 1, none⟩ = some (.bool (l.getD i Sk.d0).2)
/-- A slice value reads as a list of strokes, wherever it begins. -/
def SeeK (w : World) (v : Value) (l : List Sk.Str) : Prop := ∃ ao cap, v = .slice ao l.length cap ∧ l.length ≤ cap ∧ cap ≤ 9223372036854775807 ∧ CellsK w ao l
theorem CellsK.step {w w' : World} {ao : Option Addr} {l : List Sk.Str} (h : CellsK w ao l) (hb : Below w.heap.size w w') : CellsK w' ao l := by
  intro hl
  obtain ⟨g, off, rfl, hg, h4⟩ := h hl
  exact ⟨g, off, rfl, Nat.lt_of_lt_of_le hg hb.size, fun i hi => ⟨(hb.cell (p := ⟨g, off + i * 2, none⟩) hg).trans (h4 i hi).1, (hb.cell (p := ⟨g, off + i * 2 + 1, none⟩) hg).trans (h4 i hi).2⟩⟩
theorem SeeK.step {w w' : World} {v : Value} {l : List Sk.Str} (h : SeeK w v l) (hb : Below w.heap.size w w') : SeeK w' v l := by
  obtain ⟨ao, cap, rfl, h1, h2, h3⟩ := h
  exact ⟨ao, cap, rfl, h1, h2, h3.step hb⟩
theorem CellsK.at {w wr : World} {ao : Option Addr} {l : List Sk.Str} (h : CellsK w ao l) (hb : Below w.heap.size w wr) {i : Nat} (hi : i < l.length) :
    ∃ g off, ao = some ⟨g, off, none⟩ ∧ g < w.heap.size ∧ wr.cell? ⟨g, off + i * 2, none⟩ = some (.int .i64 (l.getD i Sk.d0).1) ∧ wr.cell? ⟨g, off + i * 2 + 1, none⟩ = some (.bool (l.getD i Sk.d0).2) := by
  obtain ⟨g, off, h1, h2, h3⟩ := h (by omega)
  exact ⟨g, off, h1, h2, (hb.cell (p := ⟨g, off + i * 2, none⟩) h2).trans (h3 i hi).1, (hb.cell (p := ⟨g, off + i * 2 + 1, none⟩) h2).trans (h3 i hi).2⟩
theorem SeeK.nil (w : World) : SeeK w (.slice none 0 0) [] := ⟨none, 0, rfl, Nat.le_refl _, by omega, fun h => by simp at h⟩

/-- Where steps lie, if there are any. -/
def CellsT (w : World) (ao : Option Addr) (L : List Sk.Stp) : Prop :=
  0 < L.length → ∃ g off, ao = some ⟨g, off, none⟩ ∧ g < w.heap.size ∧ ∀ i, i < L.length → (∃ u, w.cell? ⟨g, off + i * 2, none⟩ = some u ∧ SeeK w u (L.getD i Sk.t0).1) ∧ w.cell? ⟨g, off + i * 2 + 1, none⟩ = some (.int .i64 (L.getD i Sk.t0).2)
/-- A slice value reads as a list of steps, wherever it begins. -/
def SeeT (w : World) (v : Value) (L : List Sk.Stp) : Prop := ∃ ao cap, v = .slice ao L.length cap ∧ L.length ≤ cap ∧ cap ≤ 9223372036854775807 ∧ CellsT w ao L
theorem CellsT.step {w w' : World} {ao : Option Addr} {L : List Sk.Stp} (h : CellsT w ao L) (hb : Below w.heap.size w w') : CellsT w' ao L := by
  intro hl
  obtain ⟨g, off, rfl, hg, h4⟩ := h hl
  refine ⟨g, off, rfl, Nat.lt_of_lt_of_le hg hb.size, fun i hi => ⟨?_, (hb.cell (p := ⟨g, off + i * 2 + 1, none⟩) hg).trans (h4 i hi).2⟩⟩
  obtain ⟨u, h5, h6⟩ := (h4 i hi).1
  exact ⟨u, (hb.cell (p := ⟨g, off + i * 2, none⟩) hg).trans h5, h6.step hb⟩
theorem SeeT.step {w w' : World} {v : Value} {L : List Sk.Stp} (h : SeeT w v L) (hb : Below w.heap.size w w') : SeeT w' v L := by
  obtain ⟨ao, cap, rfl, h1, h2, h3⟩ := h
  exact ⟨ao, cap, rfl, h1, h2, h3.step hb⟩
theorem CellsT.at {w wr : World} {ao : Option Addr} {L : List Sk.Stp} (h : CellsT w ao L) (hb : Below w.heap.size w wr) {i : Nat} (hi : i < L.length) :
    ∃ g off ak ck, ao = some ⟨g, off, none⟩ ∧ g < w.heap.size ∧ wr.cell? ⟨g, off + i * 2, none⟩ = some (.slice ak (L.getD i Sk.t0).1.length ck) ∧ wr.cell? ⟨g, off + i * 2 + 1, none⟩ = some (.int .i64 (L.getD i Sk.t0).2) ∧ SeeK wr (.slice ak (L.getD i Sk.t0).1.length ck) (L.getD i Sk.t0).1 := by
  obtain ⟨g, off, h1, h2, h3⟩ := h (by omega)
  obtain ⟨⟨u, h4, h5⟩, h6⟩ := h3 i hi
  obtain ⟨ak, ck, rfl, -⟩ := id h5
  exact ⟨g, off, ak, ck, h1, h2, (hb.cell (p := ⟨g, off + i * 2, none⟩) h2).trans h4, (hb.cell (p := ⟨g, off + i * 2 + 1, none⟩) h2).trans h6, h5.step hb⟩
theorem SeeT.nil (w : World) : SeeT w (.slice none 0 0) [] := ⟨none, 0, rfl, Nat.le_refl _, by omega, fun h => by simp at h⟩

/-- Where ends lie, if there are any. -/
def CellsB (w : World) (ao : Option Addr) (l : List Bool) : Prop :=
  0 < l.length → ∃ g off, ao = some ⟨g, off, none⟩ ∧ g < w.heap.size ∧ ∀ i, i < l.length → w.cell? ⟨g, off + i, none⟩ = some (.bool (l.getD i false))
/-- A slice value reads as a list of ends, wherever it begins. -/
def SeeB (w : World) (v : Value) (l : List Bool) : Prop := ∃ ao cap, v = .slice ao l.length cap ∧ l.length ≤ cap ∧ cap ≤ 9223372036854775807 ∧ CellsB w ao l
theorem CellsB.step {w w' : World} {ao : Option Addr} {l : List Bool} (h : CellsB w ao l) (hb : Below w.heap.size w w') : CellsB w' ao l := by
  intro hl
  obtain ⟨g, off, rfl, hg, h4⟩ := h hl
  exact ⟨g, off, rfl, Nat.lt_of_lt_of_le hg hb.size, fun i hi => (hb.cell (p := ⟨g, off + i, none⟩) hg).trans (h4 i hi)⟩
theorem SeeB.step {w w' : World} {v : Value} {l : List Bool} (h : SeeB w v l) (hb : Below w.heap.size w w') : SeeB w' v l := by
  obtain ⟨ao, cap, rfl, h1, h2, h3⟩ := h
  exact ⟨ao, cap, rfl, h1, h2, h3.step hb⟩
theorem CellsB.at {w wr : World} {ao : Option Addr} {l : List Bool} (h : CellsB w ao l) (hb : Below w.heap.size w wr) {i : Nat} (hi : i < l.length) :
    ∃ g off, ao = some ⟨g, off, none⟩ ∧ g < w.heap.size ∧ wr.cell? ⟨g, off + i, none⟩ = some (.bool (l.getD i false)) := by
  obtain ⟨g, off, h1, h2, h3⟩ := h (by omega)
  exact ⟨g, off, h1, h2, (hb.cell (p := ⟨g, off + i, none⟩) h2).trans (h3 i hi)⟩
theorem SeeB.nil (w : World) : SeeB w (.slice none 0 0) [] := ⟨none, 0, rfl, Nat.le_refl _, by omega, fun h => by simp at h⟩
end Go.Proofs.YtecfbncfhehdcaaDoor

