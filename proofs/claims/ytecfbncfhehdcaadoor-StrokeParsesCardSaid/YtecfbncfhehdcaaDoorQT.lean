/- readStep of package stroke. -/
import Derived.Test.YtecfbncfhehdcaaDoorQS
namespace Go.Proofs.YtecfbncfhehdcaaDoor
open Go.RowKit Go.Shelf
attribute [local go_sem] Oper.semAt_some
/-- What readStep leaves. -/
def RpP (l : List UInt8) (w : World) (e : Ending) (w' : World) : Prop := ∃ (v : Value) (n : Int) (L : List Sk.Str), e = .returned (.tuple #[.agg #[v, .int .i64 n], .bool (Sk.rdP l).isSome]) ∧ SeeK w' v L ∧ (∀ y, Sk.rdP l = some y → y = (L, n)) ∧ (∀ r, v.ownBlock = some r → w.heap.size ≤ r) ∧ (∀ r, v.ownBlock = some r → r < w'.heap.size) ∧ Below w.heap.size w w'
theorem ResP.kept {W W' : World} {g : Nat} {a b : Value} {row : Option Nat} (h : ResP W g a b) (hg : W.grownBy W' row) (hr : ∀ r, row = some r → ∃ o : Obj, W.heap[r]? = some o ∧ o.isCells = false) : ResP W' g a b :=
  ⟨Nat.lt_of_lt_of_le h.1 hg.size, cell_kept h.2.1 hg hr, cell_kept h.2.2.1 hg hr, (frozen_kept h.2.1 hg hr).trans h.2.2.2.1, (frozen_kept h.2.2.1 hg hr).trans h.2.2.2.2⟩
/-- A variable that may be written. -/
def BoxW (W : World) (g : Nat) (v : Value) : Prop := g < W.heap.size ∧ W.cell? ⟨g, 0, none⟩ = some v ∧ W.frozen? ⟨g, 0, none⟩ = false
theorem BoxW.step {W W' : World} {g : Nat} {v : Value} (h : BoxW W g v) (hb : Below W.heap.size W W') : BoxW W' g v :=
  ⟨Nat.lt_of_lt_of_le h.1 hb.size, (hb.cell (p := ⟨g, 0, none⟩) h.1).trans h.2.1, (hb.frozen (p := ⟨g, 0, none⟩) h.1).trans h.2.2⟩
theorem BoxW.kept {W W' : World} {g : Nat} {v : Value} {row : Option Nat} (h : BoxW W g v) (hg : W.grownBy W' row) (hr : ∀ r, row = some r → ∃ o : Obj, W.heap[r]? = some o ∧ o.isCells = false) : BoxW W' g v :=
  ⟨Nat.lt_of_lt_of_le h.1 hg.size, cell_kept h.2.1 hg hr, (frozen_kept h.2.1 hg hr).trans h.2.2⟩
theorem boxW_new (w : World) (v : Value) (T : TypeId) : BoxW (w.alloc (.cells #[v] T)) w.heap.size v := by unfold BoxW; simp
theorem BoxW.set {W : World} {g : Nat} {v : Value} (h : BoxW W g v) (u : Value) : BoxW (W.setCell ⟨g, 0, none⟩ u) g u :=
  ⟨by simpa using h.1, World.cell?_setCell_same' _ _ _ (by rw [h.2.1]; rfl), by rw [World.frozen?_setCell]; exact h.2.2⟩
theorem BoxW.other {W : World} {g k o : Nat} {v : Value} (h : BoxW W g v) (hk : k ≠ g) (u : Value) : BoxW (W.setCell ⟨k, o, none⟩ u) g v :=
  ⟨by simpa using h.1, (World.cell?_setCell_other (w := W) (v := u) (a := ⟨k, o, none⟩) (b := ⟨g, 0, none⟩) (fun e => hk (congrArg Addr.block e))).trans h.2.1, by rw [World.frozen?_setCell]; exact h.2.2⟩
theorem ResP.other {W : World} {g k o : Nat} {a b : Value} (h : ResP W g a b) (hk : k ≠ g) (u : Value) : ResP (W.setCell ⟨k, o, none⟩ u) g a b :=
  ⟨by simpa using h.1, (World.cell?_setCell_other (w := W) (v := u) (a := ⟨k, o, none⟩) (b := ⟨g, 0, none⟩) (fun e => hk (congrArg Addr.block e))).trans h.2.1, (World.cell?_setCell_other (w := W) (v := u) (a := ⟨k, o, none⟩) (b := ⟨g, 1, none⟩) (fun e => hk (congrArg Addr.block e))).trans h.2.2.1, by rw [World.frozen?_setCell]; exact h.2.2.2.1, by rw [World.frozen?_setCell]; exact h.2.2.2.2⟩
theorem ResP.put0 {W : World} {g : Nat} {a b : Value} (h : ResP W g a b) (u : Value) : ResP (W.setCell ⟨g, 0, none⟩ u) g u b := by
  obtain ⟨h0, h1, h2, h3, h4⟩ := h
  exact ⟨by simpa using h0, World.cell?_setCell_same' _ _ _ (by rw [h1]; rfl), (World.cell?_setCell_other (w := W) (v := u) (a := ⟨g, 0, none⟩) (b := ⟨g, 1, none⟩) (fun e' => by have := congrArg Addr.off e'; simp at this)).trans h2, by rw [World.frozen?_setCell]; exact h3, by rw [World.frozen?_setCell]; exact h4⟩
theorem ResP.put1 {W : World} {g : Nat} {a b : Value} (h : ResP W g a b) (u : Value) : ResP (W.setCell ⟨g, 1, none⟩ u) g a u := by
  obtain ⟨h0, h1, h2, h3, h4⟩ := h
  exact ⟨by simpa using h0, (World.cell?_setCell_other (w := W) (v := u) (a := ⟨g, 1, none⟩) (b := ⟨g, 0, none⟩) (fun e' => by have := congrArg Addr.off e'; simp at this)).trans h1, World.cell?_setCell_same' _ _ _ (by rw [h2]; rfl), by rw [World.frozen?_setCell]; exact h3, by rw [World.frozen?_setCell]; exact h4⟩
theorem ResP.grown {W W' : World} {g : Nat} {a b : Value} (h : ResP W g a b) {row : Option Nat} (hg : W.grownBy W' row) (hA : ∀ r, row = some r → r ≠ g) : ResP W' g a b := by
  have hb := hg.block g h.1 (fun e => hA g e.symm rfl)
  have fr : ∀ i, W'.frozen? ⟨g, i, none⟩ = W.frozen? ⟨g, i, none⟩ := fun i => by unfold World.frozen?; simp only [hb]
  exact ⟨Nat.lt_of_lt_of_le h.1 hg.size, (World.cell?_of_block (w := W) hb).trans h.2.1, (World.cell?_of_block (w := W) hb).trans h.2.2.1, (fr 0).trans h.2.2.2.1, (fr 1).trans h.2.2.2.2⟩
theorem BoxW.grown {W W' : World} {g : Nat} {v : Value} (h : BoxW W g v) {row : Option Nat} (hg : W.grownBy W' row) (hA : ∀ r, row = some r → r ≠ g) : BoxW W' g v := by
  have hb := hg.block g h.1 (fun e => hA g e.symm rfl)
  have fr : ∀ i, W'.frozen? ⟨g, i, none⟩ = W.frozen? ⟨g, i, none⟩ := fun i => by unfold World.frozen?; simp only [hb]
  exact ⟨Nat.lt_of_lt_of_le h.1 hg.size, (World.cell?_of_block (w := W) hb).trans h.2.1, (fr 0).trans h.2.2⟩

/-- Between two rounds of readStep. -/
def RsI (w : World) (T : TypeId) (pre : List Sk.Prt) (W : World) : Prop :=
  (∃ (L : List Sk.Str) (n : Int) (u : Value), (∀ rest, Sk.runP (pre.map Sk.pv ++ rest) ([], 0) = Sk.runP rest (L, n)) ∧ L.length ≤ pre.length ∧ 0 ≤ n ∧ n < 10000000 ∧ RowK (w.heap.size + 5) T W u L ∧ ResP W (w.heap.size + 2) u (.int .i64 n)) ∧ ResP W w.heap.size (.slice none 0 0) (.int .i64 0) ∧ BoxW W (w.heap.size + 1) (.bool false) ∧ Below w.heap.size w W ∧ w.heap.size + 5 ≤ W.heap.size
/-- When a round has left. -/
def RsX (w : World) (c : Code) (pre : List Sk.Prt) (W : World) : Prop :=
  c = .ret ∧ (∀ rest, Sk.runP (pre.map Sk.pv ++ rest) ([], 0) = none) ∧ ResP W w.heap.size (.slice none 0 0) (.int .i64 0) ∧ BoxW W (w.heap.size + 1) (.bool false) ∧ Below w.heap.size w W
theorem RsI.own {w : World} {T : TypeId} {B : Nat} (hB : w.heap.size ≤ B) : OwnFrom B (RsI w T) := by
  rintro pre W W' row ⟨⟨L, n, u, h1, h2, h3, h4, h5, h6⟩, h7, h8, h9, h10⟩ hg hr
  have hr2 := fun r e => (hr r e).2
  exact ⟨⟨L, n, u, h1, h2, h3, h4, h5.kept hg hr2, h6.kept hg hr2⟩, h7.kept hg hr2, h8.kept hg hr2, h9.grown hg h9.size (fun r e => Nat.le_trans hB (hr r e).1), Nat.le_trans h10 hg.size⟩
theorem RsX.own {w : World} {B : Nat} (hB : w.heap.size ≤ B) (c : Code) : OwnFrom B (RsX w c) := by
  rintro pre W W' row ⟨h0, h1, h7, h8, h9⟩ hg hr
  have hr2 := fun r e => (hr r e).2
  exact ⟨h0, h1, h7.kept hg hr2, h8.kept hg hr2, h9.grown hg h9.size (fun r e => Nat.le_trans hB (hr r e).1)⟩
theorem KpT.setc {tb sb : Nat} (W : World) {a : Addr} (ha : a.block ≠ tb ∧ a.block ≠ sb ∧ a.block ≠ 0) (v : Value) : KpT tb sb W (W.setCell a v) := fun b hb =>
  Below.heap_setCell _ _ _ _ (by rcases hb with rfl | rfl | rfl <;> omega)
theorem keeps_below {W W' : World} (hb : Below W.heap.size W W') : KeepsOthers W W' := KeepsOthers.of_grownBy (row := none) ⟨hb.os, hb.tape, hb.output, hb.size, fun k hk _ => hb.block k hk⟩ (fun j o e => by cases e)
theorem keeps_row {B : Nat} {e : TypeId} {W W' : World} {v : Value} {l : List Sk.Str} (h : RowK B e W v l) (hg : W.grownBy W' v.ownBlock) : KeepsOthers W W' := KeepsOthers.of_grownBy hg (fun j o e' ho => by
  rcases h.2 with ⟨rfl, -⟩ | ⟨g', cap, cur, rfl, h1, h2, -⟩
  · cases e'
  · have : g' = j := by simpa [Value.ownBlock] using e'
    subst this
    rw [h2] at ho; cases ho; rfl)
theorem KpT.row {tb sb B : Nat} {e : TypeId} {W W' : World} {v : Value} {l : List Sk.Str} (h : RowK B e W v l) (hg : W.grownBy W' v.ownBlock) (ht : tb < B) (hs : sb < B) (ht' : tb < W.heap.size) (hs' : sb < W.heap.size) : KpT tb sb W W' := KpT.grown hg ht' hs' (fun r e' => by
  have := (World.ownsRow.lt h r e').1; omega)
theorem RsI.next {pre : List Sk.Prt} {x : Sk.Prt} {L : List Sk.Str} {n : Int} (h : ∀ rest, Sk.runP (pre.map Sk.pv ++ rest) ([], 0) = Sk.runP rest (L, n)) (rest : List (Int × List UInt8)) : Sk.runP ((pre ++ [x]).map Sk.pv ++ rest) ([], 0) = Sk.runP (Sk.pv x :: rest) (L, n) := by
  rw [List.map_append, List.append_assoc, h]; rfl
theorem rdS_yes (p : ByteArray) (y : Sk.Str) (W : World) (hz : p.size ≤ 1000000) (h : Sk.rdS p.data.toList = some y) : Calls Tryd.prog 85 #[.string p] W fun e w' => e = .returned (.tuple #[.agg #[.int .i64 y.1, .bool y.2], .bool true]) ∧ Below W.heap.size W w' :=
  (rdS_any p W hz).mono (by rintro e w' ⟨a, o, rfl, hy, hb⟩; have := hy y h; subst this; rw [h]; exact ⟨rfl, hb⟩)
theorem rdS_no (p : ByteArray) (W : World) (hz : p.size ≤ 1000000) (h : Sk.rdS p.data.toList = none) : Calls Tryd.prog 85 #[.string p] W fun e w' => ∃ a o, e = .returned (.tuple #[.agg #[.int .i64 a, .bool o], .bool false]) ∧ Below W.heap.size W w' :=
  (rdS_any p W hz).mono (by rintro e w' ⟨a, o, rfl, hy, hb⟩; rw [h]; exact ⟨a, o, rfl, hb⟩)
end Go.Proofs.YtecfbncfhehdcaaDoor

