/- Bounds and matrices of bounds in memory. For walks. -/
import Derived.Test.YtkemicfaiipidaaBa
namespace Bn
def up (m : Mx) (i j : Nat) (x : Int) : Mx := fun a b => if a = i ∧ b = j then x else m a b
/-- A list of rows as a matrix. -/
def mx (R : List (List Int)) : Mx := fun i j => (R.getD i []).getD j 0
end Bn
namespace Go.Proofs.Ytkemicfaiipidaa
open Go.RowKit

/-- A slice value reads as a list of integers, wherever it begins. -/
def SeeI (w : World) (v : Value) (l : List Int) : Prop := ∃ ao cap, v = .slice ao l.length cap ∧ l.length ≤ cap ∧ cap ≤ 9223372036854775807 ∧ CellsI w ao l
theorem SeeI.step {w w' : World} {v : Value} {l : List Int} (h : SeeI w v l) (hb : Below w.heap.size w w') : SeeI w' v l := by
  obtain ⟨ao, cap, rfl, h1, h2, h3⟩ := h
  exact ⟨ao, cap, rfl, h1, h2, h3.step hb⟩
/-- A slice value reads as a list of rows, wherever it begins. -/
def SeesR (w : World) (v : Value) (R : List (List Int)) : Prop :=
  ∃ ao cap, v = .slice ao R.length cap ∧ R.length ≤ cap ∧ cap ≤ 9223372036854775807 ∧ (0 < R.length → ∃ b off, ao = some ⟨b, off, none⟩ ∧ b < w.heap.size ∧ ∀ i, i < R.length → ∃ u, w.cell? ⟨b, off + i, none⟩ = some u ∧ SeeI w u (R.getD i []))
theorem SeesR.step {w w' : World} {v : Value} {R : List (List Int)} (h : SeesR w v R) (hb : Below w.heap.size w w') : SeesR w' v R := by
  obtain ⟨ao, cap, rfl, h1, h2, h3⟩ := h
  refine ⟨ao, cap, rfl, h1, h2, fun hp => ?_⟩
  obtain ⟨b, off, rfl, h4, h5⟩ := h3 hp
  refine ⟨b, off, rfl, Nat.lt_of_lt_of_le h4 hb.size, fun i hi => ?_⟩
  obtain ⟨u, g1, g2⟩ := h5 i hi
  exact ⟨u, (hb.cell (p := ⟨b, off + i, none⟩) h4).trans g1, g2.step hb⟩
/-- One row of it, and one number. -/
theorem SeesR.at {w wr : World} {v : Value} {R : List (List Int)} (h : SeesR w v R) (hb : Below w.heap.size w wr) {i : Nat} (hi : i < R.length) :
    ∃ b off cap ar cr, v = .slice (some ⟨b, off, none⟩) R.length cap ∧ b < w.heap.size ∧ wr.cell? ⟨b, off + i, none⟩ = some (.slice ar (R.getD i []).length cr) ∧ (R.getD i []).length ≤ cr ∧ cr ≤ 9223372036854775807 ∧ CellsI w ar (R.getD i []) := by
  obtain ⟨ao, cap, rfl, h1, h2, h3⟩ := h
  obtain ⟨b, off, rfl, h4, h5⟩ := h3 (by omega)
  obtain ⟨u, g1, ar, cr, rfl, g2, g3, g4⟩ := h5 i hi
  exact ⟨b, off, cap, ar, cr, rfl, h4, (hb.cell (p := ⟨b, off + i, none⟩) h4).trans g1, g2, g3, g4⟩
theorem SeesR.get {w wr : World} {v : Value} {R : List (List Int)} (h : SeesR w v R) (hb : Below w.heap.size w wr) {i j : Nat} (hi : i < R.length) (hj : j < (R.getD i []).length) :
    ∃ b off cap d o2 cr, v = .slice (some ⟨b, off, none⟩) R.length cap ∧ b < w.heap.size ∧ wr.cell? ⟨b, off + i, none⟩ = some (.slice (some ⟨d, o2, none⟩) (R.getD i []).length cr) ∧ d < w.heap.size ∧ wr.cell? ⟨d, o2 + j, none⟩ = some (.int .i64 (Bn.mx R i j)) := by
  obtain ⟨b, off, cap, ar, cr, h1, h2, h3, -, -, h4⟩ := h.at hb hi
  obtain ⟨d, o2, rfl, h5, h6⟩ := h4.at hb hj
  exact ⟨b, off, cap, d, o2, cr, h1, h2, h3, h5, h6⟩

theorem grown_drew {w w1 : World} {r : Option Nat} (h : w.grownBy w1 r) : w.grownBy w1.drew r := ⟨h.os, h.tape, h.output, h.size, h.block⟩
theorem grown_drew0 {w w1 : World} {r : Option Nat} (h : w.drew.grownBy w1 r) : w.grownBy w1 r := ⟨h.os, h.tape, h.output, h.size, h.block⟩
/-- The box of bounds. -/
def BoxB (W : World) (g : Nat) (n : Int) (v : Value) : Prop := g < W.heap.size ∧ W.cell? ⟨g, 0, none⟩ = some (.int .i64 n) ∧ W.cell? ⟨g, 1, none⟩ = some v
theorem BoxB.below {W W' : World} {g : Nat} {n : Int} {v : Value} (h : BoxB W g n v) {B : Nat} (hB : g < B) (hb : Below B W W') : BoxB W' g n v :=
  ⟨Nat.lt_of_lt_of_le h.1 hb.size, (hb.cell (p := ⟨g, 0, none⟩) hB).trans h.2.1, (hb.cell (p := ⟨g, 1, none⟩) hB).trans h.2.2⟩
theorem BoxB.step {W W' : World} {g : Nat} {n : Int} {v : Value} (h : BoxB W g n v) (hb : Below W.heap.size W W') : BoxB W' g n v := h.below h.1 hb
theorem BoxB.grown {W W' : World} {g A : Nat} {n : Int} {v : Value} (h : BoxB W g n v) (hg : W.grownBy W' (some A)) (hA : g ≠ A) : BoxB W' g n v :=
  ⟨Nat.lt_of_lt_of_le h.1 hg.size, hg.cell h.2.1 (by simpa using hA), hg.cell h.2.2 (by simpa using hA)⟩
theorem boxB_new (w : World) (n : Int) (v : Value) (T : TypeId) : BoxB (w.alloc (.cells #[.int .i64 n, v] T)) w.heap.size n v ∧ Below w.heap.size w (w.alloc (.cells #[.int .i64 n, v] T)) :=
  ⟨by unfold BoxB; simp, (Below.refl _ w).alloc (Nat.le_refl _) _⟩
theorem boxV_new (w : World) (v : Value) (T : TypeId) : BoxV (w.alloc (.cells #[v] T)) w.heap.size v := by unfold BoxV; simp

/-- A matrix of bounds that may be written. -/
def MtxI (W : World) (g : Nat) (n : Int) (m : Bn.Mx) : Prop := g < W.heap.size ∧ W.cell? ⟨g, 0, none⟩ = some (.int .i64 n) ∧
  ∀ i j, i < 13 → j < 13 → W.cell? ⟨g, 1 + i * 13 + j, none⟩ = some (.int .i64 (m i j)) ∧ W.frozen? ⟨g, 1 + i * 13 + j, none⟩ = false
theorem MtxI.below {W W' : World} {g : Nat} {n : Int} {m : Bn.Mx} (h : MtxI W g n m) {B : Nat} (hB : g < B) (hb : Below B W W') : MtxI W' g n m :=
  ⟨Nat.lt_of_lt_of_le h.1 hb.size, (hb.cell (p := ⟨g, 0, none⟩) hB).trans h.2.1, fun i j hi hj => ⟨(hb.cell (p := ⟨g, 1 + i * 13 + j, none⟩) hB).trans (h.2.2 i j hi hj).1, (hb.frozen (p := ⟨g, 1 + i * 13 + j, none⟩) hB).trans (h.2.2 i j hi hj).2⟩⟩
theorem MtxI.step {W W' : World} {g : Nat} {n : Int} {m : Bn.Mx} (h : MtxI W g n m) (hb : Below W.heap.size W W') : MtxI W' g n m := h.below h.1 hb
theorem MtxI.congr {W : World} {g : Nat} {n : Int} {m m' : Bn.Mx} (h : MtxI W g n m) (he : ∀ i j, i < 13 → j < 13 → m i j = m' i j) : MtxI W g n m' :=
  ⟨h.1, h.2.1, fun i j hi hj => by rw [← he i j hi hj]; exact h.2.2 i j hi hj⟩
theorem MtxI.put {W : World} {g i j : Nat} {n : Int} {m : Bn.Mx} (h : MtxI W g n m) (hi : i < 13) (hj : j < 13) (x : Int) : MtxI (W.setCell ⟨g, 1 + i * 13 + j, none⟩ (.int .i64 x)) g n (Bn.up m i j x) := by
  refine ⟨by simpa [World.setCell] using h.1, ?_, fun a b ha hb => ?_⟩
  · rw [World.cell?_setCell_other (w := W) (v := .int .i64 x) (a := ⟨g, 1 + i * 13 + j, none⟩) (b := ⟨g, 0, none⟩) (fun e' => by have := congrArg Addr.off e'; simp at this)]
    exact h.2.1
  · obtain ⟨h1, h2⟩ := h.2.2 a b ha hb
    rw [World.frozen?_setCell]
    refine ⟨?_, h2⟩
    unfold Bn.up
    by_cases e : a = i ∧ b = j
    · obtain ⟨rfl, rfl⟩ := e
      rw [if_pos ⟨rfl, rfl⟩, World.cell?_setCell_same' _ _ _ (by rw [h1]; rfl)]
    · rw [if_neg e, World.cell?_setCell_other (w := W) (v := .int .i64 x) (a := ⟨g, 1 + i * 13 + j, none⟩) (b := ⟨g, 1 + a * 13 + b, none⟩) (fun e' => e (by have := congrArg Addr.off e'; simp at this; omega)), h1]
theorem MtxI.grown {W W' : World} {g A : Nat} {n : Int} {m : Bn.Mx} (h : MtxI W g n m) (hg : W.grownBy W' (some A)) (hA : g ≠ A) : MtxI W' g n m := by
  refine ⟨Nat.lt_of_lt_of_le h.1 hg.size, hg.cell h.2.1 (by simpa using hA), fun i j hi hj => ⟨hg.cell (h.2.2 i j hi hj).1 (by simpa using hA), ?_⟩⟩
  have h2 := (h.2.2 i j hi hj).2
  have := hg.block g h.1 (by simpa using hA)
  unfold World.frozen? at h2 ⊢
  simpa only [this] using h2
theorem MtxI.at {W : World} {g : Nat} {n : Int} {m : Bn.Mx} (h : MtxI W g n m) {i j : Nat} (hi : i < 13) (hj : j < 13) : W.cell? ⟨g, 1 + i * 13 + j, none⟩ = some (.int .i64 (m i j)) ∧ W.frozen? ⟨g, 1 + i * 13 + j, none⟩ = false := h.2.2 i j hi hj

set_option maxHeartbeats 2000000 in
set_option maxRecDepth 100000 in
/-- matrixOf's closure. -/
theorem bOf1_any (i j g bb mb : Nat) (n : Int) (m : Bn.Mx) (v : Value) (R : List (List Int)) (W : World) (hi : i < 13) (hj : j < 13) (hM : MtxI W g n m) (hB : BoxB W bb n v) (hm : BoxV W mb (.pointer (some ⟨g, 0, none⟩))) (hR : SeesR W v R) (hil : i < R.length) (hjl : j < (R.getD i []).length) :
    Calls Try.prog 66 #[.int .i64 i, .int .i64 j, .pointer (some ⟨bb, 0, none⟩), .pointer (some ⟨mb, 0, none⟩)] W fun e w' => e = .returned (.tuple #[]) ∧ W.grownBy w' (some g) ∧ MtxI w' g n (Bn.up m i j (Bn.mx R i j)) := by
  obtain ⟨b, off, cap, d, o2, cr, rfl, hb, c1, hd, c2⟩ := hR.get (Below.refl _ _) hil hjl
  have HM := Lib.hid hM
  obtain ⟨m0, m1, m2⟩ := hM
  obtain ⟨m3, m4⟩ := m2 i j hi hj
  obtain ⟨b0, b1, b2⟩ := hB
  obtain ⟨v0, v1⟩ := hm
  clear m2 hR
  have HJ := Lib.hid hjl
  generalize (R.getD i []).length = lr at *
  generalize Bn.mx R i j = x at *
  have hjr := HJ.out
  clear HJ
  go_enter Try.func66, Try.ntmps66
  go_region
  go_end0
  exact ⟨rfl, grown_drew (grown_set (grown_refl _ _)), HM.out.put hi hj x⟩
end Go.Proofs.Ytkemicfaiipidaa

