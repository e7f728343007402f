/- Graphs in memory; whether a number is a vertex, and the errors of graphs, of package digraph and of its reference. -/
import Derived.WalkKit
import Derived.Lib.Hide
import Derived.Deep.QuietTactic
import Derived.BigQuiet
import Derived.Deep.RegionWith
import Derived.Deep.Light
import Derived.Deep.LoopGhost
import Derived.Deep.RegionHeld3
import Derived.Laws.AppendOwnNone
import Derived.Test.YtkjhockppkdakaaProg
import Derived.Test.YtkjhockppkdakaaDp
namespace Go.Proofs.Ytkjhockppkdakaa
open Go.RowKit

theorem ret_bool {a b : Bool} (h : a = b) : Ending.returned (.bool a) = Ending.returned (.bool b) := by rw [h]
theorem ret_int {k : IntKind} {a b : Int} (h : a = b) : Ending.returned (.int k a) = Ending.returned (.int k b) := by rw [h]
theorem below_nxt {w0 w w' : World} (h : Below w0.heap.size w0 w) (hb : Below w.heap.size w w') : Below w0.heap.size w0 w' := h.trans (hb.mono h.size)
theorem below_box {w0 w w' : World} {o : Obj} (h : Below w0.heap.size w0 w) (hb : Below (w.alloc o).heap.size (w.alloc o) w') : Below w0.heap.size w0 w' :=
  (h.alloc h.size o).trans (hb.mono (by have := h.size; simp; omega))
theorem below_drewN {B : Nat} (w : World) (n : Nat) : Below B w (w.drewN n) := ⟨rfl, rfl, rfl, Nat.le_refl _, fun _ _ => rfl⟩

/-- Where the edges of a graph lie, if there are any. -/
def CellsE (w : World) (ao : Option Addr) (E : List (Int × Int)) : Prop :=
  0 < E.length → ∃ g off, ao = some ⟨g, off, none⟩ ∧ g < w.heap.size ∧ ∀ i, i < E.length → w.cell? ⟨g, off + i * 2, none⟩ = some (.int .i64 (E.getD i (0, 0)).1) ∧ w.cell? ⟨g, off + i * 2 + 1, none⟩ = some (.int .i64 (E.getD i (0, 0)).2)
/-- A slice value reads as a list of edges, wherever it begins. -/
def SeesE (w : World) (v : Value) (E : List (Int × Int)) : Prop := ∃ ao cap, v = .slice ao E.length cap ∧ E.length ≤ cap ∧ cap ≤ 9223372036854775807 ∧ CellsE w ao E
theorem CellsE.step {w w' : World} {ao : Option Addr} {E : List (Int × Int)} (h : CellsE w ao E) (hb : Below w.heap.size w w') : CellsE w' ao E := by
  intro hl
  obtain ⟨g, off, rfl, hg, h4⟩ := h hl
  exact ⟨g, off, rfl, Nat.lt_of_lt_of_le hg hb.size, fun i hi => ⟨(hb.cell (p := ⟨g, off + i * 2, none⟩) hg).trans (h4 i hi).1, (hb.cell (p := ⟨g, off + i * 2 + 1, none⟩) hg).trans (h4 i hi).2⟩⟩
theorem SeesE.step {w w' : World} {v : Value} {E : List (Int × Int)} (h : SeesE w v E) (hb : Below w.heap.size w w') : SeesE w' v E := by
  obtain ⟨ao, cap, rfl, h1, h2, h3⟩ := h
  exact ⟨ao, cap, rfl, h1, h2, h3.step hb⟩
theorem CellsE.at {w wr : World} {ao : Option Addr} {E : List (Int × Int)} (h : CellsE w ao E) (hb : Below w.heap.size w wr) {i : Nat} (hi : i < E.length) :
    ∃ g off, ao = some ⟨g, off, none⟩ ∧ g < w.heap.size ∧ wr.cell? ⟨g, off + i * 2, none⟩ = some (.int .i64 (E.getD i (0, 0)).1) ∧ wr.cell? ⟨g, off + i * 2 + 1, none⟩ = some (.int .i64 (E.getD i (0, 0)).2) := by
  obtain ⟨g, off, h1, h2, h3⟩ := h (by omega)
  exact ⟨g, off, h1, h2, (hb.cell (p := ⟨g, off + i * 2, none⟩) h2).trans (h3 i hi).1, (hb.cell (p := ⟨g, off + i * 2 + 1, none⟩) h2).trans (h3 i hi).2⟩

/-- The box of a graph. -/
def GphI (W : World) (g : Nat) (n : Int) (v : Value) : Prop := g < W.heap.size ∧ W.cell? ⟨g, 0, none⟩ = some (.int .i64 n) ∧ W.cell? ⟨g, 1, none⟩ = some v
theorem GphI.below {W W' : World} {g : Nat} {n : Int} {v : Value} (h : GphI W g n v) {B : Nat} (hB : g < B) (hb : Below B W W') : GphI W' g n v :=
  ⟨Nat.lt_of_lt_of_le h.1 hb.size, (hb.cell (p := ⟨g, 0, none⟩) hB).trans h.2.1, (hb.cell (p := ⟨g, 1, none⟩) hB).trans h.2.2⟩
theorem GphI.step {W W' : World} {g : Nat} {n : Int} {v : Value} (h : GphI W g n v) (hb : Below W.heap.size W W') : GphI W' g n v := h.below h.1 hb
theorem gph_new (w : World) (n : Int) (v : Value) (T : TypeId) : GphI (w.alloc (.cells #[.int .i64 n, v] T)) w.heap.size n v ∧ Below w.heap.size w (w.alloc (.cells #[.int .i64 n, v] T)) ∧ (w.alloc (.cells #[.int .i64 n, v] T)).heap.size = w.heap.size + 1 :=
  ⟨by unfold GphI; simp, (Below.refl _ w).alloc (Nat.le_refl _) _, by simp⟩
/-- The box of an edge. -/
def EdgI (W : World) (g : Nat) (a b : Int) : Prop := g < W.heap.size ∧ W.cell? ⟨g, 0, none⟩ = some (.int .i64 a) ∧ W.cell? ⟨g, 1, none⟩ = some (.int .i64 b)
theorem EdgI.below {W W' : World} {g : Nat} {a b : Int} (h : EdgI W g a b) {B : Nat} (hB : g < B) (hb : Below B W W') : EdgI W' g a b :=
  ⟨Nat.lt_of_lt_of_le h.1 hb.size, (hb.cell (p := ⟨g, 0, none⟩) hB).trans h.2.1, (hb.cell (p := ⟨g, 1, none⟩) hB).trans h.2.2⟩
theorem EdgI.step {W W' : World} {g : Nat} {a b : Int} (h : EdgI W g a b) (hb : Below W.heap.size W W') : EdgI W' g a b := h.below h.1 hb
theorem edg_new (w : World) (a b : Int) (T : TypeId) : EdgI (w.alloc (.cells #[.int .i64 a, .int .i64 b] T)) w.heap.size a b ∧ Below w.heap.size w (w.alloc (.cells #[.int .i64 a, .int .i64 b] T)) ∧ (w.alloc (.cells #[.int .i64 a, .int .i64 b] T)).heap.size = w.heap.size + 1 :=
  ⟨by unfold EdgI; simp, (Below.refl _ w).alloc (Nat.le_refl _) _, by simp⟩

theorem dIsV_any (n x : Int) (ao : Option Addr) (len cap : Nat) (w : World) : Calls Try.prog 48 #[.agg #[.int .i64 n, .slice ao len cap], .int .i64 x] w fun e w' => e = .returned (.bool (Dg.vtx n x)) ∧ Below w.heap.size w w' := by
  have hB0 : Below w.heap.size w (w.alloc (.cells #[.int .i64 n, .slice ao len cap] 24)) := (Below.refl _ _).alloc (Nat.le_refl _) _
  go_enter Try.func48, Try.ntmps48
  go_wp2
  all_goals (go_ret; refine ⟨ret_bool ?_, hB0⟩; unfold Dg.vtx; go_light; grind)
theorem rIsV_any (n x : Int) (ao : Option Addr) (len cap : Nat) (w : World) : Calls Try.prog 49 #[.agg #[.int .i64 n, .slice ao len cap], .int .i64 x] w fun e w' => e = .returned (.bool (Dg.vtx n x)) ∧ Below w.heap.size w w' := by
  have hB0 : Below w.heap.size w (w.alloc (.cells #[.int .i64 n, .slice ao len cap] 24)) := (Below.refl _ _).alloc (Nat.le_refl _) _
  go_enter Try.func49, Try.ntmps49
  go_wp2
  all_goals (go_ret; refine ⟨ret_bool ?_, hB0⟩; unfold Dg.vtx; go_light; grind)
end Go.Proofs.Ytkjhockppkdakaa
