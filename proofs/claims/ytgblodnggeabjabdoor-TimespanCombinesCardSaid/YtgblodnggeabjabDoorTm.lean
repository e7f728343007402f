/- Boxes that outlast calls; the contract of span; the examples. -/
import Derived.Test.YtgblodnggeabjabDoorTl
namespace Go.Proofs.YtgblodnggeabjabDoor
open Go.RowKit

theorem PairI.step {w w' : World} {g : Nat} {x y : Int} (h : PairI w g x y) (hb : Below w.heap.size w w') : PairI w' g x y := h.below h.1 hb
theorem PairI.box {w w' : World} {g : Nat} {x y : Int} {o : Obj} (h : PairI w g x y) (hb : Below (w.alloc o).heap.size (w.alloc o) w') : PairI w' g x y :=
  h.below h.1 (below_box (Nat.le_refl _) hb)
theorem pairI_box {w w' : World} {x y : Int} {T : TypeId} (hb : Below (w.alloc (.cells #[.int .i64 x, .int .i64 y] T)).heap.size (w.alloc (.cells #[.int .i64 x, .int .i64 y] T)) w') : PairI w' w.heap.size x y :=
  (pairI_new w x y T).below (by simp) hb
theorem below_boxed {B : Nat} {w0 w w' : World} {o : Obj} (h : Below B w0 w) (hB : B ≤ w.heap.size) (hb : Below (w.alloc o).heap.size (w.alloc o) w') : Below B w0 w' :=
  h.trans ((below_box (Nat.le_refl _) hb).mono hB)
theorem below_next {w0 w w' : World} (h : Below w0.heap.size w0 w) (hb : Below w.heap.size w w') : Below w0.heap.size w0 w' := h.trans (hb.mono h.size)
theorem below_nextb {w0 w w' : World} {o : Obj} (h : Below w0.heap.size w0 w) (hb : Below (w.alloc o).heap.size (w.alloc o) w') : Below w0.heap.size w0 w' := below_boxed h h.size hb

theorem span_any (x y : Int) (w : World) : Calls Tryd.prog 48 #[.int .i64 x, .int .i64 y] w fun e w' => e = .returned (.agg #[.int .i64 x, .int .i64 y]) ∧ Below w.heap.size w w' := by
  go_enter Tryd.func48, Tryd.ntmps48
  go_wp2
  exact bodyPost_ret (v := .agg #[.int .i64 x, .int .i64 y]) (by simp [results, Tryd.results48, go_sem]) rfl ⟨rfl, (Below.refl _ _).alloc (Nat.le_refl _) _⟩

theorem par_7 : Tm.parV [55] = ((7, 7), 0) := by decide +kernel
theorem par_77 : Tm.parV [55, 46, 46, 55] = ((0, 0), 3) := by decide +kernel
theorem par_97 : Tm.parV [57, 46, 46, 55] = ((0, 0), 9) := by decide +kernel
theorem fmt_2030 : Tm.fmtV 20 30 = ([50, 48, 46, 46, 51, 48], 0) := by decide +kernel
theorem add_1 : Tm.addV 10 20 5 30 = ((15, 50), 0) := by decide +kernel
theorem later_1 : Tm.opV Tm.great Tm.great 10 20 5 30 = ((10, 30), 0) := by decide +kernel
theorem earlier_1 : Tm.opV Tm.less Tm.less 10 20 5 30 = ((5, 20), 0) := by decide +kernel
theorem meet_1 : Tm.meeV 10 20 5 30 = (((10, 20), true), 0) := by decide +kernel
theorem cmp_1 : Tm.cmpV 1 4 5 9 = (-1, 0) := by decide +kernel
theorem cmp_2 : Tm.cmpV 1 5 5 9 = (0, 0) := by decide +kernel

end Go.Proofs.YtgblodnggeabjabDoor
