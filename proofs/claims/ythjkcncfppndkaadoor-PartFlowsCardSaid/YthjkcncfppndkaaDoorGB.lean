/- Rows of the catalogue, positions, pilots. -/
import Derived.Test.YthjkcncfppndkaaDoorGA
import Derived.Laws.IdiomCopy
import Derived.Laws.ResultCell
namespace Pt
def noRow : Row := ⟨⟨#[]⟩, ⟨#[]⟩, ⟨#[]⟩, ⟨#[]⟩, ⟨#[]⟩, ⟨#[]⟩, ⟨#[]⟩, 0, ⟨#[]⟩, ⟨#[]⟩, .nothing⟩
theorem kinds {k : Int} (h0 : 0 ≤ k) (h1 : k < 14) : k = 0 ∨ k = 1 ∨ k = 2 ∨ k = 3 ∨ k = 4 ∨ k = 5 ∨ k = 6 ∨ k = 7 ∨ k = 8 ∨ k = 9 ∨ k = 10 ∨ k = 11 ∨ k = 12 ∨ k = 13 := by omega
end Pt
namespace Go.Proofs.YthjkcncfppndkaaDoor
open Go.RowKit
set_option maxHeartbeats 4000000 in
set_option maxRecDepth 100000 in
theorem idx_cat (k : Nat) (hk : k < 14) : ∀ w, (Instr.index 91 (.agg Pt.catC) (.int .i64 (k : Int))).run Tryd.prog w = .ok (Pt.rowV (Pt.cat k)) w := by
  match k, hk with
  | 0, _ => intro w; exact (by first | kernel_rfl | rfl)
  | 1, _ => intro w; exact (by first | kernel_rfl | rfl)
  | 2, _ => intro w; exact (by first | kernel_rfl | rfl)
  | 3, _ => intro w; exact (by first | kernel_rfl | rfl)
  | 4, _ => intro w; exact (by first | kernel_rfl | rfl)
  | 5, _ => intro w; exact (by first | kernel_rfl | rfl)
  | 6, _ => intro w; exact (by first | kernel_rfl | rfl)
  | 7, _ => intro w; exact (by first | kernel_rfl | rfl)
  | 8, _ => intro w; exact (by first | kernel_rfl | rfl)
  | 9, _ => intro w; exact (by first | kernel_rfl | rfl)
  | 10, _ => intro w; exact (by first | kernel_rfl | rfl)
  | 11, _ => intro w; exact (by first | kernel_rfl | rfl)
  | 12, _ => intro w; exact (by first | kernel_rfl | rfl)
  | 13, _ => intro w; exact (by first | kernel_rfl | rfl)
theorem st_nil : ∀ (a : Addr) (w : World), (store a .nilFunc).run Tryd.prog w = stored Tryd.prog w a .nilFunc .plain := fun a w => run_store Tryd.prog w a _ _ rfl
theorem st_fn (f : Fn) (x y : Array Value) : ∀ (a : Addr) (w : World), (store a (.func f x y)).run Tryd.prog w = stored Tryd.prog w a (.func f x y) .plain := fun a w => run_store Tryd.prog w a _ _ rfl
def noV : Value := .agg #[.string ⟨#[]⟩, .string ⟨#[]⟩, .string ⟨#[]⟩, .string ⟨#[]⟩, .string ⟨#[]⟩, .string ⟨#[]⟩, .string ⟨#[]⟩, .int .i64 0, .string ⟨#[]⟩, .string ⟨#[]⟩, .nilFunc]
theorem box11 {w w1 : World} {T : TypeId} (c : Array Value) (hc : c.size = 11) (hb : Below (w.alloc (.cells c T)).heap.size (w.alloc (.cells c T)) w1) : ∀ i, i < 11 → w1.cell? ⟨w.heap.size, i, none⟩ = c[i]? ∧ w1.frozen? ⟨w.heap.size, i, none⟩ = false := fun i hi => by
  rw [hb.cell (p := ⟨w.heap.size, i, none⟩) (by simp), hb.frozen (p := ⟨w.heap.size, i, none⟩) (by simp)]
  have hi' : i < c.size := by omega
  constructor
  · simp [hi']
  · simp
theorem load11 {W : World} (g : Nat) (xs : List Value) (hl : xs.length = 11) (h : ∀ j v, xs[j]? = some v → W.cell? ⟨g, j, none⟩ = some v) : (loadVar 83 ⟨g, 0, none⟩).run Tryd.prog W = .ok (.agg xs.toArray) W := by
  match xs, hl with
  | [a0, a1, a2, a3, a4, a5, a6, a7, a8, a9, a10], _ =>
    have k0 := h 0 a0 rfl
    have k1 := h 1 a1 rfl
    have k2 := h 2 a2 rfl
    have k3 := h 3 a3 rfl
    have k4 := h 4 a4 rfl
    have k5 := h 5 a5 rfl
    have k6 := h 6 a6 rfl
    have k7 := h 7 a7 rfl
    have k8 := h 8 a8 rfl
    have k9 := h 9 a9 rfl
    have k10 := h 10 a10 rfl
    clear h
    simp [loadVar, go_sem, k0, k1, k2, k3, k4, k5, k6, k7, k8, k9, k10]
theorem below_cells {B g : Nat} {a : World} : ∀ {w : World} (_ : Below B a w) (_ : B ≤ g) (xs : List Value) (o : Nat), Below B a (w.setCells g o xs)
  | _, h, _, [], _ => h
  | _, h, hg, v :: r, o => below_cells (h.setCell (p := ⟨g, o, none⟩) hg v) hg r (o + 1)
theorem cells11 (w : World) (g : Nat) (xs : List Value) (hl : xs.length = 11) (h : ∀ i, i < 11 → (w.cell? ⟨g, i, none⟩).isSome = true) : ∀ j v, xs[j]? = some v → (w.setCells g 0 xs).cell? ⟨g, j, none⟩ = some v := fun j v hv => by
  obtain ⟨hj, rfl⟩ := List.getElem?_eq_some_iff.1 hv
  have := World.cell?_setCells_in g xs 0 w (fun i hi => by rw [Nat.zero_add]; exact h i (by omega)) j hj
  rw [Nat.zero_add] at this
  exact this
set_option maxHeartbeats 4000000 in
set_option maxRecDepth 100000 in
theorem rowOf_any (k : Nat) (hk : k < 14) (w : World) : Calls Tryd.prog 38 #[.int .i64 (k : Int)] w fun e w' => e = .returned (.tuple #[Pt.rowV (Pt.cat k), .int .i64 0]) ∧ Below w.heap.size w w' := by
  have h14 : (k : Int) < 14 := by omega
  have hix := idx_cat k hk
  have hsf := st_fn
  have HB := Lib.hid ((Below.refl w.heap.size w).alloc (Nat.le_refl _) (.cells #[.string ⟨#[]⟩, .string ⟨#[]⟩, .string ⟨#[]⟩, .string ⟨#[]⟩, .string ⟨#[]⟩, .string ⟨#[]⟩, .string ⟨#[]⟩, .int .i64 0, .string ⟨#[]⟩, .string ⟨#[]⟩, .nilFunc] 83))
  generalize Pt.cat k = r at *
  obtain ⟨r0, r1, r2, r3, r4, r5, r6, r7, r8, r9, r10⟩ := r
  simp only [Pt.rowV, Pt.rowC] at hix ⊢
  generalize Pt.Eff.fn r10 = q at *
  go_enter Tryd.func38, Tryd.ntmps38
  go_wp2_with fail
  refine (cat_any _).mono ?_
  rintro e w1 ⟨rfl, hb1⟩
  have BX := box11 #[.string ⟨#[]⟩, .string ⟨#[]⟩, .string ⟨#[]⟩, .string ⟨#[]⟩, .string ⟨#[]⟩, .string ⟨#[]⟩, .string ⟨#[]⟩, .int .i64 0, .string ⟨#[]⟩, .string ⟨#[]⟩, .nilFunc] rfl hb1
  have HB1 := Lib.hid (below_nxt HB.out hb1)
  have c0 : w1.cell? ⟨w.heap.size, 0, none⟩ = some (.string ⟨#[]⟩) := (BX 0 (by omega)).1
  have f0 : w1.frozen? ⟨w.heap.size, 0, none⟩ = false := (BX 0 (by omega)).2
  have c1 : w1.cell? ⟨w.heap.size, 1, none⟩ = some (.string ⟨#[]⟩) := (BX 1 (by omega)).1
  have f1 : w1.frozen? ⟨w.heap.size, 1, none⟩ = false := (BX 1 (by omega)).2
  have c2 : w1.cell? ⟨w.heap.size, 2, none⟩ = some (.string ⟨#[]⟩) := (BX 2 (by omega)).1
  have f2 : w1.frozen? ⟨w.heap.size, 2, none⟩ = false := (BX 2 (by omega)).2
  have c3 : w1.cell? ⟨w.heap.size, 3, none⟩ = some (.string ⟨#[]⟩) := (BX 3 (by omega)).1
  have f3 : w1.frozen? ⟨w.heap.size, 3, none⟩ = false := (BX 3 (by omega)).2
  have c4 : w1.cell? ⟨w.heap.size, 4, none⟩ = some (.string ⟨#[]⟩) := (BX 4 (by omega)).1
  have f4 : w1.frozen? ⟨w.heap.size, 4, none⟩ = false := (BX 4 (by omega)).2
  have c5 : w1.cell? ⟨w.heap.size, 5, none⟩ = some (.string ⟨#[]⟩) := (BX 5 (by omega)).1
  have f5 : w1.frozen? ⟨w.heap.size, 5, none⟩ = false := (BX 5 (by omega)).2
  have c6 : w1.cell? ⟨w.heap.size, 6, none⟩ = some (.string ⟨#[]⟩) := (BX 6 (by omega)).1
  have f6 : w1.frozen? ⟨w.heap.size, 6, none⟩ = false := (BX 6 (by omega)).2
  have c7 : w1.cell? ⟨w.heap.size, 7, none⟩ = some (.int .i64 0) := (BX 7 (by omega)).1
  have f7 : w1.frozen? ⟨w.heap.size, 7, none⟩ = false := (BX 7 (by omega)).2
  have c8 : w1.cell? ⟨w.heap.size, 8, none⟩ = some (.string ⟨#[]⟩) := (BX 8 (by omega)).1
  have f8 : w1.frozen? ⟨w.heap.size, 8, none⟩ = false := (BX 8 (by omega)).2
  have c9 : w1.cell? ⟨w.heap.size, 9, none⟩ = some (.string ⟨#[]⟩) := (BX 9 (by omega)).1
  have f9 : w1.frozen? ⟨w.heap.size, 9, none⟩ = false := (BX 9 (by omega)).2
  have c10 : w1.cell? ⟨w.heap.size, 10, none⟩ = some (.nilFunc) := (BX 10 (by omega)).1
  have f10 : w1.frozen? ⟨w.heap.size, 10, none⟩ = false := (BX 10 (by omega)).2
  have hg : w.heap.size < w1.heap.size := Nat.lt_of_lt_of_le (by simp) hb1.size
  have HBX := Lib.hid BX
  clear hb1 HB BX
  go_wp2
  have hcs := cells11 w1 w.heap.size [.string r0, .string r1, .string r2, .string r3, .string r4, .string r5, .string r6, .int .i64 r7, .string r8, .string r9, .func (.func q) #[] #[]] rfl (fun i hi => by have := (HBX.out i hi).1; rw [this]; simp; omega)
  have hBX := below_cells (g := w.heap.size) HB1.out (Nat.le_refl _) [.string r0, .string r1, .string r2, .string r3, .string r4, .string r5, .string r6, .int .i64 r7, .string r8, .string r9, .func (.func q) #[] #[]] 0
  obtain ⟨X, hX⟩ : ∃ X, X = w1.setCells w.heap.size 0 [.string r0, .string r1, .string r2, .string r3, .string r4, .string r5, .string r6, .int .i64 r7, .string r8, .string r9, .func (.func q) #[] #[]] := ⟨_, rfl⟩
  rw [← hX] at hcs hBX
  simp only [World.setCells, Nat.zero_add, Nat.reduceAdd] at hX
  rw [← hX]
  clear hX HBX HB1
  refine bodyPost_ret (v := .tuple #[.agg #[.string r0, .string r1, .string r2, .string r3, .string r4, .string r5, .string r6, .int .i64 r7, .string r8, .string r9, .func (.func q) #[] #[]], .int .i64 0]) ?_ rfl ⟨rfl, hBX⟩
  rw [results_cell_tmp rfl]
  simp only [Array.getD_eq_getD_getElem?, List.getElem?_toArray, List.getElem?_cons_succ, List.getElem?_cons_zero, Option.getD_some, asAddr, Sem.run_pure, Result.andThen]
  rw [load11 _ _ rfl hcs]
set_option maxHeartbeats 4000000 in
set_option maxRecDepth 100000 in
theorem rowOf_no (k : Int) (hk : k < 0 ∨ 14 ≤ k) (w : World) : Calls Tryd.prog 38 #[.int .i64 k] w fun e w' => e = .returned (.tuple #[noV, .int .i64 1]) ∧ Below w.heap.size w w' := by
  have hsn := st_nil
  by_cases h0 : k < 0
  · go_enter Tryd.func38, Tryd.ntmps38
    go_wp2
    exact bodyPost_ret (v := .tuple #[noV, .int .i64 1]) (by simp [results, Tryd.results38, go_sem, noV]) rfl ⟨rfl, (Below.refl _ _).alloc (Nat.le_refl _) _⟩
  · have h14 : ¬ k < 14 := by omega
    go_enter Tryd.func38, Tryd.ntmps38
    go_wp2
    exact bodyPost_ret (v := .tuple #[noV, .int .i64 1]) (by simp [results, Tryd.results38, go_sem, noV]) rfl ⟨rfl, (Below.refl _ _).alloc (Nat.le_refl _) _⟩
end Go.Proofs.YthjkcncfppndkaaDoor
