/- Rows with positions, Positions, Pilots and Next of package part. -/
import Derived.Test.YthjkcncfppndkaaDoorGB
namespace Pt
/-- The position behind pilots, and whether they contradict. -/
def nextV (r : Row) (p : Int) (x y : Bool) : Int × Bool := if r.plus = ⟨#[]⟩ then (p, false) else if r.minus ≠ ⟨#[]⟩ ∧ x = y then (p, x) else if x then (1, false) else (0, false)
/-- The error of a kind and a position. -/
def inE (k p : Int) : Int := if k < 0 ∨ 14 ≤ k then 1 else if p < 0 ∨ (cat k.toNat).pos ≤ p then 2 else 0
end Pt
namespace Go.Proofs.YthjkcncfppndkaaDoor
open Go.RowKit
theorem no_txt {s : ByteArray} (h : ¬ s = ⟨#[]⟩) : ¬ s.toList = [] := fun e => h (by
  rw [ByteArray.toList_eq] at e
  obtain ⟨⟨l⟩⟩ := s
  simp only at e
  subst e
  rfl)
theorem no_txt2 {s : ByteArray} (h : ¬ s = ⟨#[]⟩) : s.toList.isEmpty = false := by
  have := no_txt h
  cases e : s.toList with
  | nil => exact absurd e this
  | cons a l => rfl
theorem size_cells (g : Nat) : ∀ (xs : List Value) (o : Nat) (w : World), w.heap.size ≤ (w.setCells g o xs).heap.size
  | [], _, _ => Nat.le_refl _
  | v :: r, o, w => Nat.le_trans (by simp [World.setCell]) (size_cells g r (o + 1) (w.setCell ⟨g, o, none⟩ v))
theorem ret11 {fn : Func} {p u : Tmp} {W : World} (g : Nat) (xs : List Value) (hl : xs.length = 11) (h : ∀ j v, xs[j]? = some v → W.cell? ⟨g, j, none⟩ = some v) (tmps : Array Value) (hp : tmps.getD p undef = .pointer (some ⟨g, 0, none⟩)) (e : Value) (he : tmps.getD u undef = e) (hf : fn.results = #[.cell p 83, .tmp u]) :
    (results fn tmps).run Tryd.prog W = .ok (.tuple #[.agg xs.toArray, e]) W := by
  rw [results_cell_tmp hf, hp, he]
  simp only [asAddr, Sem.run_pure, Result.andThen]
  rw [load11 g xs hl h]
set_option maxHeartbeats 4000000 in
set_option maxRecDepth 100000 in
theorem rowIn_any (k : Nat) (p : Int) (hk : k < 14) (h0 : 0 ≤ p) (h1 : p < (Pt.cat k).pos) (w : World) : Calls Tryd.prog 49 #[.int .i64 (k : Int), .int .i64 p] w fun e w' => e = .returned (.tuple #[Pt.rowV (Pt.cat k), .int .i64 0]) ∧ Below w.heap.size w w' := by
  have CR := fun W => rowOf_any k hk W
  have hsf := st_fn
  generalize Pt.cat k = r at *
  obtain ⟨r0, r1, r2, r3, r4, r5, r6, r7, r8, r9, r10⟩ := r
  simp only [Pt.rowV, Pt.rowC] at CR ⊢
  generalize Pt.Eff.fn r10 = q at *
  have HB := Lib.hid ((Below.refl w.heap.size w).alloc (Nat.le_refl _) (.cells #[.string ⟨#[]⟩, .string ⟨#[]⟩, .string ⟨#[]⟩, .string ⟨#[]⟩, .string ⟨#[]⟩, .string ⟨#[]⟩, .string ⟨#[]⟩, .int .i64 0, .string ⟨#[]⟩, .string ⟨#[]⟩, .nilFunc] 83))
  go_enter Tryd.func49, Tryd.ntmps49
  go_wp2_with fail
  refine (CR _).mono ?_
  rintro e w1 ⟨rfl, hb1⟩
  have BX := box11 #[.string ⟨#[]⟩, .string ⟨#[]⟩, .string ⟨#[]⟩, .string ⟨#[]⟩, .string ⟨#[]⟩, .string ⟨#[]⟩, .string ⟨#[]⟩, .int .i64 0, .string ⟨#[]⟩, .string ⟨#[]⟩, .nilFunc] rfl hb1
  have HB1 := Lib.hid (below_nxt HB.out hb1)
  have c0 : w1.cell? ⟨w.heap.size, 0, none⟩ = some (.string ⟨#[]⟩) := (BX 0 (by omega)).1
  have f0 : w1.frozen? ⟨w.heap.size, 0, none⟩ = false := (BX 0 (by omega)).2
  have c1 : w1.cell? ⟨w.heap.size, 1, none⟩ = some (.string ⟨#[]⟩) := (BX 1 (by omega)).1
  have f1 : w1.frozen? ⟨w.heap.size, 1, none⟩ = false := (BX 1 (by omega)).2
  have c2 : w1.cell? ⟨w.heap.size, 2, none⟩ = some (.string ⟨#[]⟩) := (BX 2 (by omega)).1
  have f2 : w1.frozen? ⟨w.heap.size, 2, none⟩ = false := (BX 2 (by omega)).2
  have c3 : w1.cell? ⟨w.heap.size, 3, none⟩ = some (.string ⟨#[]⟩) := (BX 3 (by omega)).1
  have f3 : w1.frozen? ⟨w.heap.size, 3, none⟩ = false := (BX 3 (by omega)).2
  have c4 : w1.cell? ⟨w.heap.size, 4, none⟩ = some (.string ⟨#[]⟩) := (BX 4 (by omega)).1
  have f4 : w1.frozen? ⟨w.heap.size, 4, none⟩ = false := (BX 4 (by omega)).2
  have c5 : w1.cell? ⟨w.heap.size, 5, none⟩ = some (.string ⟨#[]⟩) := (BX 5 (by omega)).1
  have f5 : w1.frozen? ⟨w.heap.size, 5, none⟩ = false := (BX 5 (by omega)).2
  have c6 : w1.cell? ⟨w.heap.size, 6, none⟩ = some (.string ⟨#[]⟩) := (BX 6 (by omega)).1
  have f6 : w1.frozen? ⟨w.heap.size, 6, none⟩ = false := (BX 6 (by omega)).2
  have c7 : w1.cell? ⟨w.heap.size, 7, none⟩ = some (.int .i64 0) := (BX 7 (by omega)).1
  have f7 : w1.frozen? ⟨w.heap.size, 7, none⟩ = false := (BX 7 (by omega)).2
  have c8 : w1.cell? ⟨w.heap.size, 8, none⟩ = some (.string ⟨#[]⟩) := (BX 8 (by omega)).1
  have f8 : w1.frozen? ⟨w.heap.size, 8, none⟩ = false := (BX 8 (by omega)).2
  have c9 : w1.cell? ⟨w.heap.size, 9, none⟩ = some (.string ⟨#[]⟩) := (BX 9 (by omega)).1
  have f9 : w1.frozen? ⟨w.heap.size, 9, none⟩ = false := (BX 9 (by omega)).2
  have c10 : w1.cell? ⟨w.heap.size, 10, none⟩ = some (.nilFunc) := (BX 10 (by omega)).1
  have f10 : w1.frozen? ⟨w.heap.size, 10, none⟩ = false := (BX 10 (by omega)).2
  have hg : w.heap.size < w1.heap.size := Nat.lt_of_lt_of_le (by simp) hb1.size
  have HBX := Lib.hid BX
  clear hb1 HB BX
  go_wp2
  have hcs := cells11 w1 w.heap.size [.string r0, .string r1, .string r2, .string r3, .string r4, .string r5, .string r6, .int .i64 r7, .string r8, .string r9, .func (.func q) #[] #[]] rfl (fun i hi => by rw [(HBX.out i hi).1]; simp; omega)
  have hBX := below_cells (g := w.heap.size) HB1.out (Nat.le_refl _) [.string r0, .string r1, .string r2, .string r3, .string r4, .string r5, .string r6, .int .i64 r7, .string r8, .string r9, .func (.func q) #[] #[]] 0
  obtain ⟨X, hX⟩ : ∃ X, X = w1.setCells w.heap.size 0 [.string r0, .string r1, .string r2, .string r3, .string r4, .string r5, .string r6, .int .i64 r7, .string r8, .string r9, .func (.func q) #[] #[]] := ⟨_, rfl⟩
  have hgX : w.heap.size < X.heap.size := by rw [hX]; exact Nat.lt_of_lt_of_le hg (size_cells _ _ _ _)
  rw [← hX] at hcs hBX
  simp only [World.setCells, Nat.zero_add, Nat.reduceAdd] at hX
  rw [← hX]
  have LX : Below X.heap.size X (X.alloc (.cells #[.string r0, .string r1, .string r2, .string r3, .string r4, .string r5, .string r6, .int .i64 r7, .string r8, .string r9, .func (.func q) #[] #[]] 83)) := (Below.refl _ _).alloc (Nat.le_refl _) _
  have hcs2 := fun j v hv => (LX.cell (p := ⟨w.heap.size, j, none⟩) hgX).trans (hcs j v hv)
  have hBX2 := below_nxt hBX LX
  clear hX hcs hBX HBX
  generalize X.alloc (.cells #[.string r0, .string r1, .string r2, .string r3, .string r4, .string r5, .string r6, .int .i64 r7, .string r8, .string r9, .func (.func q) #[] #[]] 83) = X2 at *
  exact bodyPost_ret (v := .tuple #[.agg #[.string r0, .string r1, .string r2, .string r3, .string r4, .string r5, .string r6, .int .i64 r7, .string r8, .string r9, .func (.func q) #[] #[]], .int .i64 0]) (ret11 (p := 4) (u := 5) w.heap.size [.string r0, .string r1, .string r2, .string r3, .string r4, .string r5, .string r6, .int .i64 r7, .string r8, .string r9, .func (.func q) #[] #[]] rfl hcs2 _ rfl _ rfl rfl) rfl ⟨rfl, hBX2⟩
set_option maxHeartbeats 4000000 in
set_option maxRecDepth 100000 in
theorem rowIn_pos (k : Nat) (p : Int) (hk : k < 14) (h : p < 0 ∨ (Pt.cat k).pos ≤ p) (w : World) : Calls Tryd.prog 49 #[.int .i64 (k : Int), .int .i64 p] w fun e w' => e = .returned (.tuple #[noV, .int .i64 2]) ∧ Below w.heap.size w w' := by
  have CR := fun W => rowOf_any k hk W
  have hsf := st_fn
  have hsn := st_nil
  generalize Pt.cat k = r at *
  obtain ⟨r0, r1, r2, r3, r4, r5, r6, r7, r8, r9, r10⟩ := r
  simp only [Pt.rowV, Pt.rowC] at CR ⊢
  generalize Pt.Eff.fn r10 = q at *
  by_cases h0 : p < 0
  · have HB := Lib.hid ((Below.refl w.heap.size w).alloc (Nat.le_refl _) (.cells #[.string ⟨#[]⟩, .string ⟨#[]⟩, .string ⟨#[]⟩, .string ⟨#[]⟩, .string ⟨#[]⟩, .string ⟨#[]⟩, .string ⟨#[]⟩, .int .i64 0, .string ⟨#[]⟩, .string ⟨#[]⟩, .nilFunc] 83))
    go_enter Tryd.func49, Tryd.ntmps49
    go_wp2_with fail
    refine (CR _).mono ?_
    rintro e w1 ⟨rfl, hb1⟩
    have BX := box11 #[.string ⟨#[]⟩, .string ⟨#[]⟩, .string ⟨#[]⟩, .string ⟨#[]⟩, .string ⟨#[]⟩, .string ⟨#[]⟩, .string ⟨#[]⟩, .int .i64 0, .string ⟨#[]⟩, .string ⟨#[]⟩, .nilFunc] rfl hb1
    have HB1 := Lib.hid (below_nxt HB.out hb1)
    have c0 : w1.cell? ⟨w.heap.size, 0, none⟩ = some (.string ⟨#[]⟩) := (BX 0 (by omega)).1
    have f0 : w1.frozen? ⟨w.heap.size, 0, none⟩ = false := (BX 0 (by omega)).2
    have c1 : w1.cell? ⟨w.heap.size, 1, none⟩ = some (.string ⟨#[]⟩) := (BX 1 (by omega)).1
    have f1 : w1.frozen? ⟨w.heap.size, 1, none⟩ = false := (BX 1 (by omega)).2
    have c2 : w1.cell? ⟨w.heap.size, 2, none⟩ = some (.string ⟨#[]⟩) := (BX 2 (by omega)).1
    have f2 : w1.frozen? ⟨w.heap.size, 2, none⟩ = false := (BX 2 (by omega)).2
    have c3 : w1.cell? ⟨w.heap.size, 3, none⟩ = some (.string ⟨#[]⟩) := (BX 3 (by omega)).1
    have f3 : w1.frozen? ⟨w.heap.size, 3, none⟩ = false := (BX 3 (by omega)).2
    have c4 : w1.cell? ⟨w.heap.size, 4, none⟩ = some (.string ⟨#[]⟩) := (BX 4 (by omega)).1
    have f4 : w1.frozen? ⟨w.heap.size, 4, none⟩ = false := (BX 4 (by omega)).2
    have c5 : w1.cell? ⟨w.heap.size, 5, none⟩ = some (.string ⟨#[]⟩) := (BX 5 (by omega)).1
    have f5 : w1.frozen? ⟨w.heap.size, 5, none⟩ = false := (BX 5 (by omega)).2
    have c6 : w1.cell? ⟨w.heap.size, 6, none⟩ = some (.string ⟨#[]⟩) := (BX 6 (by omega)).1
    have f6 : w1.frozen? ⟨w.heap.size, 6, none⟩ = false := (BX 6 (by omega)).2
    have c7 : w1.cell? ⟨w.heap.size, 7, none⟩ = some (.int .i64 0) := (BX 7 (by omega)).1
    have f7 : w1.frozen? ⟨w.heap.size, 7, none⟩ = false := (BX 7 (by omega)).2
    have c8 : w1.cell? ⟨w.heap.size, 8, none⟩ = some (.string ⟨#[]⟩) := (BX 8 (by omega)).1
    have f8 : w1.frozen? ⟨w.heap.size, 8, none⟩ = false := (BX 8 (by omega)).2
    have c9 : w1.cell? ⟨w.heap.size, 9, none⟩ = some (.string ⟨#[]⟩) := (BX 9 (by omega)).1
    have f9 : w1.frozen? ⟨w.heap.size, 9, none⟩ = false := (BX 9 (by omega)).2
    have c10 : w1.cell? ⟨w.heap.size, 10, none⟩ = some (.nilFunc) := (BX 10 (by omega)).1
    have f10 : w1.frozen? ⟨w.heap.size, 10, none⟩ = false := (BX 10 (by omega)).2
    have hg : w.heap.size < w1.heap.size := Nat.lt_of_lt_of_le (by simp) hb1.size
    have HBX := Lib.hid BX
    clear hb1 HB BX
    go_wp2
    have hcs := cells11 w1 w.heap.size [.string ⟨#[]⟩, .string ⟨#[]⟩, .string ⟨#[]⟩, .string ⟨#[]⟩, .string ⟨#[]⟩, .string ⟨#[]⟩, .string ⟨#[]⟩, .int .i64 0, .string ⟨#[]⟩, .string ⟨#[]⟩, .nilFunc] rfl (fun i hi => by rw [(HBX.out i hi).1]; simp; omega)
    have hBX := below_cells (g := w.heap.size) HB1.out (Nat.le_refl _) [.string ⟨#[]⟩, .string ⟨#[]⟩, .string ⟨#[]⟩, .string ⟨#[]⟩, .string ⟨#[]⟩, .string ⟨#[]⟩, .string ⟨#[]⟩, .int .i64 0, .string ⟨#[]⟩, .string ⟨#[]⟩, .nilFunc] 0
    obtain ⟨X, hX⟩ : ∃ X, X = w1.setCells w.heap.size 0 [.string ⟨#[]⟩, .string ⟨#[]⟩, .string ⟨#[]⟩, .string ⟨#[]⟩, .string ⟨#[]⟩, .string ⟨#[]⟩, .string ⟨#[]⟩, .int .i64 0, .string ⟨#[]⟩, .string ⟨#[]⟩, .nilFunc] := ⟨_, rfl⟩
    have hgX : w.heap.size < X.heap.size := by rw [hX]; exact Nat.lt_of_lt_of_le hg (size_cells _ _ _ _)
    rw [← hX] at hcs hBX
    simp only [World.setCells, Nat.zero_add, Nat.reduceAdd] at hX
    rw [← hX]
    have LX : Below X.heap.size X (X.alloc (.cells #[.string r0, .string r1, .string r2, .string r3, .string r4, .string r5, .string r6, .int .i64 r7, .string r8, .string r9, .func (.func q) #[] #[]] 83)) := (Below.refl _ _).alloc (Nat.le_refl _) _
    have hcs2 := fun j v hv => (LX.cell (p := ⟨w.heap.size, j, none⟩) hgX).trans (hcs j v hv)
    have hBX2 := below_nxt hBX LX
    clear hX hcs hBX HBX
    generalize X.alloc (.cells #[.string r0, .string r1, .string r2, .string r3, .string r4, .string r5, .string r6, .int .i64 r7, .string r8, .string r9, .func (.func q) #[] #[]] 83) = X2 at *
    exact bodyPost_ret (v := .tuple #[.agg #[.string ⟨#[]⟩, .string ⟨#[]⟩, .string ⟨#[]⟩, .string ⟨#[]⟩, .string ⟨#[]⟩, .string ⟨#[]⟩, .string ⟨#[]⟩, .int .i64 0, .string ⟨#[]⟩, .string ⟨#[]⟩, .nilFunc], .int .i64 2]) (ret11 (p := 4) (u := 5) w.heap.size [.string ⟨#[]⟩, .string ⟨#[]⟩, .string ⟨#[]⟩, .string ⟨#[]⟩, .string ⟨#[]⟩, .string ⟨#[]⟩, .string ⟨#[]⟩, .int .i64 0, .string ⟨#[]⟩, .string ⟨#[]⟩, .nilFunc] rfl hcs2 _ rfl _ rfl rfl) rfl ⟨rfl, hBX2⟩
  · have h2 : ¬ p < r7 := by first | omega | (simp only at h; omega)
    clear h
    have HB := Lib.hid ((Below.refl w.heap.size w).alloc (Nat.le_refl _) (.cells #[.string ⟨#[]⟩, .string ⟨#[]⟩, .string ⟨#[]⟩, .string ⟨#[]⟩, .string ⟨#[]⟩, .string ⟨#[]⟩, .string ⟨#[]⟩, .int .i64 0, .string ⟨#[]⟩, .string ⟨#[]⟩, .nilFunc] 83))
    go_enter Tryd.func49, Tryd.ntmps49
    go_wp2_with fail
    refine (CR _).mono ?_
    rintro e w1 ⟨rfl, hb1⟩
    have BX := box11 #[.string ⟨#[]⟩, .string ⟨#[]⟩, .string ⟨#[]⟩, .string ⟨#[]⟩, .string ⟨#[]⟩, .string ⟨#[]⟩, .string ⟨#[]⟩, .int .i64 0, .string ⟨#[]⟩, .string ⟨#[]⟩, .nilFunc] rfl hb1
    have HB1 := Lib.hid (below_nxt HB.out hb1)
    have c0 : w1.cell? ⟨w.heap.size, 0, none⟩ = some (.string ⟨#[]⟩) := (BX 0 (by omega)).1
    have f0 : w1.frozen? ⟨w.heap.size, 0, none⟩ = false := (BX 0 (by omega)).2
    have c1 : w1.cell? ⟨w.heap.size, 1, none⟩ = some (.string ⟨#[]⟩) := (BX 1 (by omega)).1
    have f1 : w1.frozen? ⟨w.heap.size, 1, none⟩ = false := (BX 1 (by omega)).2
    have c2 : w1.cell? ⟨w.heap.size, 2, none⟩ = some (.string ⟨#[]⟩) := (BX 2 (by omega)).1
    have f2 : w1.frozen? ⟨w.heap.size, 2, none⟩ = false := (BX 2 (by omega)).2
    have c3 : w1.cell? ⟨w.heap.size, 3, none⟩ = some (.string ⟨#[]⟩) := (BX 3 (by omega)).1
    have f3 : w1.frozen? ⟨w.heap.size, 3, none⟩ = false := (BX 3 (by omega)).2
    have c4 : w1.cell? ⟨w.heap.size, 4, none⟩ = some (.string ⟨#[]⟩) := (BX 4 (by omega)).1
    have f4 : w1.frozen? ⟨w.heap.size, 4, none⟩ = false := (BX 4 (by omega)).2
    have c5 : w1.cell? ⟨w.heap.size, 5, none⟩ = some (.string ⟨#[]⟩) := (BX 5 (by omega)).1
    have f5 : w1.frozen? ⟨w.heap.size, 5, none⟩ = false := (BX 5 (by omega)).2
    have c6 : w1.cell? ⟨w.heap.size, 6, none⟩ = some (.string ⟨#[]⟩) := (BX 6 (by omega)).1
    have f6 : w1.frozen? ⟨w.heap.size, 6, none⟩ = false := (BX 6 (by omega)).2
    have c7 : w1.cell? ⟨w.heap.size, 7, none⟩ = some (.int .i64 0) := (BX 7 (by omega)).1
    have f7 : w1.frozen? ⟨w.heap.size, 7, none⟩ = false := (BX 7 (by omega)).2
    have c8 : w1.cell? ⟨w.heap.size, 8, none⟩ = some (.string ⟨#[]⟩) := (BX 8 (by omega)).1
    have f8 : w1.frozen? ⟨w.heap.size, 8, none⟩ = false := (BX 8 (by omega)).2
    have c9 : w1.cell? ⟨w.heap.size, 9, none⟩ = some (.string ⟨#[]⟩) := (BX 9 (by omega)).1
    have f9 : w1.frozen? ⟨w.heap.size, 9, none⟩ = false := (BX 9 (by omega)).2
    have c10 : w1.cell? ⟨w.heap.size, 10, none⟩ = some (.nilFunc) := (BX 10 (by omega)).1
    have f10 : w1.frozen? ⟨w.heap.size, 10, none⟩ = false := (BX 10 (by omega)).2
    have hg : w.heap.size < w1.heap.size := Nat.lt_of_lt_of_le (by simp) hb1.size
    have HBX := Lib.hid BX
    clear hb1 HB BX
    go_wp2
    have hcs := cells11 w1 w.heap.size [.string ⟨#[]⟩, .string ⟨#[]⟩, .string ⟨#[]⟩, .string ⟨#[]⟩, .string ⟨#[]⟩, .string ⟨#[]⟩, .string ⟨#[]⟩, .int .i64 0, .string ⟨#[]⟩, .string ⟨#[]⟩, .nilFunc] rfl (fun i hi => by rw [(HBX.out i hi).1]; simp; omega)
    have hBX := below_cells (g := w.heap.size) HB1.out (Nat.le_refl _) [.string ⟨#[]⟩, .string ⟨#[]⟩, .string ⟨#[]⟩, .string ⟨#[]⟩, .string ⟨#[]⟩, .string ⟨#[]⟩, .string ⟨#[]⟩, .int .i64 0, .string ⟨#[]⟩, .string ⟨#[]⟩, .nilFunc] 0
    obtain ⟨X, hX⟩ : ∃ X, X = w1.setCells w.heap.size 0 [.string ⟨#[]⟩, .string ⟨#[]⟩, .string ⟨#[]⟩, .string ⟨#[]⟩, .string ⟨#[]⟩, .string ⟨#[]⟩, .string ⟨#[]⟩, .int .i64 0, .string ⟨#[]⟩, .string ⟨#[]⟩, .nilFunc] := ⟨_, rfl⟩
    have hgX : w.heap.size < X.heap.size := by rw [hX]; exact Nat.lt_of_lt_of_le hg (size_cells _ _ _ _)
    rw [← hX] at hcs hBX
    simp only [World.setCells, Nat.zero_add, Nat.reduceAdd] at hX
    rw [← hX]
    have LX : Below X.heap.size X (X.alloc (.cells #[.string r0, .string r1, .string r2, .string r3, .string r4, .string r5, .string r6, .int .i64 r7, .string r8, .string r9, .func (.func q) #[] #[]] 83)) := (Below.refl _ _).alloc (Nat.le_refl _) _
    have hcs2 := fun j v hv => (LX.cell (p := ⟨w.heap.size, j, none⟩) hgX).trans (hcs j v hv)
    have hBX2 := below_nxt hBX LX
    clear hX hcs hBX HBX
    generalize X.alloc (.cells #[.string r0, .string r1, .string r2, .string r3, .string r4, .string r5, .string r6, .int .i64 r7, .string r8, .string r9, .func (.func q) #[] #[]] 83) = X2 at *
    exact bodyPost_ret (v := .tuple #[.agg #[.string ⟨#[]⟩, .string ⟨#[]⟩, .string ⟨#[]⟩, .string ⟨#[]⟩, .string ⟨#[]⟩, .string ⟨#[]⟩, .string ⟨#[]⟩, .int .i64 0, .string ⟨#[]⟩, .string ⟨#[]⟩, .nilFunc], .int .i64 2]) (ret11 (p := 4) (u := 5) w.heap.size [.string ⟨#[]⟩, .string ⟨#[]⟩, .string ⟨#[]⟩, .string ⟨#[]⟩, .string ⟨#[]⟩, .string ⟨#[]⟩, .string ⟨#[]⟩, .int .i64 0, .string ⟨#[]⟩, .string ⟨#[]⟩, .nilFunc] rfl hcs2 _ rfl _ rfl rfl) rfl ⟨rfl, hBX2⟩
set_option maxHeartbeats 4000000 in
set_option maxRecDepth 100000 in
theorem rowIn_no (k p : Int) (hk : k < 0 ∨ 14 ≤ k) (w : World) : Calls Tryd.prog 49 #[.int .i64 k, .int .i64 p] w fun e w' => e = .returned (.tuple #[noV, .int .i64 1]) ∧ Below w.heap.size w w' := by
  have CR := fun W => rowOf_no k hk W
  have hsn := st_nil
  simp only [noV] at CR
  have HB := Lib.hid ((Below.refl w.heap.size w).alloc (Nat.le_refl _) (.cells #[.string ⟨#[]⟩, .string ⟨#[]⟩, .string ⟨#[]⟩, .string ⟨#[]⟩, .string ⟨#[]⟩, .string ⟨#[]⟩, .string ⟨#[]⟩, .int .i64 0, .string ⟨#[]⟩, .string ⟨#[]⟩, .nilFunc] 83))
  go_enter Tryd.func49, Tryd.ntmps49
  go_wp2_with fail
  refine (CR _).mono ?_
  rintro e w1 ⟨rfl, hb1⟩
  have BX := box11 #[.string ⟨#[]⟩, .string ⟨#[]⟩, .string ⟨#[]⟩, .string ⟨#[]⟩, .string ⟨#[]⟩, .string ⟨#[]⟩, .string ⟨#[]⟩, .int .i64 0, .string ⟨#[]⟩, .string ⟨#[]⟩, .nilFunc] rfl hb1
  have HB1 := Lib.hid (below_nxt HB.out hb1)
  have c0 : w1.cell? ⟨w.heap.size, 0, none⟩ = some (.string ⟨#[]⟩) := (BX 0 (by omega)).1
  have f0 : w1.frozen? ⟨w.heap.size, 0, none⟩ = false := (BX 0 (by omega)).2
  have c1 : w1.cell? ⟨w.heap.size, 1, none⟩ = some (.string ⟨#[]⟩) := (BX 1 (by omega)).1
  have f1 : w1.frozen? ⟨w.heap.size, 1, none⟩ = false := (BX 1 (by omega)).2
  have c2 : w1.cell? ⟨w.heap.size, 2, none⟩ = some (.string ⟨#[]⟩) := (BX 2 (by omega)).1
  have f2 : w1.frozen? ⟨w.heap.size, 2, none⟩ = false := (BX 2 (by omega)).2
  have c3 : w1.cell? ⟨w.heap.size, 3, none⟩ = some (.string ⟨#[]⟩) := (BX 3 (by omega)).1
  have f3 : w1.frozen? ⟨w.heap.size, 3, none⟩ = false := (BX 3 (by omega)).2
  have c4 : w1.cell? ⟨w.heap.size, 4, none⟩ = some (.string ⟨#[]⟩) := (BX 4 (by omega)).1
  have f4 : w1.frozen? ⟨w.heap.size, 4, none⟩ = false := (BX 4 (by omega)).2
  have c5 : w1.cell? ⟨w.heap.size, 5, none⟩ = some (.string ⟨#[]⟩) := (BX 5 (by omega)).1
  have f5 : w1.frozen? ⟨w.heap.size, 5, none⟩ = false := (BX 5 (by omega)).2
  have c6 : w1.cell? ⟨w.heap.size, 6, none⟩ = some (.string ⟨#[]⟩) := (BX 6 (by omega)).1
  have f6 : w1.frozen? ⟨w.heap.size, 6, none⟩ = false := (BX 6 (by omega)).2
  have c7 : w1.cell? ⟨w.heap.size, 7, none⟩ = some (.int .i64 0) := (BX 7 (by omega)).1
  have f7 : w1.frozen? ⟨w.heap.size, 7, none⟩ = false := (BX 7 (by omega)).2
  have c8 : w1.cell? ⟨w.heap.size, 8, none⟩ = some (.string ⟨#[]⟩) := (BX 8 (by omega)).1
  have f8 : w1.frozen? ⟨w.heap.size, 8, none⟩ = false := (BX 8 (by omega)).2
  have c9 : w1.cell? ⟨w.heap.size, 9, none⟩ = some (.string ⟨#[]⟩) := (BX 9 (by omega)).1
  have f9 : w1.frozen? ⟨w.heap.size, 9, none⟩ = false := (BX 9 (by omega)).2
  have c10 : w1.cell? ⟨w.heap.size, 10, none⟩ = some (.nilFunc) := (BX 10 (by omega)).1
  have f10 : w1.frozen? ⟨w.heap.size, 10, none⟩ = false := (BX 10 (by omega)).2
  have hg : w.heap.size < w1.heap.size := Nat.lt_of_lt_of_le (by simp) hb1.size
  have HBX := Lib.hid BX
  clear hb1 HB BX
  go_wp2
  have hcs := cells11 w1 w.heap.size [.string ⟨#[]⟩, .string ⟨#[]⟩, .string ⟨#[]⟩, .string ⟨#[]⟩, .string ⟨#[]⟩, .string ⟨#[]⟩, .string ⟨#[]⟩, .int .i64 0, .string ⟨#[]⟩, .string ⟨#[]⟩, .nilFunc] rfl (fun i hi => by rw [(HBX.out i hi).1]; simp; omega)
  have hBX := below_cells (g := w.heap.size) HB1.out (Nat.le_refl _) [.string ⟨#[]⟩, .string ⟨#[]⟩, .string ⟨#[]⟩, .string ⟨#[]⟩, .string ⟨#[]⟩, .string ⟨#[]⟩, .string ⟨#[]⟩, .int .i64 0, .string ⟨#[]⟩, .string ⟨#[]⟩, .nilFunc] 0
  obtain ⟨X, hX⟩ : ∃ X, X = w1.setCells w.heap.size 0 [.string ⟨#[]⟩, .string ⟨#[]⟩, .string ⟨#[]⟩, .string ⟨#[]⟩, .string ⟨#[]⟩, .string ⟨#[]⟩, .string ⟨#[]⟩, .int .i64 0, .string ⟨#[]⟩, .string ⟨#[]⟩, .nilFunc] := ⟨_, rfl⟩
  have hgX : w.heap.size < X.heap.size := by rw [hX]; exact Nat.lt_of_lt_of_le hg (size_cells _ _ _ _)
  rw [← hX] at hcs hBX
  simp only [World.setCells, Nat.zero_add, Nat.reduceAdd] at hX
  rw [← hX]
  have LX : Below X.heap.size X (X.alloc (.cells #[.string ⟨#[]⟩, .string ⟨#[]⟩, .string ⟨#[]⟩, .string ⟨#[]⟩, .string ⟨#[]⟩, .string ⟨#[]⟩, .string ⟨#[]⟩, .int .i64 0, .string ⟨#[]⟩, .string ⟨#[]⟩, .nilFunc] 83)) := (Below.refl _ _).alloc (Nat.le_refl _) _
  have hcs2 := fun j v hv => (LX.cell (p := ⟨w.heap.size, j, none⟩) hgX).trans (hcs j v hv)
  have hBX2 := below_nxt hBX LX
  clear hX hcs hBX HBX
  generalize X.alloc (.cells #[.string ⟨#[]⟩, .string ⟨#[]⟩, .string ⟨#[]⟩, .string ⟨#[]⟩, .string ⟨#[]⟩, .string ⟨#[]⟩, .string ⟨#[]⟩, .int .i64 0, .string ⟨#[]⟩, .string ⟨#[]⟩, .nilFunc] 83) = X2 at *
  exact bodyPost_ret (v := .tuple #[.agg #[.string ⟨#[]⟩, .string ⟨#[]⟩, .string ⟨#[]⟩, .string ⟨#[]⟩, .string ⟨#[]⟩, .string ⟨#[]⟩, .string ⟨#[]⟩, .int .i64 0, .string ⟨#[]⟩, .string ⟨#[]⟩, .nilFunc], .int .i64 1]) (ret11 (p := 4) (u := 5) w.heap.size [.string ⟨#[]⟩, .string ⟨#[]⟩, .string ⟨#[]⟩, .string ⟨#[]⟩, .string ⟨#[]⟩, .string ⟨#[]⟩, .string ⟨#[]⟩, .int .i64 0, .string ⟨#[]⟩, .string ⟨#[]⟩, .nilFunc] rfl hcs2 _ rfl _ rfl rfl) rfl ⟨rfl, hBX2⟩
set_option maxHeartbeats 4000000 in
set_option maxRecDepth 100000 in
theorem pos_any (k : Nat) (hk : k < 14) (w : World) : Calls Tryd.prog 23 #[.int .i64 (k : Int)] w fun e w' => e = .returned (.tuple #[.int .i64 (Pt.cat k).pos, .int .i64 0]) ∧ Below w.heap.size w w' := by
  have CR := fun W => rowOf_any k hk W
  have hsf := st_fn
  generalize Pt.cat k = r at *
  obtain ⟨r0, r1, r2, r3, r4, r5, r6, r7, r8, r9, r10⟩ := r
  simp only [Pt.rowV, Pt.rowC] at CR ⊢
  generalize Pt.Eff.fn r10 = q at *
  go_enter Tryd.func23, Tryd.ntmps23
  go_wp2_with fail
  refine (CR _).mono ?_
  rintro e w1 ⟨rfl, hb1⟩
  have HB := Lib.hid (hb1.alloc hb1.size (.cells #[.string r0, .string r1, .string r2, .string r3, .string r4, .string r5, .string r6, .int .i64 r7, .string r8, .string r9, .func (.func q) #[] #[]] 83))
  clear hb1
  go_wp2
  exact bodyPost_ret (v := .tuple #[.int .i64 r7, .int .i64 0]) (by simp [results, Tryd.results23, go_sem]) rfl ⟨rfl, HB.out⟩
set_option maxHeartbeats 4000000 in
set_option maxRecDepth 100000 in
theorem pos_no (k : Int) (hk : k < 0 ∨ 14 ≤ k) (w : World) : Calls Tryd.prog 23 #[.int .i64 k] w fun e w' => e = .returned (.tuple #[.int .i64 0, .int .i64 1]) ∧ Below w.heap.size w w' := by
  have CR := fun W => rowOf_no k hk W
  have hsn := st_nil
  simp only [noV] at CR
  go_enter Tryd.func23, Tryd.ntmps23
  go_wp2_with fail
  refine (CR _).mono ?_
  rintro e w1 ⟨rfl, hb1⟩
  have HB := Lib.hid (hb1.alloc hb1.size (.cells #[.string ⟨#[]⟩, .string ⟨#[]⟩, .string ⟨#[]⟩, .string ⟨#[]⟩, .string ⟨#[]⟩, .string ⟨#[]⟩, .string ⟨#[]⟩, .int .i64 0, .string ⟨#[]⟩, .string ⟨#[]⟩, .nilFunc] 83))
  clear hb1
  go_wp2
  exact bodyPost_ret (v := .tuple #[.int .i64 0, .int .i64 1]) (by simp [results, Tryd.results23, go_sem]) rfl ⟨rfl, HB.out⟩
set_option maxHeartbeats 4000000 in
set_option maxRecDepth 100000 in
theorem pil_any (k : Nat) (hk : k < 14) (w : World) : Calls Tryd.prog 32 #[.int .i64 (k : Int)] w fun e w' => e = .returned (.tuple #[.string (Pt.cat k).plus, .string (Pt.cat k).minus, .int .i64 0]) ∧ Below w.heap.size w w' := by
  have CR := fun W => rowOf_any k hk W
  have hsf := st_fn
  generalize Pt.cat k = r at *
  obtain ⟨r0, r1, r2, r3, r4, r5, r6, r7, r8, r9, r10⟩ := r
  simp only [Pt.rowV, Pt.rowC] at CR ⊢
  generalize Pt.Eff.fn r10 = q at *
  go_enter Tryd.func32, Tryd.ntmps32
  go_wp2_with fail
  refine (CR _).mono ?_
  rintro e w1 ⟨rfl, hb1⟩
  have HB := Lib.hid (hb1.alloc hb1.size (.cells #[.string r0, .string r1, .string r2, .string r3, .string r4, .string r5, .string r6, .int .i64 r7, .string r8, .string r9, .func (.func q) #[] #[]] 83))
  clear hb1
  go_wp2
  go_quiet (fail)
  go_wp2
  exact bodyPost_ret (v := .tuple #[.string r8, .string r9, .int .i64 0]) (by simp [results, Tryd.results32, go_sem]) rfl ⟨rfl, HB.out.trans (below_drewN _ _)⟩
set_option maxHeartbeats 4000000 in
set_option maxRecDepth 100000 in
theorem pil_no (k : Int) (hk : k < 0 ∨ 14 ≤ k) (w : World) : Calls Tryd.prog 32 #[.int .i64 k] w fun e w' => e = .returned (.tuple #[.string ⟨#[]⟩, .string ⟨#[]⟩, .int .i64 1]) ∧ Below w.heap.size w w' := by
  have CR := fun W => rowOf_no k hk W
  have hsn := st_nil
  simp only [noV] at CR
  go_enter Tryd.func32, Tryd.ntmps32
  go_wp2_with fail
  refine (CR _).mono ?_
  rintro e w1 ⟨rfl, hb1⟩
  have HB := Lib.hid (hb1.alloc hb1.size (.cells #[.string ⟨#[]⟩, .string ⟨#[]⟩, .string ⟨#[]⟩, .string ⟨#[]⟩, .string ⟨#[]⟩, .string ⟨#[]⟩, .string ⟨#[]⟩, .int .i64 0, .string ⟨#[]⟩, .string ⟨#[]⟩, .nilFunc] 83))
  clear hb1
  go_wp2
  go_quiet (fail)
  go_wp2
  exact bodyPost_ret (v := .tuple #[.string ⟨#[]⟩, .string ⟨#[]⟩, .int .i64 1]) (by simp [results, Tryd.results32, go_sem]) rfl ⟨rfl, HB.out.trans (below_drewN _ _)⟩
set_option maxHeartbeats 4000000 in
set_option maxRecDepth 100000 in
theorem next_any (k : Nat) (p : Int) (x y : Bool) (hk : k < 14) (h0 : 0 ≤ p) (h1 : p < (Pt.cat k).pos) (w : World) : Calls Tryd.prog 34 #[.int .i64 (k : Int), .int .i64 p, .bool x, .bool y] w fun e w' => e = .returned (.tuple #[.int .i64 (Pt.nextV (Pt.cat k) p x y).1, .bool (Pt.nextV (Pt.cat k) p x y).2, .int .i64 0]) ∧ Below w.heap.size w w' := by
  have CR := fun W => rowIn_any k p hk h0 h1 W
  have hsf := st_fn
  clear h0 h1
  generalize Pt.cat k = r at *
  obtain ⟨r0, r1, r2, r3, r4, r5, r6, r7, r8, r9, r10⟩ := r
  simp only [Pt.rowV, Pt.rowC] at CR ⊢
  simp only [Pt.nextV]
  generalize Pt.Eff.fn r10 = q at *
  by_cases e8 : r8 = ⟨#[]⟩
  · subst e8
    go_enter Tryd.func34, Tryd.ntmps34
    go_wp2_with fail
    refine (CR _).mono ?_
    rintro e w1 ⟨rfl, hb1⟩
    have HB := Lib.hid (hb1.alloc hb1.size (.cells #[.string r0, .string r1, .string r2, .string r3, .string r4, .string r5, .string r6, .int .i64 r7, .string ⟨#[]⟩, .string r9, .func (.func q) #[] #[]] 83))
    clear hb1
    go_wp2
    exact bodyPost_ret (v := .tuple #[.int .i64 p, .bool false, .int .i64 0]) (by simp [results, Tryd.results34, go_sem]) rfl ⟨by simp, HB.out⟩
  · have t8 := no_txt e8
    have u8 := no_txt2 e8
    by_cases e9 : r9 = ⟨#[]⟩
    · subst e9
      cases x
      · go_enter Tryd.func34, Tryd.ntmps34
        go_wp2_with fail
        refine (CR _).mono ?_
        rintro e w1 ⟨rfl, hb1⟩
        have HB := Lib.hid (hb1.alloc hb1.size (.cells #[.string r0, .string r1, .string r2, .string r3, .string r4, .string r5, .string r6, .int .i64 r7, .string r8, .string ⟨#[]⟩, .func (.func q) #[] #[]] 83))
        clear hb1
        go_wp2
        exact bodyPost_ret (v := .tuple #[.int .i64 0, .bool false, .int .i64 0]) (by simp [results, Tryd.results34, go_sem]) rfl ⟨by first | simp | simp [e8] | simp [e9] | simp [e8, e9], HB.out⟩
      · go_enter Tryd.func34, Tryd.ntmps34
        go_wp2_with fail
        refine (CR _).mono ?_
        rintro e w1 ⟨rfl, hb1⟩
        have HB := Lib.hid (hb1.alloc hb1.size (.cells #[.string r0, .string r1, .string r2, .string r3, .string r4, .string r5, .string r6, .int .i64 r7, .string r8, .string ⟨#[]⟩, .func (.func q) #[] #[]] 83))
        clear hb1
        go_wp2
        exact bodyPost_ret (v := .tuple #[.int .i64 1, .bool false, .int .i64 0]) (by simp [results, Tryd.results34, go_sem]) rfl ⟨by first | simp | simp [e8] | simp [e9] | simp [e8, e9], HB.out⟩
    · have t9 := no_txt e9
      have u9 := no_txt2 e9
      cases x <;> cases y
      · go_enter Tryd.func34, Tryd.ntmps34
        go_wp2_with fail
        refine (CR _).mono ?_
        rintro e w1 ⟨rfl, hb1⟩
        have HB := Lib.hid (hb1.alloc hb1.size (.cells #[.string r0, .string r1, .string r2, .string r3, .string r4, .string r5, .string r6, .int .i64 r7, .string r8, .string r9, .func (.func q) #[] #[]] 83))
        clear hb1
        go_wp2
        exact bodyPost_ret (v := .tuple #[.int .i64 p, .bool false, .int .i64 0]) (by simp [results, Tryd.results34, go_sem]) rfl ⟨by first | simp | simp [e8] | simp [e9] | simp [e8, e9], HB.out⟩
      · go_enter Tryd.func34, Tryd.ntmps34
        go_wp2_with fail
        refine (CR _).mono ?_
        rintro e w1 ⟨rfl, hb1⟩
        have HB := Lib.hid (hb1.alloc hb1.size (.cells #[.string r0, .string r1, .string r2, .string r3, .string r4, .string r5, .string r6, .int .i64 r7, .string r8, .string r9, .func (.func q) #[] #[]] 83))
        clear hb1
        go_wp2
        exact bodyPost_ret (v := .tuple #[.int .i64 0, .bool false, .int .i64 0]) (by simp [results, Tryd.results34, go_sem]) rfl ⟨by first | simp | simp [e8] | simp [e9] | simp [e8, e9], HB.out⟩
      · go_enter Tryd.func34, Tryd.ntmps34
        go_wp2_with fail
        refine (CR _).mono ?_
        rintro e w1 ⟨rfl, hb1⟩
        have HB := Lib.hid (hb1.alloc hb1.size (.cells #[.string r0, .string r1, .string r2, .string r3, .string r4, .string r5, .string r6, .int .i64 r7, .string r8, .string r9, .func (.func q) #[] #[]] 83))
        clear hb1
        go_wp2
        exact bodyPost_ret (v := .tuple #[.int .i64 1, .bool false, .int .i64 0]) (by simp [results, Tryd.results34, go_sem]) rfl ⟨by first | simp | simp [e8] | simp [e9] | simp [e8, e9], HB.out⟩
      · go_enter Tryd.func34, Tryd.ntmps34
        go_wp2_with fail
        refine (CR _).mono ?_
        rintro e w1 ⟨rfl, hb1⟩
        have HB := Lib.hid (hb1.alloc hb1.size (.cells #[.string r0, .string r1, .string r2, .string r3, .string r4, .string r5, .string r6, .int .i64 r7, .string r8, .string r9, .func (.func q) #[] #[]] 83))
        clear hb1
        go_wp2
        exact bodyPost_ret (v := .tuple #[.int .i64 p, .bool true, .int .i64 0]) (by simp [results, Tryd.results34, go_sem]) rfl ⟨by first | simp | simp [e8] | simp [e9] | simp [e8, e9], HB.out⟩
set_option maxHeartbeats 4000000 in
set_option maxRecDepth 100000 in
theorem next_no (k p e : Int) (x y : Bool) (he : e = 1 ∨ e = 2) (w : World) (CR : ∀ W, Calls Tryd.prog 49 #[.int .i64 k, .int .i64 p] W fun r w' => r = .returned (.tuple #[noV, .int .i64 e]) ∧ Below W.heap.size W w') : Calls Tryd.prog 34 #[.int .i64 k, .int .i64 p, .bool x, .bool y] w fun r w' => r = .returned (.tuple #[.int .i64 0, .bool false, .int .i64 e]) ∧ Below w.heap.size w w' := by
  have hsn := st_nil
  simp only [noV] at CR
  have he1 : ¬ e = 0 := by omega
  clear he
  go_enter Tryd.func34, Tryd.ntmps34
  go_wp2_with fail
  refine (CR _).mono ?_
  rintro r w1 ⟨rfl, hb1⟩
  have HB := Lib.hid (hb1.alloc hb1.size (.cells #[.string ⟨#[]⟩, .string ⟨#[]⟩, .string ⟨#[]⟩, .string ⟨#[]⟩, .string ⟨#[]⟩, .string ⟨#[]⟩, .string ⟨#[]⟩, .int .i64 0, .string ⟨#[]⟩, .string ⟨#[]⟩, .nilFunc] 83))
  clear hb1
  go_wp2
  exact bodyPost_ret (v := .tuple #[.int .i64 0, .bool false, .int .i64 e]) (by simp [results, Tryd.results34, go_sem]) rfl ⟨rfl, HB.out⟩
end Go.Proofs.YthjkcncfppndkaaDoor
