/- The contracts of combine of package timespan, for each pair of functions. -/
import Derived.Test.YtgblodnggeabjabDoorTc
import Derived.Deep.RegionHeld3
namespace Go.Proofs.YtgblodnggeabjabDoor
open Go.RowKit

theorem set2 (w : World) (g b o : Nat) (h : b ≠ g) (x y : Value) : ((w.setCell ⟨g, 0, none⟩ x).setCell ⟨g, 1, none⟩ y).cell? ⟨b, o, none⟩ = w.cell? ⟨b, o, none⟩ :=
  World.cell?_of_block (by rw [Below.heap_setCell _ _ _ _ h, Below.heap_setCell _ _ _ _ h])
theorem set2d (w : World) (g b o : Nat) (h : b ≠ g) (x y : Value) : (((w.setCell ⟨g, 0, none⟩ x).setCell ⟨g, 1, none⟩ y).drew).cell? ⟨b, o, none⟩ = w.cell? ⟨b, o, none⟩ := set2 w g b o h x y
theorem tPlusF_any (x y : Int) (w : World) (h0 : -9223372036854775808 ≤ x + y) (h1 : x + y ≤ 9223372036854775807) : Calls Tryd.prog 42 #[.int .i64 x, .int .i64 y] w fun e w' => e = .returned (.int .i64 (Tm.plus x y)) ∧ w = w' := by
  have HE := Lib.hid (show Tm.plus x y = x + y from rfl)
  generalize Tm.plus x y = r at *
  go_enter Tryd.func42, Tryd.ntmps42
  go_wp2
  all_goals (go_ret; exact ⟨ret_int HE.out.symm, rfl⟩)
theorem tGreat_any (x y : Int) (w : World) : Calls Tryd.prog 49 #[.int .i64 x, .int .i64 y] w fun e w' => e = .returned (.int .i64 (Tm.great x y)) ∧ w = w' := by
  have HE := Lib.hid (show Tm.great x y = (if x < y then y else x) from rfl)
  generalize Tm.great x y = r at *
  go_enter Tryd.func49, Tryd.ntmps49
  go_wp2
  all_goals (go_ret; refine ⟨ret_int ?_, rfl⟩; rw [HE.out]; try split <;> omega)
theorem tLess_any (x y : Int) (w : World) : Calls Tryd.prog 51 #[.int .i64 x, .int .i64 y] w fun e w' => e = .returned (.int .i64 (Tm.less x y)) ∧ w = w' := by
  have HE := Lib.hid (show Tm.less x y = (if y < x then y else x) from rfl)
  generalize Tm.less x y = r at *
  go_enter Tryd.func51, Tryd.ntmps51
  go_wp2
  all_goals (go_ret; refine ⟨ret_int ?_, rfl⟩; rw [HE.out]; try split <;> omega)

/-- Two spans, a new variable for the result, and both in a list. -/
def W4 (w : World) (l h m k : Int) : World := (W3 w l h m k).alloc (.cells #[.int .i64 l, .int .i64 h, .int .i64 m, .int .i64 k] 23)
theorem w4_below (w : World) (l h m k : Int) : Below w.heap.size w (W4 w l h m k) := (w3_below w l h m k).alloc (by rw [w3_size]; omega) _
theorem w4_size (w : World) (l h m k : Int) : (W4 w l h m k).heap.size = w.heap.size + 1 + 1 + 1 + 1 := by simp [W4, w3_size]
theorem w4_facts (w : World) (l h m k : Int) {W : World} (hW : Below (W4 w l h m k).heap.size (W4 w l h m k) W) : PairI W w.heap.size l h ∧ PairI W (w.heap.size + 1) m k ∧ PairI W (w.heap.size + 1 + 1) 0 0 :=
  w3_facts w l h m k (((Below.refl _ _).alloc (Nat.le_refl _) _).trans (hW.mono (by rw [w4_size, w3_size]; omega)))
theorem w4_spans (w : World) (l h m k : Int) : SpansAt (W4 w l h m k) (some ⟨w.heap.size + 1 + 1 + 1, 0, none⟩) [(l, h), (m, k)] := fun _ => by
  refine ⟨_, _, rfl, by rw [w4_size]; omega, fun i hi => ?_⟩
  have e := w3_size w l h m k
  have h2 : i = 0 ∨ i = 1 := by simp at hi; omega
  unfold W4
  rw [← e]
  rcases h2 with rfl | rfl <;> simp

set_option maxRecDepth 100000 in
set_option maxHeartbeats 1000000 in
theorem tCombinePP_any (l h m k : Int) (w : World) :
    Calls Tryd.prog 43 #[.agg #[.int .i64 l, .int .i64 h], .agg #[.int .i64 m, .int .i64 k], .func (.func 42) #[] #[], .func (.func 42) #[] #[]] w fun e w' => e = .returned (.tuple #[.agg #[.int .i64 (Tm.opV Tm.plus Tm.plus l h m k).1.1, .int .i64 (Tm.opV Tm.plus Tm.plus l h m k).1.2], .int .i64 (Tm.opV Tm.plus Tm.plus l h m k).2]) ∧ Below w.heap.size w w' := by
  have hB0 := w4_below w l h m k
  have hs := hB0.size
  have HF := fun W hW => Lib.hid (w4_facts w l h m k (W := W) hW)
  have CC := Lib.hid (tCheckAll_any [(l, h), (m, k)] _ 2 _ (w4_spans w l h m k) (by simp))
  rw [Tm.firstE_two] at CC
  have EC : Tm.opV Tm.plus Tm.plus l h m k = if Tm.chk2 l h m k = 0 then ((Tm.plus l m, Tm.plus h k), 0) else ((0, 0), Tm.chk2 l h m k) := rfl
  have CF := fun (hz : Tm.chk2 l h m k = 0) (W : World) => Lib.hid (tPlusF_any l m W (by have := Tm.chk2_zero hz; omega) (by have := Tm.chk2_zero hz; omega))
  have CG := fun (hz : Tm.chk2 l h m k = 0) (W : World) => Lib.hid (tPlusF_any h k W (by have := Tm.chk2_zero hz; omega) (by have := Tm.chk2_zero hz; omega))
  generalize Tm.opV Tm.plus Tm.plus l h m k = r at *
  generalize Tm.chk2 l h m k = c at *
  generalize Tm.plus l m = x at *
  generalize Tm.plus h k = y at *
  have HE := Lib.hid EC
  clear EC
  unfold W4 W3 W2 at *
  go_enter Tryd.func43, Tryd.ntmps43
  go_wp2_with fail
  refine (CC.out).mono ?_
  rintro e w1 ⟨rfl, hb1⟩
  obtain ⟨⟨p0, p1, p2, p3, p4⟩, ⟨q0, q1, q2, q3, q4⟩, ⟨r0, r1, r2, r3, r4⟩⟩ := (HF _ hb1).out
  have hB1 := hB0.trans (hb1.mono hs)
  clear HF hb1 hs hB0 CC
  by_cases hc : c = 0
  · have DF := CF hc
    have DG := CG hc
    have HE1 := Lib.hid (HE.out.trans (if_pos hc))
    subst hc
    clear CF CG HE p3 p4 q3 q4
    go_wp2_with fail
    go_region_held3 (fun W => W.cell? ⟨w.heap.size, 0, none⟩ = some (.int .i64 l) ∧ W.cell? ⟨w.heap.size, 1, none⟩ = some (.int .i64 h) ∧ W.cell? ⟨w.heap.size + 1, 0, none⟩ = some (.int .i64 m) ∧ W.cell? ⟨w.heap.size + 1, 1, none⟩ = some (.int .i64 k))
      (first | (go_split_ands; refine ⟨?_, ?_, ?_, ?_⟩ <;> (rw [set2d _ _ _ _ (by omega)]; assumption)) | (go_split_ands; refine ⟨?_, ?_, ?_, ?_⟩ <;> (rw [set2 _ _ _ _ (by omega)]; assumption)) | (go_split_ands; refine ⟨?_, ?_, ?_, ?_⟩ <;> assumption) | go_keep)
      (first
        | (go_at_call 42; (with_reducible refine ((DF _).out).mono ?_); rintro e w2 ⟨rfl, rfl⟩)
        | (go_at_call 42; (with_reducible refine ((DG _).out).mono ?_); rintro e w2 ⟨rfl, rfl⟩))
    go_wp2
    have hfin := ((hB1.setCell (p := ⟨w.heap.size + 1 + 1, 0, none⟩) (by simp; omega) (.int .i64 x)).setCell (p := ⟨w.heap.size + 1 + 1, 1, none⟩) (by simp; omega) (.int .i64 y)).drew
    exact bodyPost_ret (v := .tuple #[.agg #[.int .i64 x, .int .i64 y], .int .i64 0]) (by simp [results, Tryd.results43, go_sem, r1, r2]) rfl ⟨end_span HE1.out, hfin⟩
  · have HE1 := Lib.hid (HE.out.trans (if_neg hc))
    have hne : (c != 0) = true := by simpa using hc
    clear CF CG HE hc
    go_wp2
    have hfin := (hB1.setCell (p := ⟨w.heap.size + 1 + 1, 0, none⟩) (by simp; omega) (.int .i64 0)).setCell (p := ⟨w.heap.size + 1 + 1, 1, none⟩) (by simp; omega) (.int .i64 0)
    exact bodyPost_ret (v := .tuple #[.agg #[.int .i64 0, .int .i64 0], .int .i64 c]) (by simp [results, Tryd.results43, go_sem, r1, r2]) rfl ⟨end_span HE1.out, hfin⟩

set_option maxRecDepth 100000 in
set_option maxHeartbeats 1000000 in
theorem tCombineGG_any (l h m k : Int) (w : World) :
    Calls Tryd.prog 43 #[.agg #[.int .i64 l, .int .i64 h], .agg #[.int .i64 m, .int .i64 k], .func (.func 49) #[] #[], .func (.func 49) #[] #[]] w fun e w' => e = .returned (.tuple #[.agg #[.int .i64 (Tm.opV Tm.great Tm.great l h m k).1.1, .int .i64 (Tm.opV Tm.great Tm.great l h m k).1.2], .int .i64 (Tm.opV Tm.great Tm.great l h m k).2]) ∧ Below w.heap.size w w' := by
  have hB0 := w4_below w l h m k
  have hs := hB0.size
  have HF := fun W hW => Lib.hid (w4_facts w l h m k (W := W) hW)
  have CC := Lib.hid (tCheckAll_any [(l, h), (m, k)] _ 2 _ (w4_spans w l h m k) (by simp))
  rw [Tm.firstE_two] at CC
  have EC : Tm.opV Tm.great Tm.great l h m k = if Tm.chk2 l h m k = 0 then ((Tm.great l m, Tm.great h k), 0) else ((0, 0), Tm.chk2 l h m k) := rfl
  have CF := fun (_ : Tm.chk2 l h m k = 0) (W : World) => Lib.hid (tGreat_any l m W)
  have CG := fun (_ : Tm.chk2 l h m k = 0) (W : World) => Lib.hid (tGreat_any h k W)
  generalize Tm.opV Tm.great Tm.great l h m k = r at *
  generalize Tm.chk2 l h m k = c at *
  generalize Tm.great l m = x at *
  generalize Tm.great h k = y at *
  have HE := Lib.hid EC
  clear EC
  unfold W4 W3 W2 at *
  go_enter Tryd.func43, Tryd.ntmps43
  go_wp2_with fail
  refine (CC.out).mono ?_
  rintro e w1 ⟨rfl, hb1⟩
  obtain ⟨⟨p0, p1, p2, p3, p4⟩, ⟨q0, q1, q2, q3, q4⟩, ⟨r0, r1, r2, r3, r4⟩⟩ := (HF _ hb1).out
  have hB1 := hB0.trans (hb1.mono hs)
  clear HF hb1 hs hB0 CC
  by_cases hc : c = 0
  · have DF := CF hc
    have DG := CG hc
    have HE1 := Lib.hid (HE.out.trans (if_pos hc))
    subst hc
    clear CF CG HE p3 p4 q3 q4
    go_wp2_with fail
    go_region_held3 (fun W => W.cell? ⟨w.heap.size, 0, none⟩ = some (.int .i64 l) ∧ W.cell? ⟨w.heap.size, 1, none⟩ = some (.int .i64 h) ∧ W.cell? ⟨w.heap.size + 1, 0, none⟩ = some (.int .i64 m) ∧ W.cell? ⟨w.heap.size + 1, 1, none⟩ = some (.int .i64 k))
      (first | (go_split_ands; refine ⟨?_, ?_, ?_, ?_⟩ <;> (rw [set2d _ _ _ _ (by omega)]; assumption)) | (go_split_ands; refine ⟨?_, ?_, ?_, ?_⟩ <;> (rw [set2 _ _ _ _ (by omega)]; assumption)) | (go_split_ands; refine ⟨?_, ?_, ?_, ?_⟩ <;> assumption) | go_keep)
      (first
        | (go_at_call 49; (with_reducible refine ((DF _).out).mono ?_); rintro e w2 ⟨rfl, rfl⟩)
        | (go_at_call 49; (with_reducible refine ((DG _).out).mono ?_); rintro e w2 ⟨rfl, rfl⟩))
    go_wp2
    have hfin := ((hB1.setCell (p := ⟨w.heap.size + 1 + 1, 0, none⟩) (by simp; omega) (.int .i64 x)).setCell (p := ⟨w.heap.size + 1 + 1, 1, none⟩) (by simp; omega) (.int .i64 y)).drew
    exact bodyPost_ret (v := .tuple #[.agg #[.int .i64 x, .int .i64 y], .int .i64 0]) (by simp [results, Tryd.results43, go_sem, r1, r2]) rfl ⟨end_span HE1.out, hfin⟩
  · have HE1 := Lib.hid (HE.out.trans (if_neg hc))
    have hne : (c != 0) = true := by simpa using hc
    clear CF CG HE hc
    go_wp2
    have hfin := (hB1.setCell (p := ⟨w.heap.size + 1 + 1, 0, none⟩) (by simp; omega) (.int .i64 0)).setCell (p := ⟨w.heap.size + 1 + 1, 1, none⟩) (by simp; omega) (.int .i64 0)
    exact bodyPost_ret (v := .tuple #[.agg #[.int .i64 0, .int .i64 0], .int .i64 c]) (by simp [results, Tryd.results43, go_sem, r1, r2]) rfl ⟨end_span HE1.out, hfin⟩

set_option maxRecDepth 100000 in
set_option maxHeartbeats 1000000 in
theorem tCombineLL_any (l h m k : Int) (w : World) :
    Calls Tryd.prog 43 #[.agg #[.int .i64 l, .int .i64 h], .agg #[.int .i64 m, .int .i64 k], .func (.func 51) #[] #[], .func (.func 51) #[] #[]] w fun e w' => e = .returned (.tuple #[.agg #[.int .i64 (Tm.opV Tm.less Tm.less l h m k).1.1, .int .i64 (Tm.opV Tm.less Tm.less l h m k).1.2], .int .i64 (Tm.opV Tm.less Tm.less l h m k).2]) ∧ Below w.heap.size w w' := by
  have hB0 := w4_below w l h m k
  have hs := hB0.size
  have HF := fun W hW => Lib.hid (w4_facts w l h m k (W := W) hW)
  have CC := Lib.hid (tCheckAll_any [(l, h), (m, k)] _ 2 _ (w4_spans w l h m k) (by simp))
  rw [Tm.firstE_two] at CC
  have EC : Tm.opV Tm.less Tm.less l h m k = if Tm.chk2 l h m k = 0 then ((Tm.less l m, Tm.less h k), 0) else ((0, 0), Tm.chk2 l h m k) := rfl
  have CF := fun (_ : Tm.chk2 l h m k = 0) (W : World) => Lib.hid (tLess_any l m W)
  have CG := fun (_ : Tm.chk2 l h m k = 0) (W : World) => Lib.hid (tLess_any h k W)
  generalize Tm.opV Tm.less Tm.less l h m k = r at *
  generalize Tm.chk2 l h m k = c at *
  generalize Tm.less l m = x at *
  generalize Tm.less h k = y at *
  have HE := Lib.hid EC
  clear EC
  unfold W4 W3 W2 at *
  go_enter Tryd.func43, Tryd.ntmps43
  go_wp2_with fail
  refine (CC.out).mono ?_
  rintro e w1 ⟨rfl, hb1⟩
  obtain ⟨⟨p0, p1, p2, p3, p4⟩, ⟨q0, q1, q2, q3, q4⟩, ⟨r0, r1, r2, r3, r4⟩⟩ := (HF _ hb1).out
  have hB1 := hB0.trans (hb1.mono hs)
  clear HF hb1 hs hB0 CC
  by_cases hc : c = 0
  · have DF := CF hc
    have DG := CG hc
    have HE1 := Lib.hid (HE.out.trans (if_pos hc))
    subst hc
    clear CF CG HE p3 p4 q3 q4
    go_wp2_with fail
    go_region_held3 (fun W => W.cell? ⟨w.heap.size, 0, none⟩ = some (.int .i64 l) ∧ W.cell? ⟨w.heap.size, 1, none⟩ = some (.int .i64 h) ∧ W.cell? ⟨w.heap.size + 1, 0, none⟩ = some (.int .i64 m) ∧ W.cell? ⟨w.heap.size + 1, 1, none⟩ = some (.int .i64 k))
      (first | (go_split_ands; refine ⟨?_, ?_, ?_, ?_⟩ <;> (rw [set2d _ _ _ _ (by omega)]; assumption)) | (go_split_ands; refine ⟨?_, ?_, ?_, ?_⟩ <;> (rw [set2 _ _ _ _ (by omega)]; assumption)) | (go_split_ands; refine ⟨?_, ?_, ?_, ?_⟩ <;> assumption) | go_keep)
      (first
        | (go_at_call 51; (with_reducible refine ((DF _).out).mono ?_); rintro e w2 ⟨rfl, rfl⟩)
        | (go_at_call 51; (with_reducible refine ((DG _).out).mono ?_); rintro e w2 ⟨rfl, rfl⟩))
    go_wp2
    have hfin := ((hB1.setCell (p := ⟨w.heap.size + 1 + 1, 0, none⟩) (by simp; omega) (.int .i64 x)).setCell (p := ⟨w.heap.size + 1 + 1, 1, none⟩) (by simp; omega) (.int .i64 y)).drew
    exact bodyPost_ret (v := .tuple #[.agg #[.int .i64 x, .int .i64 y], .int .i64 0]) (by simp [results, Tryd.results43, go_sem, r1, r2]) rfl ⟨end_span HE1.out, hfin⟩
  · have HE1 := Lib.hid (HE.out.trans (if_neg hc))
    have hne : (c != 0) = true := by simpa using hc
    clear CF CG HE hc
    go_wp2
    have hfin := (hB1.setCell (p := ⟨w.heap.size + 1 + 1, 0, none⟩) (by simp; omega) (.int .i64 0)).setCell (p := ⟨w.heap.size + 1 + 1, 1, none⟩) (by simp; omega) (.int .i64 0)
    exact bodyPost_ret (v := .tuple #[.agg #[.int .i64 0, .int .i64 0], .int .i64 c]) (by simp [results, Tryd.results43, go_sem, r1, r2]) rfl ⟨end_span HE1.out, hfin⟩

set_option maxRecDepth 100000 in
set_option maxHeartbeats 1000000 in
theorem tCombineGL_any (l h m k : Int) (w : World) :
    Calls Tryd.prog 43 #[.agg #[.int .i64 l, .int .i64 h], .agg #[.int .i64 m, .int .i64 k], .func (.func 49) #[] #[], .func (.func 51) #[] #[]] w fun e w' => e = .returned (.tuple #[.agg #[.int .i64 (Tm.opV Tm.great Tm.less l h m k).1.1, .int .i64 (Tm.opV Tm.great Tm.less l h m k).1.2], .int .i64 (Tm.opV Tm.great Tm.less l h m k).2]) ∧ Below w.heap.size w w' := by
  have hB0 := w4_below w l h m k
  have hs := hB0.size
  have HF := fun W hW => Lib.hid (w4_facts w l h m k (W := W) hW)
  have CC := Lib.hid (tCheckAll_any [(l, h), (m, k)] _ 2 _ (w4_spans w l h m k) (by simp))
  rw [Tm.firstE_two] at CC
  have EC : Tm.opV Tm.great Tm.less l h m k = if Tm.chk2 l h m k = 0 then ((Tm.great l m, Tm.less h k), 0) else ((0, 0), Tm.chk2 l h m k) := rfl
  have CF := fun (_ : Tm.chk2 l h m k = 0) (W : World) => Lib.hid (tGreat_any l m W)
  have CG := fun (_ : Tm.chk2 l h m k = 0) (W : World) => Lib.hid (tLess_any h k W)
  generalize Tm.opV Tm.great Tm.less l h m k = r at *
  generalize Tm.chk2 l h m k = c at *
  generalize Tm.great l m = x at *
  generalize Tm.less h k = y at *
  have HE := Lib.hid EC
  clear EC
  unfold W4 W3 W2 at *
  go_enter Tryd.func43, Tryd.ntmps43
  go_wp2_with fail
  refine (CC.out).mono ?_
  rintro e w1 ⟨rfl, hb1⟩
  obtain ⟨⟨p0, p1, p2, p3, p4⟩, ⟨q0, q1, q2, q3, q4⟩, ⟨r0, r1, r2, r3, r4⟩⟩ := (HF _ hb1).out
  have hB1 := hB0.trans (hb1.mono hs)
  clear HF hb1 hs hB0 CC
  by_cases hc : c = 0
  · have DF := CF hc
    have DG := CG hc
    have HE1 := Lib.hid (HE.out.trans (if_pos hc))
    subst hc
    clear CF CG HE p3 p4 q3 q4
    go_wp2_with fail
    go_region_held3 (fun W => W.cell? ⟨w.heap.size, 0, none⟩ = some (.int .i64 l) ∧ W.cell? ⟨w.heap.size, 1, none⟩ = some (.int .i64 h) ∧ W.cell? ⟨w.heap.size + 1, 0, none⟩ = some (.int .i64 m) ∧ W.cell? ⟨w.heap.size + 1, 1, none⟩ = some (.int .i64 k))
      (first | (go_split_ands; refine ⟨?_, ?_, ?_, ?_⟩ <;> (rw [set2d _ _ _ _ (by omega)]; assumption)) | (go_split_ands; refine ⟨?_, ?_, ?_, ?_⟩ <;> (rw [set2 _ _ _ _ (by omega)]; assumption)) | (go_split_ands; refine ⟨?_, ?_, ?_, ?_⟩ <;> assumption) | go_keep)
      (first
        | (go_at_call 49; (with_reducible refine ((DF _).out).mono ?_); rintro e w2 ⟨rfl, rfl⟩)
        | (go_at_call 51; (with_reducible refine ((DG _).out).mono ?_); rintro e w2 ⟨rfl, rfl⟩))
    go_wp2
    have hfin := ((hB1.setCell (p := ⟨w.heap.size + 1 + 1, 0, none⟩) (by simp; omega) (.int .i64 x)).setCell (p := ⟨w.heap.size + 1 + 1, 1, none⟩) (by simp; omega) (.int .i64 y)).drew
    exact bodyPost_ret (v := .tuple #[.agg #[.int .i64 x, .int .i64 y], .int .i64 0]) (by simp [results, Tryd.results43, go_sem, r1, r2]) rfl ⟨end_span HE1.out, hfin⟩
  · have HE1 := Lib.hid (HE.out.trans (if_neg hc))
    have hne : (c != 0) = true := by simpa using hc
    clear CF CG HE hc
    go_wp2
    have hfin := (hB1.setCell (p := ⟨w.heap.size + 1 + 1, 0, none⟩) (by simp; omega) (.int .i64 0)).setCell (p := ⟨w.heap.size + 1 + 1, 1, none⟩) (by simp; omega) (.int .i64 0)
    exact bodyPost_ret (v := .tuple #[.agg #[.int .i64 0, .int .i64 0], .int .i64 c]) (by simp [results, Tryd.results43, go_sem, r1, r2]) rfl ⟨end_span HE1.out, hfin⟩

set_option maxRecDepth 100000 in
set_option maxHeartbeats 1000000 in
theorem tCombineLG_any (l h m k : Int) (w : World) :
    Calls Tryd.prog 43 #[.agg #[.int .i64 l, .int .i64 h], .agg #[.int .i64 m, .int .i64 k], .func (.func 51) #[] #[], .func (.func 49) #[] #[]] w fun e w' => e = .returned (.tuple #[.agg #[.int .i64 (Tm.opV Tm.less Tm.great l h m k).1.1, .int .i64 (Tm.opV Tm.less Tm.great l h m k).1.2], .int .i64 (Tm.opV Tm.less Tm.great l h m k).2]) ∧ Below w.heap.size w w' := by
  have hB0 := w4_below w l h m k
  have hs := hB0.size
  have HF := fun W hW => Lib.hid (w4_facts w l h m k (W := W) hW)
  have CC := Lib.hid (tCheckAll_any [(l, h), (m, k)] _ 2 _ (w4_spans w l h m k) (by simp))
  rw [Tm.firstE_two] at CC
  have EC : Tm.opV Tm.less Tm.great l h m k = if Tm.chk2 l h m k = 0 then ((Tm.less l m, Tm.great h k), 0) else ((0, 0), Tm.chk2 l h m k) := rfl
  have CF := fun (_ : Tm.chk2 l h m k = 0) (W : World) => Lib.hid (tLess_any l m W)
  have CG := fun (_ : Tm.chk2 l h m k = 0) (W : World) => Lib.hid (tGreat_any h k W)
  generalize Tm.opV Tm.less Tm.great l h m k = r at *
  generalize Tm.chk2 l h m k = c at *
  generalize Tm.less l m = x at *
  generalize Tm.great h k = y at *
  have HE := Lib.hid EC
  clear EC
  unfold W4 W3 W2 at *
  go_enter Tryd.func43, Tryd.ntmps43
  go_wp2_with fail
  refine (CC.out).mono ?_
  rintro e w1 ⟨rfl, hb1⟩
  obtain ⟨⟨p0, p1, p2, p3, p4⟩, ⟨q0, q1, q2, q3, q4⟩, ⟨r0, r1, r2, r3, r4⟩⟩ := (HF _ hb1).out
  have hB1 := hB0.trans (hb1.mono hs)
  clear HF hb1 hs hB0 CC
  by_cases hc : c = 0
  · have DF := CF hc
    have DG := CG hc
    have HE1 := Lib.hid (HE.out.trans (if_pos hc))
    subst hc
    clear CF CG HE p3 p4 q3 q4
    go_wp2_with fail
    go_region_held3 (fun W => W.cell? ⟨w.heap.size, 0, none⟩ = some (.int .i64 l) ∧ W.cell? ⟨w.heap.size, 1, none⟩ = some (.int .i64 h) ∧ W.cell? ⟨w.heap.size + 1, 0, none⟩ = some (.int .i64 m) ∧ W.cell? ⟨w.heap.size + 1, 1, none⟩ = some (.int .i64 k))
      (first | (go_split_ands; refine ⟨?_, ?_, ?_, ?_⟩ <;> (rw [set2d _ _ _ _ (by omega)]; assumption)) | (go_split_ands; refine ⟨?_, ?_, ?_, ?_⟩ <;> (rw [set2 _ _ _ _ (by omega)]; assumption)) | (go_split_ands; refine ⟨?_, ?_, ?_, ?_⟩ <;> assumption) | go_keep)
      (first
        | (go_at_call 51; (with_reducible refine ((DF _).out).mono ?_); rintro e w2 ⟨rfl, rfl⟩)
        | (go_at_call 49; (with_reducible refine ((DG _).out).mono ?_); rintro e w2 ⟨rfl, rfl⟩))
    go_wp2
    have hfin := ((hB1.setCell (p := ⟨w.heap.size + 1 + 1, 0, none⟩) (by simp; omega) (.int .i64 x)).setCell (p := ⟨w.heap.size + 1 + 1, 1, none⟩) (by simp; omega) (.int .i64 y)).drew
    exact bodyPost_ret (v := .tuple #[.agg #[.int .i64 x, .int .i64 y], .int .i64 0]) (by simp [results, Tryd.results43, go_sem, r1, r2]) rfl ⟨end_span HE1.out, hfin⟩
  · have HE1 := Lib.hid (HE.out.trans (if_neg hc))
    have hne : (c != 0) = true := by simpa using hc
    clear CF CG HE hc
    go_wp2
    have hfin := (hB1.setCell (p := ⟨w.heap.size + 1 + 1, 0, none⟩) (by simp; omega) (.int .i64 0)).setCell (p := ⟨w.heap.size + 1 + 1, 1, none⟩) (by simp; omega) (.int .i64 0)
    exact bodyPost_ret (v := .tuple #[.agg #[.int .i64 0, .int .i64 0], .int .i64 c]) (by simp [results, Tryd.results43, go_sem, r1, r2]) rfl ⟨end_span HE1.out, hfin⟩

end Go.Proofs.YtgblodnggeabjabDoor
