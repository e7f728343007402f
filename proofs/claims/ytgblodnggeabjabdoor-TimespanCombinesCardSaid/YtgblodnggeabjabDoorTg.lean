/- The contracts of Plus, Last, Add, Later, Earlier, Hull, Meet, Within, Compare of the reference. -/
import Derived.Test.YtgblodnggeabjabDoorTf
namespace Go.Proofs.YtgblodnggeabjabDoor
open Go.RowKit

theorem max_run (x y : Int) (ts : Array TypeId) (t : TypeId) (w : World) : (Builtin.max_ ts t #[.int .i64 x, .int .i64 y]).run Tryd.prog w = .ok (.int .i64 (Tm.great x y)) w := by
  simp [Builtin.max_, Builtin.max2, Tm.great]
theorem min_run (x y : Int) (ts : Array TypeId) (t : TypeId) (w : World) : (Builtin.min_ ts t #[.int .i64 x, .int .i64 y]).run Tryd.prog w = .ok (.int .i64 (Tm.less x y)) w := by
  simp [Builtin.min_, Builtin.min2, Tm.less]

set_option maxRecDepth 100000 in
theorem rPlus_any (l h m k : Int) (w : World) (h0 : -9223372036854775808 ≤ l + m) (h1 : l + m ≤ 9223372036854775807) (h2 : -9223372036854775808 ≤ h + k) (h3 : h + k ≤ 9223372036854775807) :
    Calls Tryd.prog 47 #[.agg #[.int .i64 l, .int .i64 h], .agg #[.int .i64 m, .int .i64 k]] w fun e w' => e = .returned (.agg #[.int .i64 (l + m), .int .i64 (h + k)]) ∧ Below w.heap.size w w' := by
  go_enter Tryd.func47, Tryd.ntmps47
  go_wp2
  exact bodyPost_ret (v := .agg #[.int .i64 (l + m), .int .i64 (h + k)]) (by simp [results, Tryd.results47, go_sem]) rfl ⟨rfl, (((Below.refl _ _).alloc (Nat.le_refl _) _).alloc (by simp) _).alloc (by simp; omega) _⟩
set_option maxRecDepth 100000 in
theorem rLast_any (l h m k : Int) (w : World) :
    Calls Tryd.prog 50 #[.agg #[.int .i64 l, .int .i64 h], .agg #[.int .i64 m, .int .i64 k]] w fun e w' => e = .returned (.agg #[.int .i64 (Tm.great l m), .int .i64 (Tm.great h k)]) ∧ Below w.heap.size w w' := by
  have E1 := max_run l m
  have E2 := max_run h k
  generalize Tm.great l m = x at *
  generalize Tm.great h k = y at *
  go_enter Tryd.func50, Tryd.ntmps50
  go_wp2
  exact bodyPost_ret (v := .agg #[.int .i64 x, .int .i64 y]) (by simp [results, Tryd.results50, go_sem]) rfl ⟨rfl, (((Below.refl _ _).alloc (Nat.le_refl _) _).alloc (by simp) _).alloc (by simp; omega) _⟩

set_option maxRecDepth 100000 in
theorem rLater_any (l h m k : Int) (w : World) :
    Calls Tryd.prog 21 #[.agg #[.int .i64 l, .int .i64 h], .agg #[.int .i64 m, .int .i64 k]] w fun e w' => e = .returned (.tuple #[.agg #[.int .i64 (Tm.opV Tm.great Tm.great l h m k).1.1, .int .i64 (Tm.opV Tm.great Tm.great l h m k).1.2], .int .i64 (Tm.opV Tm.great Tm.great l h m k).2]) ∧ Below w.heap.size w w' := by
  have hB0 := w3_below w l h m k
  have hs := hB0.size
  have HF := fun W hW => Lib.hid (w3_facts w l h m k (W := W) hW)
  have CC := fun W => Lib.hid (rBoth_any l h m k W)
  by_cases hc : Tm.chk2 l h m k = 0
  · rw [opV_good hc]
    rw [hc] at CC
    have CL := fun W => Lib.hid (rLast_any l h m k W)
    generalize Tm.great l m = x at *
    generalize Tm.great h k = y at *
    clear hc
    unfold W3 W2 at *
    go_enter Tryd.func21, Tryd.ntmps21
    go_wp2_with fail
    refine ((CC _).out).mono ?_
    rintro e w1 ⟨rfl, hb1⟩
    obtain ⟨⟨p0, p1, p2, p3, p4⟩, ⟨q0, q1, q2, q3, q4⟩, ⟨r0, r1, r2, r3, r4⟩⟩ := (HF _ hb1).out
    have hB1 := hB0.trans (hb1.mono hs)
    clear HF hb1 hs hB0 CC p3 p4 q3 q4
    go_wp2_with fail
    refine ((CL _).out).mono ?_
    rintro e w2 ⟨rfl, hb2⟩
    have hB2 := hB1.trans (hb2.mono hB1.size)
    have HR : PairI w1 (w.heap.size + 1 + 1) 0 0 := ⟨r0, r1, r2, r3, r4⟩
    obtain ⟨s0, s1, s2, s3, s4⟩ := HR.below r0 hb2
    clear hb2 hB1 CL HR p0 p1 p2 q0 q1 q2 r0 r1 r2 r3 r4
    go_wp2
    have hfin := (hB2.setCell (p := ⟨w.heap.size + 1 + 1, 0, none⟩) (by simp <;> omega) (.int .i64 x)).setCell (p := ⟨w.heap.size + 1 + 1, 1, none⟩) (by simp <;> omega) (.int .i64 y)
    exact bodyPost_ret (v := .tuple #[.agg #[.int .i64 x, .int .i64 y], .int .i64 0]) (by simp [results, Tryd.results21, go_sem, s1, s2]) rfl ⟨rfl, hfin⟩
  · rw [opV_bad hc]
    have hne : (Tm.chk2 l h m k != 0) = true := by simpa using hc
    generalize Tm.chk2 l h m k = c at *
    clear hc
    unfold W3 W2 at *
    go_enter Tryd.func21, Tryd.ntmps21
    go_wp2_with fail
    refine ((CC _).out).mono ?_
    rintro e w1 ⟨rfl, hb1⟩
    obtain ⟨⟨p0, p1, p2, p3, p4⟩, ⟨q0, q1, q2, q3, q4⟩, ⟨r0, r1, r2, r3, r4⟩⟩ := (HF _ hb1).out
    have hB1 := hB0.trans (hb1.mono hs)
    clear HF hb1 hs hB0 CC p3 p4 q3 q4
    go_wp2
    have hfin := (hB1.setCell (p := ⟨w.heap.size + 1 + 1, 0, none⟩) (by simp <;> omega) (.int .i64 0)).setCell (p := ⟨w.heap.size + 1 + 1, 1, none⟩) (by simp <;> omega) (.int .i64 0)
    exact bodyPost_ret (v := .tuple #[.agg #[.int .i64 0, .int .i64 0], .int .i64 c]) (by simp [results, Tryd.results21, go_sem, r1, r2]) rfl ⟨rfl, hfin⟩

set_option maxRecDepth 100000 in
theorem rEarlier_any (l h m k : Int) (w : World) :
    Calls Tryd.prog 23 #[.agg #[.int .i64 l, .int .i64 h], .agg #[.int .i64 m, .int .i64 k]] w fun e w' => e = .returned (.tuple #[.agg #[.int .i64 (Tm.opV Tm.less Tm.less l h m k).1.1, .int .i64 (Tm.opV Tm.less Tm.less l h m k).1.2], .int .i64 (Tm.opV Tm.less Tm.less l h m k).2]) ∧ Below w.heap.size w w' := by
  have hB0 := w3_below w l h m k
  have hs := hB0.size
  have HF := fun W hW => Lib.hid (w3_facts w l h m k (W := W) hW)
  have CC := fun W => Lib.hid (rBoth_any l h m k W)
  by_cases hc : Tm.chk2 l h m k = 0
  · rw [opV_good hc]
    rw [hc] at CC
    have E1 := min_run l m
    have E2 := min_run h k
    generalize Tm.less l m = x at *
    generalize Tm.less h k = y at *
    clear hc
    unfold W3 W2 at *
    go_enter Tryd.func23, Tryd.ntmps23
    go_wp2_with fail
    refine ((CC _).out).mono ?_
    rintro e w1 ⟨rfl, hb1⟩
    obtain ⟨⟨p0, p1, p2, p3, p4⟩, ⟨q0, q1, q2, q3, q4⟩, ⟨r0, r1, r2, r3, r4⟩⟩ := (HF _ hb1).out
    have hB1 := hB0.trans (hb1.mono hs)
    clear HF hb1 hs hB0 CC p3 p4 q3 q4
    go_wp2
    have hfin := (hB1.setCell (p := ⟨w.heap.size + 1 + 1, 0, none⟩) (by simp <;> omega) (.int .i64 x)).setCell (p := ⟨w.heap.size + 1 + 1, 1, none⟩) (by simp <;> omega) (.int .i64 y)
    exact bodyPost_ret (v := .tuple #[.agg #[.int .i64 x, .int .i64 y], .int .i64 0]) (by simp [results, Tryd.results23, go_sem, r1, r2]) rfl ⟨rfl, hfin⟩
  · rw [opV_bad hc]
    have hne : (Tm.chk2 l h m k != 0) = true := by simpa using hc
    generalize Tm.chk2 l h m k = c at *
    clear hc
    unfold W3 W2 at *
    go_enter Tryd.func23, Tryd.ntmps23
    go_wp2_with fail
    refine ((CC _).out).mono ?_
    rintro e w1 ⟨rfl, hb1⟩
    obtain ⟨⟨p0, p1, p2, p3, p4⟩, ⟨q0, q1, q2, q3, q4⟩, ⟨r0, r1, r2, r3, r4⟩⟩ := (HF _ hb1).out
    have hB1 := hB0.trans (hb1.mono hs)
    clear HF hb1 hs hB0 CC p3 p4 q3 q4
    go_wp2
    have hfin := (hB1.setCell (p := ⟨w.heap.size + 1 + 1, 0, none⟩) (by simp <;> omega) (.int .i64 0)).setCell (p := ⟨w.heap.size + 1 + 1, 1, none⟩) (by simp <;> omega) (.int .i64 0)
    exact bodyPost_ret (v := .tuple #[.agg #[.int .i64 0, .int .i64 0], .int .i64 c]) (by simp [results, Tryd.results23, go_sem, r1, r2]) rfl ⟨rfl, hfin⟩

set_option maxRecDepth 100000 in
theorem rHull_any (l h m k : Int) (w : World) :
    Calls Tryd.prog 25 #[.agg #[.int .i64 l, .int .i64 h], .agg #[.int .i64 m, .int .i64 k]] w fun e w' => e = .returned (.tuple #[.agg #[.int .i64 (Tm.opV Tm.less Tm.great l h m k).1.1, .int .i64 (Tm.opV Tm.less Tm.great l h m k).1.2], .int .i64 (Tm.opV Tm.less Tm.great l h m k).2]) ∧ Below w.heap.size w w' := by
  have hB0 := w3_below w l h m k
  have hs := hB0.size
  have HF := fun W hW => Lib.hid (w3_facts w l h m k (W := W) hW)
  have CC := fun W => Lib.hid (rBoth_any l h m k W)
  by_cases hc : Tm.chk2 l h m k = 0
  · rw [opV_good hc]
    rw [hc] at CC
    have E1 := min_run l m
    have E2 := max_run h k
    generalize Tm.less l m = x at *
    generalize Tm.great h k = y at *
    clear hc
    unfold W3 W2 at *
    go_enter Tryd.func25, Tryd.ntmps25
    go_wp2_with fail
    refine ((CC _).out).mono ?_
    rintro e w1 ⟨rfl, hb1⟩
    obtain ⟨⟨p0, p1, p2, p3, p4⟩, ⟨q0, q1, q2, q3, q4⟩, ⟨r0, r1, r2, r3, r4⟩⟩ := (HF _ hb1).out
    have hB1 := hB0.trans (hb1.mono hs)
    clear HF hb1 hs hB0 CC p3 p4 q3 q4
    go_wp2
    have hfin := (hB1.setCell (p := ⟨w.heap.size + 1 + 1, 0, none⟩) (by simp <;> omega) (.int .i64 x)).setCell (p := ⟨w.heap.size + 1 + 1, 1, none⟩) (by simp <;> omega) (.int .i64 y)
    exact bodyPost_ret (v := .tuple #[.agg #[.int .i64 x, .int .i64 y], .int .i64 0]) (by simp [results, Tryd.results25, go_sem, r1, r2]) rfl ⟨rfl, hfin⟩
  · rw [opV_bad hc]
    have hne : (Tm.chk2 l h m k != 0) = true := by simpa using hc
    generalize Tm.chk2 l h m k = c at *
    clear hc
    unfold W3 W2 at *
    go_enter Tryd.func25, Tryd.ntmps25
    go_wp2_with fail
    refine ((CC _).out).mono ?_
    rintro e w1 ⟨rfl, hb1⟩
    obtain ⟨⟨p0, p1, p2, p3, p4⟩, ⟨q0, q1, q2, q3, q4⟩, ⟨r0, r1, r2, r3, r4⟩⟩ := (HF _ hb1).out
    have hB1 := hB0.trans (hb1.mono hs)
    clear HF hb1 hs hB0 CC p3 p4 q3 q4
    go_wp2
    have hfin := (hB1.setCell (p := ⟨w.heap.size + 1 + 1, 0, none⟩) (by simp <;> omega) (.int .i64 0)).setCell (p := ⟨w.heap.size + 1 + 1, 1, none⟩) (by simp <;> omega) (.int .i64 0)
    exact bodyPost_ret (v := .tuple #[.agg #[.int .i64 0, .int .i64 0], .int .i64 c]) (by simp [results, Tryd.results25, go_sem, r1, r2]) rfl ⟨rfl, hfin⟩

set_option maxRecDepth 100000 in
theorem rAdd_any (l h m k : Int) (w : World) :
    Calls Tryd.prog 16 #[.agg #[.int .i64 l, .int .i64 h], .agg #[.int .i64 m, .int .i64 k]] w fun e w' => e = .returned (.tuple #[.agg #[.int .i64 (Tm.addV l h m k).1.1, .int .i64 (Tm.addV l h m k).1.2], .int .i64 (Tm.addV l h m k).2]) ∧ Below w.heap.size w w' := by
  have hB0 := w3_below w l h m k
  have hs := hB0.size
  have HF := fun W hW => Lib.hid (w3_facts w l h m k (W := W) hW)
  have CC := fun W => Lib.hid (rBoth_any l h m k W)
  by_cases hc : Tm.chk2 l h m k = 0
  · rw [show Tm.addV l h m k = Tm.limV (l + m) (h + k) by unfold Tm.addV; rw [if_pos hc]]
    rw [hc] at CC
    have hz := Tm.chk2_zero hc
    have CP := fun W => Lib.hid (rPlus_any l h m k W (by omega) (by omega) (by omega) (by omega))
    have CL := fun W => Lib.hid (rLimit_any (l + m) (h + k) W)
    generalize Tm.limV (l + m) (h + k) = r at *
    obtain ⟨⟨x, y⟩, z⟩ := r
    simp only [] at CL ⊢
    generalize l + m = s at *
    generalize h + k = t at *
    clear hc hz
    unfold W3 W2 at *
    go_enter Tryd.func16, Tryd.ntmps16
    go_wp2_with fail
    refine ((CC _).out).mono ?_
    rintro e w1 ⟨rfl, hb1⟩
    obtain ⟨⟨p0, p1, p2, p3, p4⟩, ⟨q0, q1, q2, q3, q4⟩, ⟨r0, r1, r2, r3, r4⟩⟩ := (HF _ hb1).out
    have hB1 := hB0.trans (hb1.mono hs)
    clear HF hb1 hs hB0 CC p3 p4 q3 q4
    go_wp2_with fail
    refine ((CP _).out).mono ?_
    rintro e w2 ⟨rfl, hb2⟩
    have hB2 := hB1.trans (hb2.mono hB1.size)
    have HR : PairI w1 (w.heap.size + 1 + 1) 0 0 := ⟨r0, r1, r2, r3, r4⟩
    have HR2 := Lib.hid (HR.below r0 hb2)
    clear hb2 hB1 HR p0 p1 p2 q0 q1 q2 r0 r1 r2 r3 r4 CP
    go_wp2_with fail
    refine ((CL _).out).mono ?_
    rintro e w3 ⟨rfl, hb3⟩
    have hB3 := hB2.trans (hb3.mono hB2.size)
    obtain ⟨s0, s1, s2, s3, s4⟩ := HR2.out.below HR2.out.1 hb3
    clear hb3 hB2 HR2 CL
    go_wp2
    have hfin := (hB3.setCell (p := ⟨w.heap.size + 1 + 1, 0, none⟩) (by simp <;> omega) (.int .i64 x)).setCell (p := ⟨w.heap.size + 1 + 1, 1, none⟩) (by simp <;> omega) (.int .i64 y)
    exact bodyPost_ret (v := .tuple #[.agg #[.int .i64 x, .int .i64 y], .int .i64 z]) (by simp [results, Tryd.results16, go_sem, s1, s2]) rfl ⟨rfl, hfin⟩
  · rw [show Tm.addV l h m k = ((0, 0), Tm.chk2 l h m k) by unfold Tm.addV; rw [if_neg hc]]
    have hne : (Tm.chk2 l h m k != 0) = true := by simpa using hc
    generalize Tm.chk2 l h m k = c at *
    clear hc
    unfold W3 W2 at *
    go_enter Tryd.func16, Tryd.ntmps16
    go_wp2_with fail
    refine ((CC _).out).mono ?_
    rintro e w1 ⟨rfl, hb1⟩
    obtain ⟨⟨p0, p1, p2, p3, p4⟩, ⟨q0, q1, q2, q3, q4⟩, ⟨r0, r1, r2, r3, r4⟩⟩ := (HF _ hb1).out
    have hB1 := hB0.trans (hb1.mono hs)
    clear HF hb1 hs hB0 CC p3 p4 q3 q4
    go_wp2
    have hfin := (hB1.setCell (p := ⟨w.heap.size + 1 + 1, 0, none⟩) (by simp <;> omega) (.int .i64 0)).setCell (p := ⟨w.heap.size + 1 + 1, 1, none⟩) (by simp <;> omega) (.int .i64 0)
    exact bodyPost_ret (v := .tuple #[.agg #[.int .i64 0, .int .i64 0], .int .i64 c]) (by simp [results, Tryd.results16, go_sem, r1, r2]) rfl ⟨rfl, hfin⟩

set_option maxRecDepth 100000 in
theorem rWithin_any (l h m k : Int) (w : World) :
    Calls Tryd.prog 29 #[.agg #[.int .i64 l, .int .i64 h], .agg #[.int .i64 m, .int .i64 k]] w fun e w' => e = .returned (.tuple #[.bool (Tm.witV l h m k).1, .int .i64 (Tm.witV l h m k).2]) ∧ Below w.heap.size w w' := by
  have hB0 := w2_below w l h m k
  have hs := hB0.size
  have HF := fun W hW => Lib.hid (w2_facts w l h m k (W := W) hW)
  have CC := fun W => Lib.hid (rBoth_any l h m k W)
  by_cases hc : Tm.chk2 l h m k = 0
  · have HE := Lib.hid (show Tm.witV l h m k = (decide (m ≤ l) && decide (h ≤ k), 0) by unfold Tm.witV; rw [if_pos hc])
    have HZ := Lib.hid (Tm.chk2_zero hc)
    rw [hc] at CC
    generalize Tm.witV l h m k = r at *
    obtain ⟨x, z⟩ := r
    simp only [] at ⊢
    clear hc
    unfold W2 at *
    go_enter Tryd.func29, Tryd.ntmps29
    go_wp2_with fail
    refine ((CC _).out).mono ?_
    rintro e w1 ⟨rfl, hb1⟩
    obtain ⟨⟨p0, p1, p2, p3, p4⟩, ⟨q0, q1, q2, q3, q4⟩⟩ := (HF _ hb1).out
    have hB1 := hB0.trans (hb1.mono hs)
    clear HF hb1 hs hB0 CC p3 p4 q3 q4
    go_wp2
    all_goals go_ret2
    all_goals (refine ⟨ret_bool2 ?_ ?_, ?_⟩ <;> (have hE := HE.out; have hZ := HZ.out; clear HE HZ; go_light; first | grind | exact hB1 | exact hB1.alloc hB1.size _ | exact (hB1.alloc hB1.size _).alloc (by have := hB1.size; simp <;> omega) _))
  · rw [show Tm.witV l h m k = (false, Tm.chk2 l h m k) by unfold Tm.witV; rw [if_neg hc]]
    have hne : (Tm.chk2 l h m k != 0) = true := by simpa using hc
    generalize Tm.chk2 l h m k = c at *
    clear hc
    unfold W2 at *
    go_enter Tryd.func29, Tryd.ntmps29
    go_wp2_with fail
    refine ((CC _).out).mono ?_
    rintro e w1 ⟨rfl, hb1⟩
    obtain ⟨⟨p0, p1, p2, p3, p4⟩, ⟨q0, q1, q2, q3, q4⟩⟩ := (HF _ hb1).out
    have hB1 := hB0.trans (hb1.mono hs)
    clear HF hb1 hs hB0 CC p3 p4 q3 q4
    go_wp2
    go_ret2
    exact ⟨rfl, hB1⟩

set_option maxRecDepth 100000 in
theorem rCompare_any (l h m k : Int) (w : World) :
    Calls Tryd.prog 31 #[.agg #[.int .i64 l, .int .i64 h], .agg #[.int .i64 m, .int .i64 k]] w fun e w' => e = .returned (.tuple #[.int .i64 (Tm.cmpV l h m k).1, .int .i64 (Tm.cmpV l h m k).2]) ∧ Below w.heap.size w w' := by
  have hB0 := w2_below w l h m k
  have hs := hB0.size
  have HF := fun W hW => Lib.hid (w2_facts w l h m k (W := W) hW)
  have CC := fun W => Lib.hid (rBoth_any l h m k W)
  by_cases hc : Tm.chk2 l h m k = 0
  · have HE := Lib.hid (show Tm.cmpV l h m k = (if h < m then (-1, 0) else if k < l then (1, 0) else (0, 0)) by unfold Tm.cmpV; rw [if_pos hc])
    have HZ := Lib.hid (Tm.chk2_zero hc)
    rw [hc] at CC
    generalize Tm.cmpV l h m k = r at *
    obtain ⟨x, z⟩ := r
    simp only [] at ⊢
    clear hc
    unfold W2 at *
    go_enter Tryd.func31, Tryd.ntmps31
    go_wp2_with fail
    refine ((CC _).out).mono ?_
    rintro e w1 ⟨rfl, hb1⟩
    obtain ⟨⟨p0, p1, p2, p3, p4⟩, ⟨q0, q1, q2, q3, q4⟩⟩ := (HF _ hb1).out
    have hB1 := hB0.trans (hb1.mono hs)
    clear HF hb1 hs hB0 CC p3 p4 q3 q4
    go_wp2
    all_goals go_ret2
    all_goals (refine ⟨ret_int2 ?_ ?_, ?_⟩ <;> (have hE := HE.out; have hZ := HZ.out; clear HE HZ; go_light; first | grind | exact hB1 | exact hB1.alloc hB1.size _ | exact (hB1.alloc hB1.size _).alloc (by have := hB1.size; simp <;> omega) _))
  · rw [show Tm.cmpV l h m k = (0, Tm.chk2 l h m k) by unfold Tm.cmpV; rw [if_neg hc]]
    have hne : (Tm.chk2 l h m k != 0) = true := by simpa using hc
    generalize Tm.chk2 l h m k = c at *
    clear hc
    unfold W2 at *
    go_enter Tryd.func31, Tryd.ntmps31
    go_wp2_with fail
    refine ((CC _).out).mono ?_
    rintro e w1 ⟨rfl, hb1⟩
    obtain ⟨⟨p0, p1, p2, p3, p4⟩, ⟨q0, q1, q2, q3, q4⟩⟩ := (HF _ hb1).out
    have hB1 := hB0.trans (hb1.mono hs)
    clear HF hb1 hs hB0 CC p3 p4 q3 q4
    go_wp2
    go_ret2
    exact ⟨rfl, hB1⟩

set_option maxRecDepth 100000 in
theorem rMeet_any (l h m k : Int) (w : World) :
    Calls Tryd.prog 27 #[.agg #[.int .i64 l, .int .i64 h], .agg #[.int .i64 m, .int .i64 k]] w fun e w' => e = .returned (.tuple #[.agg #[.int .i64 (Tm.meeV l h m k).1.1.1, .int .i64 (Tm.meeV l h m k).1.1.2], .bool (Tm.meeV l h m k).1.2, .int .i64 (Tm.meeV l h m k).2]) ∧ Below w.heap.size w w' := by
  have hB0 := w3_below w l h m k
  have hs := hB0.size
  have HF := fun W hW => Lib.hid (w3_facts w l h m k (W := W) hW)
  have CC := fun W => Lib.hid (rBoth_any l h m k W)
  by_cases hc : Tm.chk2 l h m k = 0
  · have HE := Lib.hid (show Tm.meeV l h m k = (if Tm.less h k < Tm.great l m then (((0, 0), false), 0) else (((Tm.great l m, Tm.less h k), true), 0)) by unfold Tm.meeV; rw [if_pos hc])
    rw [hc] at CC
    have E1 := max_run l m
    have E2 := min_run h k
    generalize Tm.meeV l h m k = r at *
    generalize Tm.less h k = y at *
    generalize Tm.great l m = x at *
    clear hc
    by_cases hlt : y < x
    · have HE1 := Lib.hid (HE.out.trans (if_pos hlt))
      clear HE
      unfold W3 W2 at *
      go_enter Tryd.func27, Tryd.ntmps27
      go_wp2_with fail
      refine ((CC _).out).mono ?_
      rintro e w1 ⟨rfl, hb1⟩
      obtain ⟨⟨p0, p1, p2, p3, p4⟩, ⟨q0, q1, q2, q3, q4⟩, ⟨r0, r1, r2, r3, r4⟩⟩ := (HF _ hb1).out
      have hB1 := hB0.trans (hb1.mono hs)
      clear HF hb1 hs hB0 CC p3 p4 q3 q4
      go_wp2
      have hfin0 := (hB1.setCell (p := ⟨w.heap.size + 1 + 1, 0, none⟩) (by simp <;> omega) (.int .i64 0)).setCell (p := ⟨w.heap.size + 1 + 1, 1, none⟩) (by simp <;> omega) (.int .i64 0)
      have hsz : w.heap.size + 1 + 1 < ((w1.setCell ⟨w.heap.size + 1 + 1, 0, none⟩ (.int .i64 0)).setCell ⟨w.heap.size + 1 + 1, 1, none⟩ (.int .i64 0)).heap.size := by simp <;> omega
      have a0 : ∀ o, (((w1.setCell ⟨w.heap.size + 1 + 1, 0, none⟩ (.int .i64 0)).setCell ⟨w.heap.size + 1 + 1, 1, none⟩ (.int .i64 0)).alloc o).cell? ⟨w.heap.size + 1 + 1, 0, none⟩ = some (.int .i64 0) := fun o => by
        rw [cell_old _ _ _ hsz]
        simp [go_sem, r1]
      have a1 : ∀ o, (((w1.setCell ⟨w.heap.size + 1 + 1, 0, none⟩ (.int .i64 0)).setCell ⟨w.heap.size + 1 + 1, 1, none⟩ (.int .i64 0)).alloc o).cell? ⟨w.heap.size + 1 + 1, 1, none⟩ = some (.int .i64 0) := fun o => by
        rw [cell_old _ _ _ hsz]
        simp [go_sem, r2]
      exact bodyPost_ret (v := .tuple #[.agg #[.int .i64 0, .int .i64 0], .bool false, .int .i64 0]) (by simp [results, Tryd.results27, go_sem, a0, a1]) rfl ⟨end_meet HE1.out, hfin0.alloc hfin0.size _⟩
    · have HE1 := Lib.hid (HE.out.trans (if_neg hlt))
      clear HE
      unfold W3 W2 at *
      go_enter Tryd.func27, Tryd.ntmps27
      go_wp2_with fail
      refine ((CC _).out).mono ?_
      rintro e w1 ⟨rfl, hb1⟩
      obtain ⟨⟨p0, p1, p2, p3, p4⟩, ⟨q0, q1, q2, q3, q4⟩, ⟨r0, r1, r2, r3, r4⟩⟩ := (HF _ hb1).out
      have hB1 := hB0.trans (hb1.mono hs)
      clear HF hb1 hs hB0 CC p3 p4 q3 q4
      go_wp2
      have hfin0 := (hB1.setCell (p := ⟨w.heap.size + 1 + 1, 0, none⟩) (by simp <;> omega) (.int .i64 x)).setCell (p := ⟨w.heap.size + 1 + 1, 1, none⟩) (by simp <;> omega) (.int .i64 y)
      have hsz : w.heap.size + 1 + 1 < ((w1.setCell ⟨w.heap.size + 1 + 1, 0, none⟩ (.int .i64 x)).setCell ⟨w.heap.size + 1 + 1, 1, none⟩ (.int .i64 y)).heap.size := by simp <;> omega
      have a0 : ∀ o, (((w1.setCell ⟨w.heap.size + 1 + 1, 0, none⟩ (.int .i64 x)).setCell ⟨w.heap.size + 1 + 1, 1, none⟩ (.int .i64 y)).alloc o).cell? ⟨w.heap.size + 1 + 1, 0, none⟩ = some (.int .i64 x) := fun o => by
        rw [cell_old _ _ _ hsz]
        simp [go_sem, r1]
      have a1 : ∀ o, (((w1.setCell ⟨w.heap.size + 1 + 1, 0, none⟩ (.int .i64 x)).setCell ⟨w.heap.size + 1 + 1, 1, none⟩ (.int .i64 y)).alloc o).cell? ⟨w.heap.size + 1 + 1, 1, none⟩ = some (.int .i64 y) := fun o => by
        rw [cell_old _ _ _ hsz]
        simp [go_sem, r2]
      exact bodyPost_ret (v := .tuple #[.agg #[.int .i64 x, .int .i64 y], .bool true, .int .i64 0]) (by simp [results, Tryd.results27, go_sem, a0, a1]) rfl ⟨end_meet HE1.out, hfin0.alloc hfin0.size _⟩
  · rw [show Tm.meeV l h m k = (((0, 0), false), Tm.chk2 l h m k) by unfold Tm.meeV; rw [if_neg hc]]
    have hne : (Tm.chk2 l h m k != 0) = true := by simpa using hc
    generalize Tm.chk2 l h m k = c at *
    clear hc
    unfold W3 W2 at *
    go_enter Tryd.func27, Tryd.ntmps27
    go_wp2_with fail
    refine ((CC _).out).mono ?_
    rintro e w1 ⟨rfl, hb1⟩
    obtain ⟨⟨p0, p1, p2, p3, p4⟩, ⟨q0, q1, q2, q3, q4⟩, ⟨r0, r1, r2, r3, r4⟩⟩ := (HF _ hb1).out
    have hB1 := hB0.trans (hb1.mono hs)
    clear HF hb1 hs hB0 CC p3 p4 q3 q4
    go_wp2
    have hfin := (hB1.setCell (p := ⟨w.heap.size + 1 + 1, 0, none⟩) (by simp <;> omega) (.int .i64 0)).setCell (p := ⟨w.heap.size + 1 + 1, 1, none⟩) (by simp <;> omega) (.int .i64 0)
    exact bodyPost_ret (v := .tuple #[.agg #[.int .i64 0, .int .i64 0], .bool false, .int .i64 c]) (by simp [results, Tryd.results27, go_sem, r1, r2]) rfl ⟨rfl, hfin⟩

end Go.Proofs.YtgblodnggeabjabDoor
