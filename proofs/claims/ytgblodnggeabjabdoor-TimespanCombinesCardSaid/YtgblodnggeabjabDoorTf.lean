/- The contracts of Meet, Scale of package timespan. -/
import Derived.Test.YtgblodnggeabjabDoorTe
namespace Go.Proofs.YtgblodnggeabjabDoor
open Go.RowKit

theorem end_meet {r : ((Int × Int) × Bool) × Int} {x y z : Int} {b : Bool} (h : r = (((x, y), b), z)) : Ending.returned (.tuple #[.agg #[.int .i64 x, .int .i64 y], .bool b, .int .i64 z]) = Ending.returned (.tuple #[.agg #[.int .i64 r.1.1.1, .int .i64 r.1.1.2], .bool r.1.2, .int .i64 r.2]) := by subst h; rfl

set_option maxRecDepth 100000 in
theorem tMeet_any (l h m k : Int) (w : World) :
    Calls Tryd.prog 26 #[.agg #[.int .i64 l, .int .i64 h], .agg #[.int .i64 m, .int .i64 k]] w fun e w' => e = .returned (.tuple #[.agg #[.int .i64 (Tm.meeV l h m k).1.1.1, .int .i64 (Tm.meeV l h m k).1.1.2], .bool (Tm.meeV l h m k).1.2, .int .i64 (Tm.meeV l h m k).2]) ∧ Below w.heap.size w w' := by
  have hB0 := w3_below w l h m k
  have hs := hB0.size
  have HF := fun W hW => Lib.hid (w3_facts w l h m k (W := W) hW)
  have CC := fun W => Lib.hid (tCombineGL_any l h m k W)
  by_cases hc : Tm.chk2 l h m k = 0
  · rw [opV_good hc] at CC
    have HE := Lib.hid (show Tm.meeV l h m k = (if Tm.less h k < Tm.great l m then (((0, 0), false), 0) else (((Tm.great l m, Tm.less h k), true), 0)) by unfold Tm.meeV; rw [if_pos hc])
    generalize Tm.meeV l h m k = r at *
    generalize Tm.less h k = y at *
    generalize Tm.great l m = x at *
    simp only [] at CC
    clear hc
    by_cases hlt : y < x
    · have HE1 := Lib.hid (HE.out.trans (if_pos hlt))
      clear HE
      unfold W3 W2 at *
      go_enter Tryd.func26, Tryd.ntmps26
      go_wp2_with fail
      refine ((CC _).out).mono ?_
      rintro e w1 ⟨rfl, hb1⟩
      obtain ⟨⟨p0, p1, p2, p3, p4⟩, ⟨q0, q1, q2, q3, q4⟩, ⟨r0, r1, r2, r3, r4⟩⟩ := (HF _ hb1).out
      have hB1 := hB0.trans (hb1.mono hs)
      clear HF hb1 hs hB0 CC p3 p4 q3 q4
      go_wp2
      have hfin0 := (hB1.setCell (p := ⟨w.heap.size + 1 + 1, 0, none⟩) (by simp; omega) (.int .i64 0)).setCell (p := ⟨w.heap.size + 1 + 1, 1, none⟩) (by simp; omega) (.int .i64 0)
      have hsz : w.heap.size + 1 + 1 < ((w1.setCell ⟨w.heap.size + 1 + 1, 0, none⟩ (.int .i64 0)).setCell ⟨w.heap.size + 1 + 1, 1, none⟩ (.int .i64 0)).heap.size := by simp; omega
      have a0 : ∀ o, (((w1.setCell ⟨w.heap.size + 1 + 1, 0, none⟩ (.int .i64 0)).setCell ⟨w.heap.size + 1 + 1, 1, none⟩ (.int .i64 0)).alloc o).cell? ⟨w.heap.size + 1 + 1, 0, none⟩ = some (.int .i64 0) := fun o => by
        rw [cell_old _ _ _ hsz]
        simp [go_sem, r1]
      have a1 : ∀ o, (((w1.setCell ⟨w.heap.size + 1 + 1, 0, none⟩ (.int .i64 0)).setCell ⟨w.heap.size + 1 + 1, 1, none⟩ (.int .i64 0)).alloc o).cell? ⟨w.heap.size + 1 + 1, 1, none⟩ = some (.int .i64 0) := fun o => by
        rw [cell_old _ _ _ hsz]
        simp [go_sem, r2]
      exact bodyPost_ret (v := .tuple #[.agg #[.int .i64 0, .int .i64 0], .bool false, .int .i64 0]) (by simp [results, Tryd.results26, go_sem, a0, a1]) rfl ⟨end_meet HE1.out, hfin0.alloc hfin0.size _⟩
    · have HE1 := Lib.hid (HE.out.trans (if_neg hlt))
      clear HE
      unfold W3 W2 at *
      go_enter Tryd.func26, Tryd.ntmps26
      go_wp2_with fail
      refine ((CC _).out).mono ?_
      rintro e w1 ⟨rfl, hb1⟩
      obtain ⟨⟨p0, p1, p2, p3, p4⟩, ⟨q0, q1, q2, q3, q4⟩, ⟨r0, r1, r2, r3, r4⟩⟩ := (HF _ hb1).out
      have hB1 := hB0.trans (hb1.mono hs)
      clear HF hb1 hs hB0 CC p3 p4 q3 q4
      go_wp2
      have hfin0 := (hB1.setCell (p := ⟨w.heap.size + 1 + 1, 0, none⟩) (by simp; omega) (.int .i64 x)).setCell (p := ⟨w.heap.size + 1 + 1, 1, none⟩) (by simp; omega) (.int .i64 y)
      have hsz : w.heap.size + 1 + 1 < ((w1.setCell ⟨w.heap.size + 1 + 1, 0, none⟩ (.int .i64 x)).setCell ⟨w.heap.size + 1 + 1, 1, none⟩ (.int .i64 y)).heap.size := by simp; omega
      have a0 : ∀ o, (((w1.setCell ⟨w.heap.size + 1 + 1, 0, none⟩ (.int .i64 x)).setCell ⟨w.heap.size + 1 + 1, 1, none⟩ (.int .i64 y)).alloc o).cell? ⟨w.heap.size + 1 + 1, 0, none⟩ = some (.int .i64 x) := fun o => by
        rw [cell_old _ _ _ hsz]
        simp [go_sem, r1]
      have a1 : ∀ o, (((w1.setCell ⟨w.heap.size + 1 + 1, 0, none⟩ (.int .i64 x)).setCell ⟨w.heap.size + 1 + 1, 1, none⟩ (.int .i64 y)).alloc o).cell? ⟨w.heap.size + 1 + 1, 1, none⟩ = some (.int .i64 y) := fun o => by
        rw [cell_old _ _ _ hsz]
        simp [go_sem, r2]
      exact bodyPost_ret (v := .tuple #[.agg #[.int .i64 x, .int .i64 y], .bool true, .int .i64 0]) (by simp [results, Tryd.results26, go_sem, a0, a1]) rfl ⟨end_meet HE1.out, hfin0.alloc hfin0.size _⟩
  · rw [opV_bad hc] at CC
    have HE1 := Lib.hid (show Tm.meeV l h m k = (((0, 0), false), Tm.chk2 l h m k) by unfold Tm.meeV; rw [if_neg hc])
    have hne : (Tm.chk2 l h m k != 0) = true := by simpa using hc
    generalize Tm.meeV l h m k = r at *
    generalize Tm.chk2 l h m k = c at *
    simp only [] at CC
    clear hc
    unfold W3 W2 at *
    go_enter Tryd.func26, Tryd.ntmps26
    go_wp2_with fail
    refine ((CC _).out).mono ?_
    rintro e w1 ⟨rfl, hb1⟩
    obtain ⟨⟨p0, p1, p2, p3, p4⟩, ⟨q0, q1, q2, q3, q4⟩, ⟨r0, r1, r2, r3, r4⟩⟩ := (HF _ hb1).out
    have hB1 := hB0.trans (hb1.mono hs)
    clear HF hb1 hs hB0 CC p3 p4 q3 q4
    go_wp2
    have hfin0 := (hB1.setCell (p := ⟨w.heap.size + 1 + 1, 0, none⟩) (by simp; omega) (.int .i64 0)).setCell (p := ⟨w.heap.size + 1 + 1, 1, none⟩) (by simp; omega) (.int .i64 0)
    have hsz : w.heap.size + 1 + 1 < ((w1.setCell ⟨w.heap.size + 1 + 1, 0, none⟩ (.int .i64 0)).setCell ⟨w.heap.size + 1 + 1, 1, none⟩ (.int .i64 0)).heap.size := by simp; omega
    have a0 : ∀ o, (((w1.setCell ⟨w.heap.size + 1 + 1, 0, none⟩ (.int .i64 0)).setCell ⟨w.heap.size + 1 + 1, 1, none⟩ (.int .i64 0)).alloc o).cell? ⟨w.heap.size + 1 + 1, 0, none⟩ = some (.int .i64 0) := fun o => by
      rw [cell_old _ _ _ hsz]
      simp [go_sem, r1]
    have a1 : ∀ o, (((w1.setCell ⟨w.heap.size + 1 + 1, 0, none⟩ (.int .i64 0)).setCell ⟨w.heap.size + 1 + 1, 1, none⟩ (.int .i64 0)).alloc o).cell? ⟨w.heap.size + 1 + 1, 1, none⟩ = some (.int .i64 0) := fun o => by
      rw [cell_old _ _ _ hsz]
      simp [go_sem, r2]
    exact bodyPost_ret (v := .tuple #[.agg #[.int .i64 0, .int .i64 0], .bool false, .int .i64 c]) (by simp [results, Tryd.results26, go_sem, a0, a1]) rfl ⟨end_meet HE1.out, hfin0.alloc hfin0.size _⟩

set_option maxRecDepth 100000 in
theorem tScale_any (l h k : Int) (w : World) :
    Calls Tryd.prog 17 #[.agg #[.int .i64 l, .int .i64 h], .int .i64 k] w fun e w' => e = .returned (.tuple #[.agg #[.int .i64 (Tm.scaV l h k).1.1, .int .i64 (Tm.scaV l h k).1.2], .int .i64 (Tm.scaV l h k).2]) ∧ Below w.heap.size w w' := by
  have hB0 := w2_below w l h 0 0
  have hs := hB0.size
  have HF := fun W hW => Lib.hid (w2_facts w l h 0 0 (W := W) hW)
  have CC := fun W => Lib.hid (tCheck_any l h W)
  by_cases hc : Tm.chk l h = 0
  · by_cases hk : k < 0 ∨ 1048576 < k
    · have HE1 := Lib.hid (show Tm.scaV l h k = ((0, 0), 2) by unfold Tm.scaV; rw [if_pos hc, if_pos hk])
      rw [hc] at CC
      generalize Tm.scaV l h k = r at *
      clear hc
      rcases hk with hk | hk
      · unfold W2 at *
        go_enter Tryd.func17, Tryd.ntmps17
        go_wp2_with fail
        refine ((CC _).out).mono ?_
        rintro e w1 ⟨rfl, hb1⟩
        obtain ⟨⟨p0, p1, p2, p3, p4⟩, ⟨r0, r1, r2, r3, r4⟩⟩ := (HF _ hb1).out
        have hB1 := hB0.trans (hb1.mono hs)
        clear HF hb1 hs hB0 CC p3 p4
        go_wp2
        have hfin := (hB1.setCell (p := ⟨w.heap.size + 1, 0, none⟩) (by simp <;> omega) (.int .i64 0)).setCell (p := ⟨w.heap.size + 1, 1, none⟩) (by simp <;> omega) (.int .i64 0)
        exact bodyPost_ret (v := .tuple #[.agg #[.int .i64 0, .int .i64 0], .int .i64 2]) (by simp [results, Tryd.results17, go_sem, r1, r2]) rfl ⟨end_span HE1.out, hfin⟩
      · unfold W2 at *
        go_enter Tryd.func17, Tryd.ntmps17
        go_wp2_with fail
        refine ((CC _).out).mono ?_
        rintro e w1 ⟨rfl, hb1⟩
        obtain ⟨⟨p0, p1, p2, p3, p4⟩, ⟨r0, r1, r2, r3, r4⟩⟩ := (HF _ hb1).out
        have hB1 := hB0.trans (hb1.mono hs)
        clear HF hb1 hs hB0 CC p3 p4
        go_wp2
        have hfin := (hB1.setCell (p := ⟨w.heap.size + 1, 0, none⟩) (by simp <;> omega) (.int .i64 0)).setCell (p := ⟨w.heap.size + 1, 1, none⟩) (by simp <;> omega) (.int .i64 0)
        exact bodyPost_ret (v := .tuple #[.agg #[.int .i64 0, .int .i64 0], .int .i64 2]) (by simp [results, Tryd.results17, go_sem, r1, r2]) rfl ⟨end_span HE1.out, hfin⟩
    · have HE := Lib.hid (show Tm.scaV l h k = Tm.limV (k * l) (k * h) by unfold Tm.scaV; rw [if_pos hc, if_neg hk])
      rw [hc] at CC
      have CL := fun W => Lib.hid (tLimit_any (k * l) (k * h) W)
      have hz := Tm.chk_zero.1 hc
      have hk0 : 0 ≤ k ∧ k ≤ 1048576 := by omega
      have m1 : 0 ≤ k * l := Int.mul_nonneg (by omega) (by omega)
      have m2 : k * l ≤ 1048576 * 1000000 := Int.mul_le_mul (by omega) (by omega) (by omega) (by omega)
      have m3 : 0 ≤ k * h := Int.mul_nonneg (by omega) (by omega)
      have m4 : k * h ≤ 1048576 * 1000000 := Int.mul_le_mul (by omega) (by omega) (by omega) (by omega)
      have HE1 := HE
      generalize Tm.scaV l h k = r at *
      generalize Tm.limV (k * l) (k * h) = u at *
      obtain ⟨⟨x, y⟩, z⟩ := u
      simp only [] at CL
      clear HE hz hc hk
      unfold W2 at *
      go_enter Tryd.func17, Tryd.ntmps17
      go_wp2_with fail
      refine ((CC _).out).mono ?_
      rintro e w1 ⟨rfl, hb1⟩
      obtain ⟨⟨p0, p1, p2, p3, p4⟩, ⟨r0, r1, r2, r3, r4⟩⟩ := (HF _ hb1).out
      have hB1 := hB0.trans (hb1.mono hs)
      clear HF hb1 hs hB0 CC p3 p4
      go_wp2_with fail
      refine ((CL _).out).mono ?_
      rintro e w2 ⟨rfl, hb2⟩
      have hB2 := hB1.trans (hb2.mono hB1.size)
      have HR : PairI w1 (w.heap.size + 1) 0 0 := ⟨r0, r1, r2, r3, r4⟩
      obtain ⟨s0, s1, s2, s3, s4⟩ := HR.below r0 hb2
      clear hb2 hB1 CL HR p0 p1 p2 r0 r1 r2 r3 r4
      go_wp2
      have hfin := (hB2.setCell (p := ⟨w.heap.size + 1, 0, none⟩) (by simp <;> omega) (.int .i64 x)).setCell (p := ⟨w.heap.size + 1, 1, none⟩) (by simp <;> omega) (.int .i64 y)
      exact bodyPost_ret (v := .tuple #[.agg #[.int .i64 x, .int .i64 y], .int .i64 z]) (by simp [results, Tryd.results17, go_sem, s1, s2]) rfl ⟨end_span HE1.out, hfin⟩
  · have HE1 := Lib.hid (show Tm.scaV l h k = ((0, 0), Tm.chk l h) by unfold Tm.scaV; rw [if_neg hc])
    have hne : (Tm.chk l h != 0) = true := by simpa using hc
    generalize Tm.scaV l h k = r at *
    generalize Tm.chk l h = c at *
    clear hc
    unfold W2 at *
    go_enter Tryd.func17, Tryd.ntmps17
    go_wp2_with fail
    refine ((CC _).out).mono ?_
    rintro e w1 ⟨rfl, hb1⟩
    obtain ⟨⟨p0, p1, p2, p3, p4⟩, ⟨r0, r1, r2, r3, r4⟩⟩ := (HF _ hb1).out
    have hB1 := hB0.trans (hb1.mono hs)
    clear HF hb1 hs hB0 CC p3 p4
    go_wp2
    have hfin := (hB1.setCell (p := ⟨w.heap.size + 1, 0, none⟩) (by simp <;> omega) (.int .i64 0)).setCell (p := ⟨w.heap.size + 1, 1, none⟩) (by simp <;> omega) (.int .i64 0)
    exact bodyPost_ret (v := .tuple #[.agg #[.int .i64 0, .int .i64 0], .int .i64 c]) (by simp [results, Tryd.results17, go_sem, r1, r2]) rfl ⟨end_span HE1.out, hfin⟩

set_option maxRecDepth 100000 in
theorem rScale_any (l h k : Int) (w : World) :
    Calls Tryd.prog 18 #[.agg #[.int .i64 l, .int .i64 h], .int .i64 k] w fun e w' => e = .returned (.tuple #[.agg #[.int .i64 (Tm.scaV l h k).1.1, .int .i64 (Tm.scaV l h k).1.2], .int .i64 (Tm.scaV l h k).2]) ∧ Below w.heap.size w w' := by
  have hB0 := w2_below w l h 0 0
  have hs := hB0.size
  have HF := fun W hW => Lib.hid (w2_facts w l h 0 0 (W := W) hW)
  have CC := fun W => Lib.hid (rCheck_any l h W)
  by_cases hc : Tm.chk l h = 0
  · by_cases hk : k < 0 ∨ 1048576 < k
    · have HE1 := Lib.hid (show Tm.scaV l h k = ((0, 0), 2) by unfold Tm.scaV; rw [if_pos hc, if_pos hk])
      rw [hc] at CC
      generalize Tm.scaV l h k = r at *
      clear hc
      rcases hk with hk | hk
      · unfold W2 at *
        go_enter Tryd.func18, Tryd.ntmps18
        go_wp2_with fail
        refine ((CC _).out).mono ?_
        rintro e w1 ⟨rfl, hb1⟩
        obtain ⟨⟨p0, p1, p2, p3, p4⟩, ⟨r0, r1, r2, r3, r4⟩⟩ := (HF _ hb1).out
        have hB1 := hB0.trans (hb1.mono hs)
        clear HF hb1 hs hB0 CC p3 p4
        go_wp2
        have hfin := (hB1.setCell (p := ⟨w.heap.size + 1, 0, none⟩) (by simp <;> omega) (.int .i64 0)).setCell (p := ⟨w.heap.size + 1, 1, none⟩) (by simp <;> omega) (.int .i64 0)
        exact bodyPost_ret (v := .tuple #[.agg #[.int .i64 0, .int .i64 0], .int .i64 2]) (by simp [results, Tryd.results18, go_sem, r1, r2]) rfl ⟨end_span HE1.out, hfin⟩
      · unfold W2 at *
        go_enter Tryd.func18, Tryd.ntmps18
        go_wp2_with fail
        refine ((CC _).out).mono ?_
        rintro e w1 ⟨rfl, hb1⟩
        obtain ⟨⟨p0, p1, p2, p3, p4⟩, ⟨r0, r1, r2, r3, r4⟩⟩ := (HF _ hb1).out
        have hB1 := hB0.trans (hb1.mono hs)
        clear HF hb1 hs hB0 CC p3 p4
        go_wp2
        have hfin := (hB1.setCell (p := ⟨w.heap.size + 1, 0, none⟩) (by simp <;> omega) (.int .i64 0)).setCell (p := ⟨w.heap.size + 1, 1, none⟩) (by simp <;> omega) (.int .i64 0)
        exact bodyPost_ret (v := .tuple #[.agg #[.int .i64 0, .int .i64 0], .int .i64 2]) (by simp [results, Tryd.results18, go_sem, r1, r2]) rfl ⟨end_span HE1.out, hfin⟩
    · have HE := Lib.hid (show Tm.scaV l h k = Tm.limV (k * l) (k * h) by unfold Tm.scaV; rw [if_pos hc, if_neg hk])
      rw [hc] at CC
      have CL := fun W => Lib.hid (rLimit_any (k * l) (k * h) W)
      have hz := Tm.chk_zero.1 hc
      have hk0 : 0 ≤ k ∧ k ≤ 1048576 := by omega
      have m1 : 0 ≤ k * l := Int.mul_nonneg (by omega) (by omega)
      have m2 : k * l ≤ 1048576 * 1000000 := Int.mul_le_mul (by omega) (by omega) (by omega) (by omega)
      have m3 : 0 ≤ k * h := Int.mul_nonneg (by omega) (by omega)
      have m4 : k * h ≤ 1048576 * 1000000 := Int.mul_le_mul (by omega) (by omega) (by omega) (by omega)
      have HE1 := HE
      generalize Tm.scaV l h k = r at *
      generalize Tm.limV (k * l) (k * h) = u at *
      obtain ⟨⟨x, y⟩, z⟩ := u
      simp only [] at CL
      clear HE hz hc hk
      unfold W2 at *
      go_enter Tryd.func18, Tryd.ntmps18
      go_wp2_with fail
      refine ((CC _).out).mono ?_
      rintro e w1 ⟨rfl, hb1⟩
      obtain ⟨⟨p0, p1, p2, p3, p4⟩, ⟨r0, r1, r2, r3, r4⟩⟩ := (HF _ hb1).out
      have hB1 := hB0.trans (hb1.mono hs)
      clear HF hb1 hs hB0 CC p3 p4
      go_wp2_with fail
      refine ((CL _).out).mono ?_
      rintro e w2 ⟨rfl, hb2⟩
      have hB2 := hB1.trans (hb2.mono hB1.size)
      have HR : PairI w1 (w.heap.size + 1) 0 0 := ⟨r0, r1, r2, r3, r4⟩
      obtain ⟨s0, s1, s2, s3, s4⟩ := HR.below r0 hb2
      clear hb2 hB1 CL HR p0 p1 p2 r0 r1 r2 r3 r4
      go_wp2
      have hfin := (hB2.setCell (p := ⟨w.heap.size + 1, 0, none⟩) (by simp <;> omega) (.int .i64 x)).setCell (p := ⟨w.heap.size + 1, 1, none⟩) (by simp <;> omega) (.int .i64 y)
      exact bodyPost_ret (v := .tuple #[.agg #[.int .i64 x, .int .i64 y], .int .i64 z]) (by simp [results, Tryd.results18, go_sem, s1, s2]) rfl ⟨end_span HE1.out, hfin⟩
  · have HE1 := Lib.hid (show Tm.scaV l h k = ((0, 0), Tm.chk l h) by unfold Tm.scaV; rw [if_neg hc])
    have hne : (Tm.chk l h != 0) = true := by simpa using hc
    generalize Tm.scaV l h k = r at *
    generalize Tm.chk l h = c at *
    clear hc
    unfold W2 at *
    go_enter Tryd.func18, Tryd.ntmps18
    go_wp2_with fail
    refine ((CC _).out).mono ?_
    rintro e w1 ⟨rfl, hb1⟩
    obtain ⟨⟨p0, p1, p2, p3, p4⟩, ⟨r0, r1, r2, r3, r4⟩⟩ := (HF _ hb1).out
    have hB1 := hB0.trans (hb1.mono hs)
    clear HF hb1 hs hB0 CC p3 p4
    go_wp2
    have hfin := (hB1.setCell (p := ⟨w.heap.size + 1, 0, none⟩) (by simp <;> omega) (.int .i64 0)).setCell (p := ⟨w.heap.size + 1, 1, none⟩) (by simp <;> omega) (.int .i64 0)
    exact bodyPost_ret (v := .tuple #[.agg #[.int .i64 0, .int .i64 0], .int .i64 c]) (by simp [results, Tryd.results18, go_sem, r1, r2]) rfl ⟨end_span HE1.out, hfin⟩

end Go.Proofs.YtgblodnggeabjabDoor
