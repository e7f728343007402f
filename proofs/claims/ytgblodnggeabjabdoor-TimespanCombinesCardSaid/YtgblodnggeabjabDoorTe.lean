/- The contracts of Add, Later, Earlier, Hull, Meet, Within, Compare, Scale of package timespan. -/
import Derived.Test.YtgblodnggeabjabDoorTd
namespace Go.Proofs.YtgblodnggeabjabDoor
open Go.RowKit

theorem cell_old (w : World) (o : Obj) (p : Addr) (h : p.block < w.heap.size) : (w.alloc o).cell? p = w.cell? p :=
  ((Below.refl w.heap.size w).alloc (Nat.le_refl _) o).cell (p := p) h
theorem opV_bad {f g : Int → Int → Int} {l h m k : Int} (hc : ¬ Tm.chk2 l h m k = 0) : Tm.opV f g l h m k = ((0, 0), Tm.chk2 l h m k) := by unfold Tm.opV; rw [if_neg hc]
theorem opV_good {f g : Int → Int → Int} {l h m k : Int} (hc : Tm.chk2 l h m k = 0) : Tm.opV f g l h m k = ((f l m, g h k), 0) := by unfold Tm.opV; rw [if_pos hc]

set_option maxRecDepth 100000 in
theorem tLater_any (l h m k : Int) (w : World) :
    Calls Tryd.prog 20 #[.agg #[.int .i64 l, .int .i64 h], .agg #[.int .i64 m, .int .i64 k]] w fun e w' => e = .returned (.tuple #[.agg #[.int .i64 (Tm.opV Tm.great Tm.great l h m k).1.1, .int .i64 (Tm.opV Tm.great Tm.great l h m k).1.2], .int .i64 (Tm.opV Tm.great Tm.great l h m k).2]) ∧ Below w.heap.size w w' := by
  have hB0 := w3_below w l h m k
  have hs := hB0.size
  have HF := fun W hW => Lib.hid (w3_facts w l h m k (W := W) hW)
  have CC := fun W => Lib.hid (tCombineGG_any l h m k W)
  generalize Tm.opV Tm.great Tm.great l h m k = r at *
  obtain ⟨⟨x, y⟩, z⟩ := r
  simp only [] at CC ⊢
  unfold W3 W2 at *
  go_enter Tryd.func20, Tryd.ntmps20
  go_wp2_with fail
  refine ((CC _).out).mono ?_
  rintro e w1 ⟨rfl, hb1⟩
  obtain ⟨⟨p0, p1, p2, p3, p4⟩, ⟨q0, q1, q2, q3, q4⟩, ⟨r0, r1, r2, r3, r4⟩⟩ := (HF _ hb1).out
  have hB1 := hB0.trans (hb1.mono hs)
  clear HF hb1 hs hB0 CC p3 p4 q3 q4
  go_wp2
  have hfin := (hB1.setCell (p := ⟨w.heap.size + 1 + 1, 0, none⟩) (by simp; omega) (.int .i64 x)).setCell (p := ⟨w.heap.size + 1 + 1, 1, none⟩) (by simp; omega) (.int .i64 y)
  exact bodyPost_ret (v := .tuple #[.agg #[.int .i64 x, .int .i64 y], .int .i64 z]) (by simp [results, Tryd.results20, go_sem, r1, r2]) rfl ⟨rfl, hfin⟩

set_option maxRecDepth 100000 in
theorem tEarlier_any (l h m k : Int) (w : World) :
    Calls Tryd.prog 22 #[.agg #[.int .i64 l, .int .i64 h], .agg #[.int .i64 m, .int .i64 k]] w fun e w' => e = .returned (.tuple #[.agg #[.int .i64 (Tm.opV Tm.less Tm.less l h m k).1.1, .int .i64 (Tm.opV Tm.less Tm.less l h m k).1.2], .int .i64 (Tm.opV Tm.less Tm.less l h m k).2]) ∧ Below w.heap.size w w' := by
  have hB0 := w3_below w l h m k
  have hs := hB0.size
  have HF := fun W hW => Lib.hid (w3_facts w l h m k (W := W) hW)
  have CC := fun W => Lib.hid (tCombineLL_any l h m k W)
  generalize Tm.opV Tm.less Tm.less l h m k = r at *
  obtain ⟨⟨x, y⟩, z⟩ := r
  simp only [] at CC ⊢
  unfold W3 W2 at *
  go_enter Tryd.func22, Tryd.ntmps22
  go_wp2_with fail
  refine ((CC _).out).mono ?_
  rintro e w1 ⟨rfl, hb1⟩
  obtain ⟨⟨p0, p1, p2, p3, p4⟩, ⟨q0, q1, q2, q3, q4⟩, ⟨r0, r1, r2, r3, r4⟩⟩ := (HF _ hb1).out
  have hB1 := hB0.trans (hb1.mono hs)
  clear HF hb1 hs hB0 CC p3 p4 q3 q4
  go_wp2
  have hfin := (hB1.setCell (p := ⟨w.heap.size + 1 + 1, 0, none⟩) (by simp; omega) (.int .i64 x)).setCell (p := ⟨w.heap.size + 1 + 1, 1, none⟩) (by simp; omega) (.int .i64 y)
  exact bodyPost_ret (v := .tuple #[.agg #[.int .i64 x, .int .i64 y], .int .i64 z]) (by simp [results, Tryd.results22, go_sem, r1, r2]) rfl ⟨rfl, hfin⟩

set_option maxRecDepth 100000 in
theorem tHull_any (l h m k : Int) (w : World) :
    Calls Tryd.prog 24 #[.agg #[.int .i64 l, .int .i64 h], .agg #[.int .i64 m, .int .i64 k]] w fun e w' => e = .returned (.tuple #[.agg #[.int .i64 (Tm.opV Tm.less Tm.great l h m k).1.1, .int .i64 (Tm.opV Tm.less Tm.great l h m k).1.2], .int .i64 (Tm.opV Tm.less Tm.great l h m k).2]) ∧ Below w.heap.size w w' := by
  have hB0 := w3_below w l h m k
  have hs := hB0.size
  have HF := fun W hW => Lib.hid (w3_facts w l h m k (W := W) hW)
  have CC := fun W => Lib.hid (tCombineLG_any l h m k W)
  generalize Tm.opV Tm.less Tm.great l h m k = r at *
  obtain ⟨⟨x, y⟩, z⟩ := r
  simp only [] at CC ⊢
  unfold W3 W2 at *
  go_enter Tryd.func24, Tryd.ntmps24
  go_wp2_with fail
  refine ((CC _).out).mono ?_
  rintro e w1 ⟨rfl, hb1⟩
  obtain ⟨⟨p0, p1, p2, p3, p4⟩, ⟨q0, q1, q2, q3, q4⟩, ⟨r0, r1, r2, r3, r4⟩⟩ := (HF _ hb1).out
  have hB1 := hB0.trans (hb1.mono hs)
  clear HF hb1 hs hB0 CC p3 p4 q3 q4
  go_wp2
  have hfin := (hB1.setCell (p := ⟨w.heap.size + 1 + 1, 0, none⟩) (by simp; omega) (.int .i64 x)).setCell (p := ⟨w.heap.size + 1 + 1, 1, none⟩) (by simp; omega) (.int .i64 y)
  exact bodyPost_ret (v := .tuple #[.agg #[.int .i64 x, .int .i64 y], .int .i64 z]) (by simp [results, Tryd.results24, go_sem, r1, r2]) rfl ⟨rfl, hfin⟩

set_option maxRecDepth 100000 in
theorem tAdd_any (l h m k : Int) (w : World) :
    Calls Tryd.prog 15 #[.agg #[.int .i64 l, .int .i64 h], .agg #[.int .i64 m, .int .i64 k]] w fun e w' => e = .returned (.tuple #[.agg #[.int .i64 (Tm.addV l h m k).1.1, .int .i64 (Tm.addV l h m k).1.2], .int .i64 (Tm.addV l h m k).2]) ∧ Below w.heap.size w w' := by
  have hB0 := w3_below w l h m k
  have hs := hB0.size
  have HF := fun W hW => Lib.hid (w3_facts w l h m k (W := W) hW)
  have CC := fun W => Lib.hid (tCombinePP_any l h m k W)
  by_cases hc : Tm.chk2 l h m k = 0
  · rw [opV_good hc] at CC
    have HE := Lib.hid (show Tm.addV l h m k = Tm.limV (l + m) (h + k) by unfold Tm.addV; rw [if_pos hc])
    rw [HE.out]
    simp only [Tm.plus] at CC
    have CL := fun W => Lib.hid (tLimit_any (l + m) (h + k) W)
    generalize Tm.limV (l + m) (h + k) = r at *
    obtain ⟨⟨x, y⟩, z⟩ := r
    simp only [] at CC CL ⊢
    generalize l + m = s at *
    generalize h + k = t at *
    clear HE hc
    unfold W3 W2 at *
    go_enter Tryd.func15, Tryd.ntmps15
    go_wp2_with fail
    refine ((CC _).out).mono ?_
    rintro e w1 ⟨rfl, hb1⟩
    have HF1 := Lib.hid (HF _ hb1).out.2.2
    have hB1 := hB0.trans (hb1.mono hs)
    clear HF hb1 hs hB0 CC
    go_wp2_with fail
    refine ((CL _).out).mono ?_
    rintro e w2 ⟨rfl, hb2⟩
    obtain ⟨r0, r1, r2, r3, r4⟩ := HF1.out.below (by have := HF1.out.1; simp; omega) (below_box (Nat.le_refl _) hb2)
    have hB2 := hB1.trans ((below_box (Nat.le_refl _) hb2).mono hB1.size)
    clear hb2 hB1 CL HF1
    go_wp2
    have hfin := (hB2.setCell (p := ⟨w.heap.size + 1 + 1, 0, none⟩) (by simp; omega) (.int .i64 x)).setCell (p := ⟨w.heap.size + 1 + 1, 1, none⟩) (by simp; omega) (.int .i64 y)
    exact bodyPost_ret (v := .tuple #[.agg #[.int .i64 x, .int .i64 y], .int .i64 z]) (by simp [results, Tryd.results15, go_sem, r1, r2]) rfl ⟨rfl, hfin⟩
  · rw [opV_bad hc] at CC
    have HE := Lib.hid (show Tm.addV l h m k = ((0, 0), Tm.chk2 l h m k) by unfold Tm.addV; rw [if_neg hc])
    rw [HE.out]
    have hne : (Tm.chk2 l h m k != 0) = true := by simpa using hc
    generalize Tm.chk2 l h m k = c at *
    simp only [] at CC ⊢
    clear HE hc
    unfold W3 W2 at *
    go_enter Tryd.func15, Tryd.ntmps15
    go_wp2_with fail
    refine ((CC _).out).mono ?_
    rintro e w1 ⟨rfl, hb1⟩
    obtain ⟨⟨p0, p1, p2, p3, p4⟩, ⟨q0, q1, q2, q3, q4⟩, ⟨r0, r1, r2, r3, r4⟩⟩ := (HF _ hb1).out
    have hB1 := hB0.trans (hb1.mono hs)
    clear HF hb1 hs hB0 CC p3 p4 q3 q4
    go_wp2
    have hfin0 := (hB1.setCell (p := ⟨w.heap.size + 1 + 1, 0, none⟩) (by simp; omega) (.int .i64 0)).setCell (p := ⟨w.heap.size + 1 + 1, 1, none⟩) (by simp; omega) (.int .i64 0)
    have hfin := hfin0.alloc hfin0.size (.cells #[.int .i64 0, .int .i64 0] 23)
    have hsz : w.heap.size + 1 + 1 < ((w1.setCell ⟨w.heap.size + 1 + 1, 0, none⟩ (.int .i64 0)).setCell ⟨w.heap.size + 1 + 1, 1, none⟩ (.int .i64 0)).heap.size := by simp; omega
    have a0 : (((w1.setCell ⟨w.heap.size + 1 + 1, 0, none⟩ (.int .i64 0)).setCell ⟨w.heap.size + 1 + 1, 1, none⟩ (.int .i64 0)).alloc (.cells #[.int .i64 0, .int .i64 0] 23)).cell? ⟨w.heap.size + 1 + 1, 0, none⟩ = some (.int .i64 0) := by
      rw [cell_old _ _ _ hsz]
      simp [go_sem, r1]
    have a1 : (((w1.setCell ⟨w.heap.size + 1 + 1, 0, none⟩ (.int .i64 0)).setCell ⟨w.heap.size + 1 + 1, 1, none⟩ (.int .i64 0)).alloc (.cells #[.int .i64 0, .int .i64 0] 23)).cell? ⟨w.heap.size + 1 + 1, 1, none⟩ = some (.int .i64 0) := by
      rw [cell_old _ _ _ hsz]
      simp [go_sem, r2]
    exact bodyPost_ret (v := .tuple #[.agg #[.int .i64 0, .int .i64 0], .int .i64 c]) (by simp [results, Tryd.results15, go_sem, a0, a1]) rfl ⟨rfl, hfin⟩

/-- Two spans in new variables, and both in a list. -/
def W4x (w : World) (l h m k : Int) : World := (W2 w l h m k).alloc (.cells #[.int .i64 l, .int .i64 h, .int .i64 m, .int .i64 k] 23)
theorem w4x_below (w : World) (l h m k : Int) : Below w.heap.size w (W4x w l h m k) := (w2_below w l h m k).alloc (by rw [w2_size]; omega) _
theorem w4x_size (w : World) (l h m k : Int) : (W4x w l h m k).heap.size = w.heap.size + 1 + 1 + 1 := by simp [W4x, w2_size]
theorem w4x_facts (w : World) (l h m k : Int) {W : World} (hW : Below (W4x w l h m k).heap.size (W4x w l h m k) W) : PairI W w.heap.size l h ∧ PairI W (w.heap.size + 1) m k :=
  w2_facts w l h m k (((Below.refl _ _).alloc (Nat.le_refl _) _).trans (hW.mono (by rw [w4x_size, w2_size]; omega)))
theorem w4x_spans (w : World) (l h m k : Int) : SpansAt (W4x w l h m k) (some ⟨w.heap.size + 1 + 1, 0, none⟩) [(l, h), (m, k)] := fun _ => by
  refine ⟨_, _, rfl, by rw [w4x_size]; omega, fun i hi => ?_⟩
  have e := w2_size w l h m k
  have h2 : i = 0 ∨ i = 1 := by simp at hi; omega
  unfold W4x
  rw [← e]
  rcases h2 with rfl | rfl <;> simp
theorem ret_int2 {a b c d : Int} (h : b = a) (h2 : d = c) : Ending.returned (.tuple #[.int .i64 a, .int .i64 c]) = Ending.returned (.tuple #[.int .i64 b, .int .i64 d]) := by rw [h, h2]
theorem ret_bool2 {a b : Bool} {c d : Int} (h : b = a) (h2 : d = c) : Ending.returned (.tuple #[.bool a, .int .i64 c]) = Ending.returned (.tuple #[.bool b, .int .i64 d]) := by rw [h, h2]

set_option maxRecDepth 100000 in
theorem tWithin_any (l h m k : Int) (w : World) :
    Calls Tryd.prog 28 #[.agg #[.int .i64 l, .int .i64 h], .agg #[.int .i64 m, .int .i64 k]] w fun e w' => e = .returned (.tuple #[.bool (Tm.witV l h m k).1, .int .i64 (Tm.witV l h m k).2]) ∧ Below w.heap.size w w' := by
  have hB0 := w4x_below w l h m k
  have hs := hB0.size
  have HF := fun W hW => Lib.hid (w4x_facts w l h m k (W := W) hW)
  have CC := Lib.hid (tCheckAll_any [(l, h), (m, k)] _ 2 _ (w4x_spans w l h m k) (by simp))
  rw [Tm.firstE_two] at CC
  have HE := Lib.hid (show Tm.witV l h m k = if Tm.chk2 l h m k = 0 then (decide (m ≤ l) && decide (h ≤ k), 0) else (false, Tm.chk2 l h m k) from rfl)
  generalize Tm.witV l h m k = r at *
  generalize Tm.chk2 l h m k = c at *
  obtain ⟨x, z⟩ := r
  simp only [] at CC ⊢
  unfold W4x W2 at *
  go_enter Tryd.func28, Tryd.ntmps28
  go_wp2_with fail
  refine (CC.out).mono ?_
  rintro e w1 ⟨rfl, hb1⟩
  obtain ⟨⟨p0, p1, p2, p3, p4⟩, ⟨q0, q1, q2, q3, q4⟩⟩ := (HF _ hb1).out
  have hB1 := hB0.trans (hb1.mono hs)
  clear HF hb1 hs hB0 CC p3 p4 q3 q4
  go_wp2
  all_goals go_ret2
  all_goals (refine ⟨ret_bool2 ?_ ?_, hB1⟩ <;> (have hE := HE.out; clear HE; go_light; grind))

set_option maxRecDepth 100000 in
theorem tCompare_any (l h m k : Int) (w : World) :
    Calls Tryd.prog 30 #[.agg #[.int .i64 l, .int .i64 h], .agg #[.int .i64 m, .int .i64 k]] w fun e w' => e = .returned (.tuple #[.int .i64 (Tm.cmpV l h m k).1, .int .i64 (Tm.cmpV l h m k).2]) ∧ Below w.heap.size w w' := by
  have hB0 := w4x_below w l h m k
  have hs := hB0.size
  have HF := fun W hW => Lib.hid (w4x_facts w l h m k (W := W) hW)
  have CC := Lib.hid (tCheckAll_any [(l, h), (m, k)] _ 2 _ (w4x_spans w l h m k) (by simp))
  rw [Tm.firstE_two] at CC
  have HE := Lib.hid (show Tm.cmpV l h m k = if Tm.chk2 l h m k = 0 then (if h < m then (-1, 0) else if k < l then (1, 0) else (0, 0)) else (0, Tm.chk2 l h m k) from rfl)
  generalize Tm.cmpV l h m k = r at *
  generalize Tm.chk2 l h m k = c at *
  obtain ⟨x, z⟩ := r
  simp only [] at CC ⊢
  unfold W4x W2 at *
  go_enter Tryd.func30, Tryd.ntmps30
  go_wp2_with fail
  refine (CC.out).mono ?_
  rintro e w1 ⟨rfl, hb1⟩
  obtain ⟨⟨p0, p1, p2, p3, p4⟩, ⟨q0, q1, q2, q3, q4⟩⟩ := (HF _ hb1).out
  have hB1 := hB0.trans (hb1.mono hs)
  clear HF hb1 hs hB0 CC p3 p4 q3 q4
  go_wp2
  all_goals go_ret2
  all_goals (refine ⟨ret_int2 ?_ ?_, hB1⟩ <;> (have hE := HE.out; clear HE; go_light; grind))

end Go.Proofs.YtgblodnggeabjabDoor
