/- The order of edges, and the sort by it. -/
import Derived.Test.YtkjhockppkdakaaDw
import Derived.Test.YtkjhockppkdakaaShelf
import Derived.Shelf.SlSortCmp.NoneTotal
namespace De
/-- What cmp.Or of two comparisons is. -/
def ord (x y : Nat × Nat) : Int := if Go.Lib.compareInt x.1 y.1 ≠ 0 then Go.Lib.compareInt x.1 y.1 else Go.Lib.compareInt x.2 y.2
end De
namespace Go.Proofs.Ytkjhockppkdakaa
open Go.RowKit Go.Shelf Go.Sort

theorem isNaN_any (x : Int) (w : World) : Calls Try.prog 74 #[.int .i64 x] w fun e w' => e = .returned (.bool false) ∧ w' = w := by
  go_enter Try.func74, Try.ntmps74
  go_wp2
  go_ret
  exact ⟨by simp, rfl⟩

theorem cmpU_any (x y : Int) (w : World) : Calls Try.prog 63 #[.int .i64 x, .int .i64 y] w fun e w' => e = .returned (.int .i64 (Go.Lib.compareInt x y)) ∧ w' = w := by
  go_enter Try.func63, Try.ntmps63
  go_wp2_with (go_at_call 74; refine (isNaN_any _ _).mono ?_; rintro e w' ⟨rfl, hw⟩; rw [hw])
  all_goals (go_ret; refine ⟨?_, rfl⟩; unfold Go.Lib.compareInt; (repeat' split) <;> first | rfl | (exfalso; omega))

theorem orI_any (a b : Int) (B : Nat) (w : World) (h0 : w.cell? ⟨B, 0, none⟩ = some (.int .i64 a)) (h1 : w.cell? ⟨B, 1, none⟩ = some (.int .i64 b)) :
    Calls Try.prog 62 #[.slice (some ⟨B, 0, none⟩) 2 2] w fun e w' => e = .returned (.int .i64 (if a ≠ 0 then a else b)) ∧ w' = w := by
  by_cases ha : a = 0
  · by_cases hb : b = 0
    · subst ha; subst hb
      go_enter Try.func62, Try.ntmps62
      go_wp2
      refine wp_loop_rounds 3 ?_
      rw [rounds_succ]
      go_wp2
      rw [rounds_succ]
      go_wp2
      rw [rounds_succ]
      go_wp2
      go_ret
      exact ⟨by simp, rfl⟩
    · have hb' : (b != 0) = true := by simp [hb]
      subst ha
      go_enter Try.func62, Try.ntmps62
      go_wp2
      refine wp_loop_rounds 3 ?_
      rw [rounds_succ]
      go_wp2
      rw [rounds_succ]
      go_wp2
      go_ret
      exact ⟨by simp, rfl⟩
  · have ha' : (a != 0) = true := by simp [ha]
    rw [if_pos ha]
    go_enter Try.func62, Try.ntmps62
    go_wp2
    refine wp_loop_rounds 3 ?_
    simp only [rounds_succ]
    go_wp2
    go_ret
    exact ⟨rfl, rfl⟩

/-- A world that is w but for draws and new blocks. -/
def OrdW (w W : World) : Prop := ∃ q os, W = grow (w.drewN q) os
theorem cell_pair_new (w : World) (a b : Value) (T : TypeId) : (w.alloc (.cells #[a, b] T)).cell? ⟨w.heap.size, 0, none⟩ = some a ∧ (w.alloc (.cells #[a, b] T)).cell? ⟨w.heap.size, 1, none⟩ = some b := by simp

set_option maxHeartbeats 1000000 in
set_option maxRecDepth 100000 in
theorem order_any (x y : Nat × Nat) (w : World) : Calls Try.prog 61 #[.agg #[.int .i64 (x.1 : Int), .int .i64 (x.2 : Int)], .agg #[.int .i64 (y.1 : Int), .int .i64 (y.2 : Int)]] w fun e w' => e = .returned (.int .i64 (De.ord x y)) ∧ ∃ q os, w' = grow (w.drewN q) os := by
  obtain ⟨PA, LA, zA⟩ := edg_new w (x.1 : Int) (x.2 : Int) 60
  obtain ⟨P1, LB, zB⟩ := edg_new (w.alloc (.cells #[.int .i64 (x.1 : Int), .int .i64 (x.2 : Int)] 60)) (y.1 : Int) (y.2 : Int) 60
  have P0 := PA.step LB
  rw [zA] at P1 zB
  unfold De.ord
  have C1 := fun W => cmpU_any (x.1 : Int) (y.1 : Int) W
  have C2 := fun W => cmpU_any (x.2 : Int) (y.2 : Int) W
  generalize Go.Lib.compareInt (x.1 : Int) (y.1 : Int) = a at *
  generalize Go.Lib.compareInt (x.2 : Int) (y.2 : Int) = b at *
  have hg0 : ((w.alloc (.cells #[.int .i64 (x.1 : Int), .int .i64 (x.2 : Int)] 60)).alloc (.cells #[.int .i64 (y.1 : Int), .int .i64 (y.2 : Int)] 60)) = grow (w.drewN 0) #[.cells #[.int .i64 (x.1 : Int), .int .i64 (x.2 : Int)] 60, .cells #[.int .i64 (y.1 : Int), .int .i64 (y.2 : Int)] 60] := by
    rw [alloc_eq_grow, alloc_eq_grow, grow_grow]; rfl
  generalize hX : (w.alloc (.cells #[.int .i64 (x.1 : Int), .int .i64 (x.2 : Int)] 60)).alloc (.cells #[.int .i64 (y.1 : Int), .int .i64 (y.2 : Int)] 60) = X at *
  obtain ⟨p0, p1, p2⟩ := id P0
  obtain ⟨q0, q1, q2⟩ := id P1
  have z0 : X.heap.size = w.heap.size + 2 := zB
  have HG := Lib.hid hg0
  clear P0 P1 PA LA LB zA zB hg0
  have C3 : ∀ W, W.cell? ⟨w.heap.size + 2, 0, none⟩ = some (.int .i64 a) → W.cell? ⟨w.heap.size + 2, 1, none⟩ = some (.int .i64 b) → Calls Try.prog 62 #[.slice (some ⟨w.heap.size + 2, 0, none⟩) 2 2] W fun e w' => e = .returned (.int .i64 (if a ≠ 0 then a else b)) ∧ w' = W := fun W h0 h1 => orI_any a b _ W h0 h1
  generalize (if a ≠ 0 then a else b) = r at *
  have hmix : Try.prog.follows .mixedOrders = true := by kernel_rfl
  go_enter Try.func61, Try.ntmps61
  go_wp2
  have g1 : X.drew.cell? ⟨w.heap.size, 0, none⟩ = some (.int .i64 (x.1 : Int)) := p1
  have g2 : X.drew.cell? ⟨w.heap.size, 1, none⟩ = some (.int .i64 (x.2 : Int)) := p2
  have g3 : X.drew.cell? ⟨w.heap.size + 1, 0, none⟩ = some (.int .i64 (y.1 : Int)) := q1
  have g4 : X.drew.cell? ⟨w.heap.size + 1, 1, none⟩ = some (.int .i64 (y.2 : Int)) := q2
  have hbY : Below X.heap.size X (X.alloc (.cells #[.int .i64 a, .int .i64 b] 3)).drew := ((Below.refl X.heap.size X).alloc (Nat.le_refl _) _).drew
  have k1 := (hbY.cell (p := ⟨w.heap.size, 0, none⟩) p0).trans p1
  have k2 := (hbY.cell (p := ⟨w.heap.size, 1, none⟩) p0).trans p2
  have k3 := (hbY.cell (p := ⟨w.heap.size + 1, 0, none⟩) q0).trans q1
  have k4 := (hbY.cell (p := ⟨w.heap.size + 1, 1, none⟩) q0).trans q2
  have HW1 : OrdW w X.drew := ⟨1, _, by rw [HG.out]; rfl⟩
  have HW2 : OrdW w (X.alloc (.cells #[.int .i64 a, .int .i64 b] 3)).drew := ⟨1, _, by rw [HG.out, alloc_eq_grow, grow_grow]; rfl⟩
  have k5 : (X.alloc (.cells #[.int .i64 a, .int .i64 b] 3)).drew.cell? ⟨w.heap.size + 2, 0, none⟩ = some (.int .i64 a) := by rw [← z0]; exact (cell_pair_new X _ _ _).1
  have k6 : (X.alloc (.cells #[.int .i64 a, .int .i64 b] 3)).drew.cell? ⟨w.heap.size + 2, 1, none⟩ = some (.int .i64 b) := by rw [← z0]; exact (cell_pair_new X _ _ _).2
  clear hbY HG hX
  go_region_held3 (fun W => (W.cell? ⟨w.heap.size, 0, none⟩ = some (.int .i64 (x.1 : Int)) ∧ W.cell? ⟨w.heap.size, 1, none⟩ = some (.int .i64 (x.2 : Int)) ∧ W.cell? ⟨w.heap.size + 1, 0, none⟩ = some (.int .i64 (y.1 : Int)) ∧ W.cell? ⟨w.heap.size + 1, 1, none⟩ = some (.int .i64 (y.2 : Int))) ∧ OrdW w W)
    (first | (refine ⟨⟨?_, ?_, ?_, ?_⟩, ?_⟩ <;> with_reducible assumption) | (go_split_ands; refine ⟨⟨?_, ?_, ?_, ?_⟩, ?_⟩ <;> with_reducible assumption))
    (first | (go_at_call 63; (with_reducible first | refine (C1 _).mono ?_ | refine (C2 _).mono ?_); rintro e w2 ⟨rfl, rfl⟩) | (go_at_call 62; (with_reducible refine (C3 _ k5 k6).mono ?_); rintro e w2 ⟨rfl, rfl⟩))
  go_wp2
  go_ret
  exact ⟨rfl, HW2⟩
end Go.Proofs.Ytkjhockppkdakaa
