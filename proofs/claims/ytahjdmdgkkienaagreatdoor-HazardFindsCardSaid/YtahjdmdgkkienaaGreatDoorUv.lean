/- The contracts of package truth on right tables, and on wrong ones: constants, variables, values, the connectives. -/
import Derived.Shelf.Abstract
import Derived.Test.YtahjdmdgkkienaaGreatDoorUg
import Derived.Test.YtahjdmdgkkienaaGreatDoorUi
namespace Go.Proofs.YtahjdmdgkkienaaGreatDoor
open Go.RowKit Go.Shelf

/-- The words of the variables in their variable. -/
def ColTab (W : World) : Prop := ∀ j, j < 6 → W.cell? ⟨2, j, none⟩ = some (.int .u64 (Tt.col j : Int))
theorem colTab_below {W W' : World} {B : Nat} (h : ColTab W) (hb : Below B W W') (hB : 2 < B) : ColTab W' := fun j hj => (hb.cell (p := ⟨2, j, none⟩) hB).trans (h j hj)

theorem tConst_ok (n : Nat) (v : Bool) (w : World) (hn : n ≤ 6) : Calls Tryz.prog 41 #[.int .i64 n, .bool v] w fun e w' => e = .returned (.tuple #[.agg #[.int .i64 n, .int .u64 ((bif v then Tt.full n else 0 : Nat) : Int)], .int .i64 0]) ∧ Below w.heap.size w w' := by
  have CI := fun W => Lib.hid (tIsN_any n W)
  rw [decide_eq_true (by omega)] at CI
  have CE := fun W => Lib.hid (tEvery_any n W (by omega) (by omega))
  rw [Int.toNat_natCast] at CE
  generalize Tt.full n = m at *
  obtain ⟨P0, L0, z0⟩ := tab1_new w 0 0 29
  generalize hX : w.alloc (.cells #[.int .i64 0, .int .u64 ((0 : Nat) : Int)] 29) = X at *
  change w.alloc (.cells #[.int .i64 0, .int .u64 0] 29) = X at hX
  obtain ⟨p0, p1, p2, p3, p4⟩ := P0
  cases v
  all_goals
    go_enter Tryz.func41, Tryz.ntmps41
    go_wp2_with (first
      | (go_at_call 66; refine ((CI _).out).mono ?_; rintro e w1 ⟨rfl, rfl⟩)
      | (go_at_call 67; refine ((CE _).out).mono ?_; rintro e w1 ⟨rfl, rfl⟩))
  · dsimp only [cond_false]
    exact bodyPost_ret (v := .tuple #[.agg #[.int .i64 n, .int .u64 0], .int .i64 0]) (by simp [results, Tryz.results41, go_sem, p1, p2, z0]) rfl ⟨rfl, by (repeat' (first | exact L0 | refine Below.alloc ?_ (by simp; omega) _ | refine Below.setCell ?_ (by first | exact Nat.le_refl _ | (dsimp only; omega) | (simp; omega)) _ | refine Below.drew ?_))⟩
  · dsimp only [cond_true]
    exact bodyPost_ret (v := .tuple #[.agg #[.int .i64 n, .int .u64 m], .int .i64 0]) (by simp [results, Tryz.results41, go_sem, p1, p2, z0]) rfl ⟨rfl, by (repeat' (first | exact L0 | refine Below.alloc ?_ (by simp; omega) _ | refine Below.setCell ?_ (by first | exact Nat.le_refl _ | (dsimp only; omega) | (simp; omega)) _ | refine Below.drew ?_))⟩

theorem tConst_bad (n : Int) (v : Bool) (w : World) (hn : ¬ (0 ≤ n ∧ n ≤ 6)) : Calls Tryz.prog 41 #[.int .i64 n, .bool v] w fun e w' => e = .returned (.tuple #[.agg #[.int .i64 0, .int .u64 0], .int .i64 2]) ∧ Below w.heap.size w w' := by
  have CI := fun W => Lib.hid (tIsN_any n W)
  rw [decide_eq_false hn] at CI
  obtain ⟨P0, L0, z0⟩ := tab1_new w 0 0 29
  generalize hX : w.alloc (.cells #[.int .i64 0, .int .u64 ((0 : Nat) : Int)] 29) = X at *
  change w.alloc (.cells #[.int .i64 0, .int .u64 0] 29) = X at hX
  obtain ⟨p0, p1, p2, p3, p4⟩ := P0
  go_enter Tryz.func41, Tryz.ntmps41
  go_wp2_with (go_at_call 66; refine ((CI _).out).mono ?_; rintro e w1 ⟨rfl, rfl⟩)
  exact bodyPost_ret (v := .tuple #[.agg #[.int .i64 0, .int .u64 0], .int .i64 2]) (by simp [results, Tryz.results41, go_sem, p1, p2]) rfl ⟨rfl, by (repeat' (first | exact L0 | refine Below.alloc ?_ (by simp; omega) _ | refine Below.setCell ?_ (by first | exact Nat.le_refl _ | (dsimp only; omega) | (simp; omega)) _ | refine Below.drew ?_))⟩

theorem col_full (n i : Nat) (hn : n ≤ 6) : bits .and .u64 (Tt.col i : Int) (Tt.full n : Int) = ((Tt.col i &&& Tt.full n : Nat) : Int) := u64_and_nat _ _ (Tt.col_lt i) (Tt.full_lt hn)
set_option maxRecDepth 100000 in
theorem tVar_ok (n i : Nat) (w : World) (hn : n ≤ 6) (hi : i < n) (hT : ColTab w) (hg : 2 < w.heap.size) : Calls Tryz.prog 88 #[.int .i64 n, .int .i64 i] w fun e w' => e = .returned (.tuple #[.agg #[.int .i64 n, .int .u64 ((Tt.col i &&& Tt.full n : Nat) : Int)], .int .i64 0]) ∧ Below w.heap.size w w' := by
  have CI := fun W => Lib.hid (tIsN_any n W)
  rw [decide_eq_true (by omega)] at CI
  have CB := fun W => Lib.hid (tIsBelow_any i n W)
  rw [decide_eq_true (by omega)] at CB
  have CE := fun W => Lib.hid (tEvery_any n W (by omega) (by omega))
  rw [Int.toNat_natCast] at CE
  have hb := col_full n i hn
  have hc := hT i (by omega)
  generalize (Tt.col i &&& Tt.full n) = v at *
  generalize Tt.full n = m at *
  generalize Tt.col i = c at *
  obtain ⟨P0, L0, z0⟩ := tab1_new w 0 0 29
  generalize hX : w.alloc (.cells #[.int .i64 0, .int .u64 ((0 : Nat) : Int)] 29) = X at *
  change w.alloc (.cells #[.int .i64 0, .int .u64 0] 29) = X at hX
  have hcX : X.cell? ⟨2, i, none⟩ = some (.int .u64 (c : Int)) := (L0.cell (p := ⟨2, i, none⟩) hg).trans hc
  obtain ⟨p0, p1, p2, p3, p4⟩ := P0
  have hgne : w.heap.size ≠ 2 := by omega
  have i0 : (0 : Int) ≤ (i : Int) := by omega
  have i1 : (i : Int) < 6 := by omega
  go_enter Tryz.func88, Tryz.ntmps88
  go_wp2_with (first
    | (go_at_call 66; refine ((CI _).out).mono ?_; rintro e w1 ⟨rfl, rfl⟩)
    | (go_at_call 102; refine ((CB _).out).mono ?_; rintro e w1 ⟨rfl, rfl⟩))
  go_region_held3 (fun W => W.cell? ⟨2, i, none⟩ = some (.int .u64 (c : Int)))
    (first | assumption | go_keep | exact (World.cell?_setCell_other _ _ _ _ (by simp; omega)).trans ((World.cell?_setCell_other _ _ _ _ (by simp; omega)).trans hcX) | (refine (World.cell?_drew _ _).trans ?_; simp [go_sem, hgne, hcX]; done) | (simp [go_sem, hgne, hcX]; done))
    (first | (go_at_call 67; (with_reducible refine ((CE _).out).mono ?_); rintro e w2 ⟨rfl, rfl⟩))
  go_wp2
  exact bodyPost_ret (v := .tuple #[.agg #[.int .i64 n, .int .u64 v], .int .i64 0]) (by simp [results, Tryz.results88, go_sem, p1, p2]) rfl ⟨rfl, by (repeat' (first | exact L0 | refine Below.alloc ?_ (by simp; omega) _ | refine Below.setCell ?_ (by first | exact Nat.le_refl _ | (dsimp only; omega) | (simp; omega)) _ | refine Below.drew ?_))⟩

theorem tVar_bad (n i : Int) (w : World) (hn : ¬ (0 ≤ n ∧ n ≤ 6) ∨ ¬ (0 ≤ i ∧ i < n)) : Calls Tryz.prog 88 #[.int .i64 n, .int .i64 i] w fun e w' => e = .returned (.tuple #[.agg #[.int .i64 0, .int .u64 0], .int .i64 2]) ∧ Below w.heap.size w w' := by
  have CI := fun W => Lib.hid (tIsN_any n W)
  have CB := fun W => Lib.hid (tIsBelow_any i n W)
  obtain ⟨P0, L0, z0⟩ := tab1_new w 0 0 29
  generalize hX : w.alloc (.cells #[.int .i64 0, .int .u64 ((0 : Nat) : Int)] 29) = X at *
  change w.alloc (.cells #[.int .i64 0, .int .u64 0] 29) = X at hX
  obtain ⟨p0, p1, p2, p3, p4⟩ := P0
  by_cases h1 : 0 ≤ n ∧ n ≤ 6
  · have h2 : ¬ (0 ≤ i ∧ i < n) := by
      rcases hn with h | h
      · exact absurd h1 h
      · exact h
    rw [decide_eq_true h1] at CI
    rw [decide_eq_false h2] at CB
    go_enter Tryz.func88, Tryz.ntmps88
    go_wp2_with (first
      | (go_at_call 66; refine ((CI _).out).mono ?_; rintro e w1 ⟨rfl, rfl⟩)
      | (go_at_call 102; refine ((CB _).out).mono ?_; rintro e w1 ⟨rfl, rfl⟩))
    exact bodyPost_ret (v := .tuple #[.agg #[.int .i64 0, .int .u64 0], .int .i64 2]) (by simp [results, Tryz.results88, go_sem, p1, p2]) rfl ⟨rfl, by (repeat' (first | exact L0 | refine Below.alloc ?_ (by simp; omega) _ | refine Below.setCell ?_ (by first | exact Nat.le_refl _ | (dsimp only; omega) | (simp; omega)) _ | refine Below.drew ?_))⟩
  · rw [decide_eq_false h1] at CI
    go_enter Tryz.func88, Tryz.ntmps88
    go_wp2_with (go_at_call 66; refine ((CI _).out).mono ?_; rintro e w1 ⟨rfl, rfl⟩)
    exact bodyPost_ret (v := .tuple #[.agg #[.int .i64 0, .int .u64 0], .int .i64 2]) (by simp [results, Tryz.results88, go_sem, p1, p2]) rfl ⟨rfl, by (repeat' (first | exact L0 | refine Below.alloc ?_ (by simp; omega) _ | refine Below.setCell ?_ (by first | exact Nat.le_refl _ | (dsimp only; omega) | (simp; omega)) _ | refine Below.drew ?_))⟩

theorem full_not (n b : Nat) (hn : n ≤ 6) (hb : b < 2 ^ 64) : bits .andNot .u64 (Tt.full n : Int) (b : Int) = ((Tt.full n &&& (18446744073709551615 - b) : Nat) : Int) := u64_andNot_nat _ _ (Tt.full_lt hn) (by simpa using hb)
set_option maxRecDepth 100000 in
theorem tNot_ok (n b : Nat) (w : World) (hn : n ≤ 6) (hb : b < 2 ^ 64) (hc : Tt.chk n b = 0) : Calls Tryz.prog 89 #[.agg #[.int .i64 n, .int .u64 b]] w fun e w' => e = .returned (.tuple #[.agg #[.int .i64 n, .int .u64 ((Tt.full n &&& (18446744073709551615 - b) : Nat) : Int)], .int .i64 0]) ∧ Below w.heap.size w w' := by
  have CC := fun W => Lib.hid (tCheck_any n b W hb)
  rw [hc] at CC
  have CE := fun W => Lib.hid (tEvery_any n W (by omega) (by omega))
  rw [Int.toNat_natCast] at CE
  have hv := full_not n b hn hb
  generalize (Tt.full n &&& (18446744073709551615 - b)) = v at *
  generalize Tt.full n = m at *
  obtain ⟨P0, P1, L0, z0⟩ := tab2_new w n b 0 0 29
  generalize hX : (w.alloc (.cells #[.int .i64 n, .int .u64 b] 29)).alloc (.cells #[.int .i64 0, .int .u64 ((0 : Nat) : Int)] 29) = X at *
  change (w.alloc (.cells #[.int .i64 n, .int .u64 b] 29)).alloc (.cells #[.int .i64 0, .int .u64 0] 29) = X at hX
  obtain ⟨p0, p1, p2, p3, p4⟩ := id P0
  obtain ⟨q0, q1, q2, q3, q4⟩ := id P1
  go_enter Tryz.func89, Tryz.ntmps89
  go_wp2_with (go_at_call 72; refine ((CC _).out).mono ?_; rintro e w1 ⟨rfl, hw1⟩; have zw1 := hw1.size; have P0w1 := P0.below (by omega) hw1; obtain ⟨p0aw1, p0bw1, p0cw1, p0dw1, p0ew1⟩ := id P0w1; have P1w1 := P1.below (by omega) hw1; obtain ⟨p1aw1, p1bw1, p1cw1, p1dw1, p1ew1⟩ := id P1w1; have Lw1 := L0.trans (hw1.mono (by omega)); clear hw1)
  go_region_held3 (fun W => W.cell? ⟨w.heap.size, 0, none⟩ = some (.int .i64 n) ∧ W.cell? ⟨w.heap.size, 1, none⟩ = some (.int .u64 b))
    (first | (go_split_ands; refine ⟨?_, ?_⟩ <;> assumption) | go_keep)
    (first | (go_at_call 67; (with_reducible refine ((CE _).out).mono ?_); rintro e w2 ⟨rfl, rfl⟩))
  go_wp2
  exact bodyPost_ret (v := .tuple #[.agg #[.int .i64 n, .int .u64 v], .int .i64 0]) (by simp [results, Tryz.results89, go_sem, p1bw1, p1cw1]) rfl ⟨rfl, by (repeat' (first | exact Lw1 | refine Below.alloc ?_ (by simp; omega) _ | refine Below.setCell ?_ (by first | exact Nat.le_refl _ | (dsimp only; omega) | (simp; omega)) _ | refine Below.drew ?_))⟩

theorem tNot_bad (n : Int) (b : Nat) (w : World) (hb : b < 2 ^ 64) (hc : Tt.chk n b ≠ 0) : Calls Tryz.prog 89 #[.agg #[.int .i64 n, .int .u64 b]] w fun e w' => e = .returned (.tuple #[.agg #[.int .i64 0, .int .u64 0], .int .i64 (Tt.chk n b)]) ∧ Below w.heap.size w w' := by
  have CC := fun W => Lib.hid (tCheck_any n b W hb)
  generalize Tt.chk n b = k at *
  obtain ⟨P0, P1, L0, z0⟩ := tab2_new w n b 0 0 29
  generalize hX : (w.alloc (.cells #[.int .i64 n, .int .u64 b] 29)).alloc (.cells #[.int .i64 0, .int .u64 ((0 : Nat) : Int)] 29) = X at *
  change (w.alloc (.cells #[.int .i64 n, .int .u64 b] 29)).alloc (.cells #[.int .i64 0, .int .u64 0] 29) = X at hX
  obtain ⟨p0, p1, p2, p3, p4⟩ := id P0
  obtain ⟨q0, q1, q2, q3, q4⟩ := id P1
  go_enter Tryz.func89, Tryz.ntmps89
  go_wp2_with (go_at_call 72; refine ((CC _).out).mono ?_; rintro e w1 ⟨rfl, hw1⟩; have zw1 := hw1.size; have P0w1 := P0.below (by omega) hw1; obtain ⟨p0aw1, p0bw1, p0cw1, p0dw1, p0ew1⟩ := id P0w1; have P1w1 := P1.below (by omega) hw1; obtain ⟨p1aw1, p1bw1, p1cw1, p1dw1, p1ew1⟩ := id P1w1; have Lw1 := L0.trans (hw1.mono (by omega)); clear hw1)
  all_goals (first | (exfalso; rename_i hk; simp at hk; exact hc hk) |
    exact bodyPost_ret (v := .tuple #[.agg #[.int .i64 0, .int .u64 0], .int .i64 k]) (by simp [results, Tryz.results89, go_sem, p1bw1, p1cw1]) rfl ⟨rfl, by (repeat' (first | exact Lw1 | refine Below.alloc ?_ (by simp; omega) _ | refine Below.setCell ?_ (by first | exact Nat.le_refl _ | (dsimp only; omega) | (simp; omega)) _ | refine Below.drew ?_))⟩)

end Go.Proofs.YtahjdmdgkkienaaGreatDoor

