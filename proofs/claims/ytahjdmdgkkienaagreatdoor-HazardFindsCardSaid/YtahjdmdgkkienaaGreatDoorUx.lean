/- The contracts of package truth: and, or, xor. -/
import Derived.Test.YtahjdmdgkkienaaGreatDoorUw
import Derived.Test.YtahjdmdgkkienaaGreatDoorUh
namespace Go.Proofs.YtahjdmdgkkienaaGreatDoor
open Go.RowKit Go.Shelf
open Tt (giv giv_zero)

theorem tAnd1_any (a b : Nat) (w : World) (ha : a < 2 ^ 64) (hb : b < 2 ^ 64) : Calls Tryz.prog 51 #[.int .u64 a, .int .u64 b] w fun e w' => e = .returned (.int .u64 ((a &&& b : Nat) : Int)) ∧ w = w' := by
  have hv := u64_and_nat a b (by omega) (by omega)
  generalize (a &&& b) = v at *
  go_enter Tryz.func51, Tryz.ntmps51
  go_wp2
  go_ret
  exact ⟨rfl, rfl⟩
set_option maxRecDepth 100000 in
theorem combAnd_ok (n b c : Nat) (w : World) (hb : b < 2 ^ 64) (hc : c < 2 ^ 64) (h1 : Tt.chk n b = 0) (h2 : Tt.chk n c = 0) : Calls Tryz.prog 50 #[.agg #[.int .i64 n, .int .u64 b], .agg #[.int .i64 n, .int .u64 c], .func (.func 51) #[] #[]] w fun e w' => e = .returned (.tuple #[.agg #[.int .i64 n, .int .u64 ((b &&& c : Nat) : Int)], .int .i64 0]) ∧ Below w.heap.size w w' := by
  have CC := fun W => Lib.hid (tCheck_any n b W hb)
  have CD := fun W => Lib.hid (tCheck_any n c W hc)
  rw [h1] at CC
  rw [h2] at CD
  have CO := fun W => Lib.hid (tAnd1_any b c W hb hc)
  generalize (b &&& c) = v at *
  obtain ⟨P0, P1, P2, L0, z0⟩ := tab3_new w n b n c 0 0 29
  generalize hX : ((w.alloc (.cells #[.int .i64 n, .int .u64 b] 29)).alloc (.cells #[.int .i64 n, .int .u64 c] 29)).alloc (.cells #[.int .i64 0, .int .u64 ((0 : Nat) : Int)] 29) = X at *
  change ((w.alloc (.cells #[.int .i64 n, .int .u64 b] 29)).alloc (.cells #[.int .i64 n, .int .u64 c] 29)).alloc (.cells #[.int .i64 0, .int .u64 0] 29) = X at hX
  obtain ⟨p0, p1, p2, p3, p4⟩ := id P0
  obtain ⟨q0, q1, q2, q3, q4⟩ := id P1
  obtain ⟨r0, r1, r2, r3, r4⟩ := id P2
  clear h1 h2 hb hc
  go_enter Tryz.func50, Tryz.ntmps50
  go_wp2_with fail
  refine ((CC _).out).mono ?_
  rintro e w1 ⟨rfl, hw1⟩
  have zw1 := hw1.size
  have P0w1 := P0.below (by omega) hw1
  obtain ⟨p0aw1, p0bw1, p0cw1, p0dw1, p0ew1⟩ := id P0w1
  have P1w1 := P1.below (by omega) hw1
  obtain ⟨p1aw1, p1bw1, p1cw1, p1dw1, p1ew1⟩ := id P1w1
  have P2w1 := P2.below (by omega) hw1
  obtain ⟨p2aw1, p2bw1, p2cw1, p2dw1, p2ew1⟩ := id P2w1
  have Lw1 := L0.trans (hw1.mono (by omega))
  clear hw1
  go_wp2_with fail
  refine ((CD _).out).mono ?_
  rintro e w2 ⟨rfl, hw2⟩
  have zw2 := hw2.size
  have P0w2 := P0w1.below (by omega) hw2
  obtain ⟨s0, s1, s2, s3, s4⟩ := id P0w2
  have P1w2 := P1w1.below (by omega) hw2
  obtain ⟨t0, t1, t2, t3, t4⟩ := id P1w2
  have P2w2 := P2w1.below (by omega) hw2
  obtain ⟨u0, u1, u2, u3, u4⟩ := id P2w2
  have Lw2 := Lw1.trans (hw2.mono (by omega))
  clear hw2
  go_wp2
  go_region_held3 (fun W => (W.cell? ⟨w.heap.size, 0, none⟩ = some (.int .i64 n) ∧ W.cell? ⟨w.heap.size, 1, none⟩ = some (.int .u64 b)) ∧ W.cell? ⟨w.heap.size + 1, 1, none⟩ = some (.int .u64 c))
    (first | (go_split_ands; refine ⟨⟨?_, ?_⟩, ?_⟩ <;> assumption) | (refine ⟨⟨?_, ?_⟩, ?_⟩ <;> (refine (World.cell?_drew _ _).trans ?_; simp [go_sem, s1, s2, t2]; done)) | go_keep)
    (first | (go_at_call 51; (with_reducible refine ((CO _).out).mono ?_); rintro e w3 ⟨rfl, rfl⟩))
  go_wp2
  exact bodyPost_ret (v := .tuple #[.agg #[.int .i64 n, .int .u64 v], .int .i64 0]) (by simp [results, Tryz.results50, go_sem, u1, u2]) rfl ⟨rfl, by (repeat' (first | exact Lw2 | refine Below.alloc ?_ (by simp; omega) _ | refine Below.setCell ?_ (by first | exact Nat.le_refl _ | (dsimp only; omega) | (simp; omega)) _ | refine Below.drew ?_))⟩

set_option maxRecDepth 100000 in
theorem combAnd_bad (n : Int) (b : Nat) (m : Int) (c : Nat) (w : World) (hb : b < 2 ^ 64) (hc : c < 2 ^ 64) (h1 : giv n b m c ≠ 0) : Calls Tryz.prog 50 #[.agg #[.int .i64 n, .int .u64 b], .agg #[.int .i64 m, .int .u64 c], .func (.func 51) #[] #[]] w fun e w' => e = .returned (.tuple #[.agg #[.int .i64 0, .int .u64 0], .int .i64 (giv n b m c)]) ∧ Below w.heap.size w w' := by
  have CC := fun W => Lib.hid (tCheck_any n b W hb)
  have CD := fun W => Lib.hid (tCheck_any m c W hc)
  obtain ⟨P0, P1, P2, L0, z0⟩ := tab3_new w n b m c 0 0 29
  generalize hX : ((w.alloc (.cells #[.int .i64 n, .int .u64 b] 29)).alloc (.cells #[.int .i64 m, .int .u64 c] 29)).alloc (.cells #[.int .i64 0, .int .u64 ((0 : Nat) : Int)] 29) = X at *
  change ((w.alloc (.cells #[.int .i64 n, .int .u64 b] 29)).alloc (.cells #[.int .i64 m, .int .u64 c] 29)).alloc (.cells #[.int .i64 0, .int .u64 0] 29) = X at hX
  obtain ⟨p0, p1, p2, p3, p4⟩ := id P0
  obtain ⟨q0, q1, q2, q3, q4⟩ := id P1
  obtain ⟨r0, r1, r2, r3, r4⟩ := id P2
  by_cases g1 : Tt.chk n b = 0
  · rw [g1] at CC
    by_cases g2 : Tt.chk m c = 0
    · rw [g2] at CD
      have g3 : ¬ n = m := fun h => h1 (giv_zero.2 ⟨g1, g2, h⟩)
      have hk : giv n b m c = 8 := by unfold giv; rw [if_neg (by omega), if_neg (by omega), if_neg g3]
      rw [hk]
      have g4 : (n == m) = false := by simpa using g3
      have g5 : (n != m) = true := by simpa using g3
      clear g1 g2 hb hc hk h1
      go_enter Tryz.func50, Tryz.ntmps50
      go_wp2_with fail
      refine ((CC _).out).mono ?_
      rintro e w1 ⟨rfl, hw1⟩
      have zw1 := hw1.size
      have P0w1 := P0.below (by omega) hw1
      obtain ⟨p0aw1, p0bw1, p0cw1, p0dw1, p0ew1⟩ := id P0w1
      have P1w1 := P1.below (by omega) hw1
      obtain ⟨p1aw1, p1bw1, p1cw1, p1dw1, p1ew1⟩ := id P1w1
      have P2w1 := P2.below (by omega) hw1
      obtain ⟨p2aw1, p2bw1, p2cw1, p2dw1, p2ew1⟩ := id P2w1
      have Lw1 := L0.trans (hw1.mono (by omega))
      clear hw1
      go_wp2_with fail
      refine ((CD _).out).mono ?_
      rintro e w2 ⟨rfl, hw2⟩
      have zw2 := hw2.size
      have P0w2 := P0w1.below (by omega) hw2
      obtain ⟨s0, s1, s2, s3, s4⟩ := id P0w2
      have P1w2 := P1w1.below (by omega) hw2
      obtain ⟨t0, t1, t2, t3, t4⟩ := id P1w2
      have P2w2 := P2w1.below (by omega) hw2
      obtain ⟨u0, u1, u2, u3, u4⟩ := id P2w2
      have Lw2 := Lw1.trans (hw2.mono (by omega))
      clear hw2
      go_wp2
      exact bodyPost_ret (v := .tuple #[.agg #[.int .i64 0, .int .u64 0], .int .i64 8]) (by simp [results, Tryz.results50, go_sem, u1, u2]) rfl ⟨rfl, by (repeat' (first | exact Lw2 | refine Below.alloc ?_ (by simp; omega) _ | refine Below.setCell ?_ (by first | exact Nat.le_refl _ | (dsimp only; omega) | (simp; omega)) _ | refine Below.drew ?_))⟩
    · have hk : giv n b m c = Tt.chk m c := by unfold giv; rw [if_neg (by omega), if_pos g2]
      rw [hk]
      generalize Tt.chk m c = k at *
      have g4 : (k != 0) = true := by simpa using g2
      clear g1 g2 hb hc hk h1
      go_enter Tryz.func50, Tryz.ntmps50
      go_wp2_with fail
      refine ((CC _).out).mono ?_
      rintro e w1 ⟨rfl, hw1⟩
      have zw1 := hw1.size
      have P0w1 := P0.below (by omega) hw1
      obtain ⟨p0aw1, p0bw1, p0cw1, p0dw1, p0ew1⟩ := id P0w1
      have P1w1 := P1.below (by omega) hw1
      obtain ⟨p1aw1, p1bw1, p1cw1, p1dw1, p1ew1⟩ := id P1w1
      have P2w1 := P2.below (by omega) hw1
      obtain ⟨p2aw1, p2bw1, p2cw1, p2dw1, p2ew1⟩ := id P2w1
      have Lw1 := L0.trans (hw1.mono (by omega))
      clear hw1
      go_wp2_with fail
      refine ((CD _).out).mono ?_
      rintro e w2 ⟨rfl, hw2⟩
      have zw2 := hw2.size
      have P0w2 := P0w1.below (by omega) hw2
      obtain ⟨s0, s1, s2, s3, s4⟩ := id P0w2
      have P1w2 := P1w1.below (by omega) hw2
      obtain ⟨t0, t1, t2, t3, t4⟩ := id P1w2
      have P2w2 := P2w1.below (by omega) hw2
      obtain ⟨u0, u1, u2, u3, u4⟩ := id P2w2
      have Lw2 := Lw1.trans (hw2.mono (by omega))
      clear hw2
      go_wp2
      exact bodyPost_ret (v := .tuple #[.agg #[.int .i64 0, .int .u64 0], .int .i64 k]) (by simp [results, Tryz.results50, go_sem, u1, u2]) rfl ⟨rfl, by (repeat' (first | exact Lw2 | refine Below.alloc ?_ (by simp; omega) _ | refine Below.setCell ?_ (by first | exact Nat.le_refl _ | (dsimp only; omega) | (simp; omega)) _ | refine Below.drew ?_))⟩
  · have hk : giv n b m c = Tt.chk n b := by unfold giv; rw [if_pos g1]
    rw [hk]
    generalize Tt.chk n b = k at *
    have g4 : (k != 0) = true := by simpa using g1
    clear g1 hb hc hk h1
    go_enter Tryz.func50, Tryz.ntmps50
    go_wp2_with fail
    refine ((CC _).out).mono ?_
    rintro e w1 ⟨rfl, hw1⟩
    have zw1 := hw1.size
    have P0w1 := P0.below (by omega) hw1
    obtain ⟨p0aw1, p0bw1, p0cw1, p0dw1, p0ew1⟩ := id P0w1
    have P1w1 := P1.below (by omega) hw1
    obtain ⟨p1aw1, p1bw1, p1cw1, p1dw1, p1ew1⟩ := id P1w1
    have P2w1 := P2.below (by omega) hw1
    obtain ⟨p2aw1, p2bw1, p2cw1, p2dw1, p2ew1⟩ := id P2w1
    have Lw1 := L0.trans (hw1.mono (by omega))
    clear hw1
    go_wp2
    exact bodyPost_ret (v := .tuple #[.agg #[.int .i64 0, .int .u64 0], .int .i64 k]) (by simp [results, Tryz.results50, go_sem, p2bw1, p2cw1]) rfl ⟨rfl, by (repeat' (first | exact Lw1 | refine Below.alloc ?_ (by simp; omega) _ | refine Below.setCell ?_ (by first | exact Nat.le_refl _ | (dsimp only; omega) | (simp; omega)) _ | refine Below.drew ?_))⟩

theorem tAnd_ok (n b c : Nat) (w : World) (hb : b < 2 ^ 64) (hc : c < 2 ^ 64) (h1 : Tt.chk n b = 0) (h2 : Tt.chk n c = 0) : Calls Tryz.prog 28 #[.agg #[.int .i64 n, .int .u64 b], .agg #[.int .i64 n, .int .u64 c]] w fun e w' => e = .returned (.tuple #[.agg #[.int .i64 n, .int .u64 ((b &&& c : Nat) : Int)], .int .i64 0]) ∧ Below w.heap.size w w' := by
  have CM := fun W => Lib.hid (combAnd_ok n b c W hb hc h1 h2)
  generalize (b &&& c) = v at *
  obtain ⟨P0, P1, P2, L0, z0⟩ := tab3_new w n b n c 0 0 29
  generalize hX : ((w.alloc (.cells #[.int .i64 n, .int .u64 b] 29)).alloc (.cells #[.int .i64 n, .int .u64 c] 29)).alloc (.cells #[.int .i64 0, .int .u64 ((0 : Nat) : Int)] 29) = X at *
  change ((w.alloc (.cells #[.int .i64 n, .int .u64 b] 29)).alloc (.cells #[.int .i64 n, .int .u64 c] 29)).alloc (.cells #[.int .i64 0, .int .u64 0] 29) = X at hX
  obtain ⟨p0, p1, p2, p3, p4⟩ := id P0
  obtain ⟨q0, q1, q2, q3, q4⟩ := id P1
  obtain ⟨r0, r1, r2, r3, r4⟩ := id P2
  clear h1 h2 hb hc
  go_enter Tryz.func28, Tryz.ntmps28
  go_wp2_with fail
  refine ((CM _).out).mono ?_
  rintro e w1 ⟨rfl, hw1⟩
  have zw1 := hw1.size
  have P0w1 := P0.below (by omega) hw1
  obtain ⟨p0aw1, p0bw1, p0cw1, p0dw1, p0ew1⟩ := id P0w1
  have P1w1 := P1.below (by omega) hw1
  obtain ⟨p1aw1, p1bw1, p1cw1, p1dw1, p1ew1⟩ := id P1w1
  have P2w1 := P2.below (by omega) hw1
  obtain ⟨p2aw1, p2bw1, p2cw1, p2dw1, p2ew1⟩ := id P2w1
  have Lw1 := L0.trans (hw1.mono (by omega))
  clear hw1
  go_wp2
  exact bodyPost_ret (v := .tuple #[.agg #[.int .i64 n, .int .u64 v], .int .i64 0]) (by simp [results, Tryz.results28, go_sem, p2bw1, p2cw1]) rfl ⟨rfl, by (repeat' (first | exact Lw1 | refine Below.alloc ?_ (by simp; omega) _ | refine Below.setCell ?_ (by first | exact Nat.le_refl _ | (dsimp only; omega) | (simp; omega)) _ | refine Below.drew ?_))⟩

theorem tAnd_bad (n : Int) (b : Nat) (m : Int) (c : Nat) (w : World) (hb : b < 2 ^ 64) (hc : c < 2 ^ 64) (h1 : giv n b m c ≠ 0) : Calls Tryz.prog 28 #[.agg #[.int .i64 n, .int .u64 b], .agg #[.int .i64 m, .int .u64 c]] w fun e w' => e = .returned (.tuple #[.agg #[.int .i64 0, .int .u64 0], .int .i64 (giv n b m c)]) ∧ Below w.heap.size w w' := by
  have CM := fun W => Lib.hid (combAnd_bad n b m c W hb hc h1)
  generalize giv n b m c = k at *
  obtain ⟨P0, P1, P2, L0, z0⟩ := tab3_new w n b m c 0 0 29
  generalize hX : ((w.alloc (.cells #[.int .i64 n, .int .u64 b] 29)).alloc (.cells #[.int .i64 m, .int .u64 c] 29)).alloc (.cells #[.int .i64 0, .int .u64 ((0 : Nat) : Int)] 29) = X at *
  change ((w.alloc (.cells #[.int .i64 n, .int .u64 b] 29)).alloc (.cells #[.int .i64 m, .int .u64 c] 29)).alloc (.cells #[.int .i64 0, .int .u64 0] 29) = X at hX
  obtain ⟨p0, p1, p2, p3, p4⟩ := id P0
  obtain ⟨q0, q1, q2, q3, q4⟩ := id P1
  obtain ⟨r0, r1, r2, r3, r4⟩ := id P2
  clear h1 hb hc
  go_enter Tryz.func28, Tryz.ntmps28
  go_wp2_with fail
  refine ((CM _).out).mono ?_
  rintro e w1 ⟨rfl, hw1⟩
  have zw1 := hw1.size
  have P0w1 := P0.below (by omega) hw1
  obtain ⟨p0aw1, p0bw1, p0cw1, p0dw1, p0ew1⟩ := id P0w1
  have P1w1 := P1.below (by omega) hw1
  obtain ⟨p1aw1, p1bw1, p1cw1, p1dw1, p1ew1⟩ := id P1w1
  have P2w1 := P2.below (by omega) hw1
  obtain ⟨p2aw1, p2bw1, p2cw1, p2dw1, p2ew1⟩ := id P2w1
  have Lw1 := L0.trans (hw1.mono (by omega))
  clear hw1
  go_wp2
  exact bodyPost_ret (v := .tuple #[.agg #[.int .i64 0, .int .u64 0], .int .i64 k]) (by simp [results, Tryz.results28, go_sem, p2bw1, p2cw1]) rfl ⟨rfl, by (repeat' (first | exact Lw1 | refine Below.alloc ?_ (by simp; omega) _ | refine Below.setCell ?_ (by first | exact Nat.le_refl _ | (dsimp only; omega) | (simp; omega)) _ | refine Below.drew ?_))⟩

theorem tOr1_any (a b : Nat) (w : World) (ha : a < 2 ^ 64) (hb : b < 2 ^ 64) : Calls Tryz.prog 69 #[.int .u64 a, .int .u64 b] w fun e w' => e = .returned (.int .u64 ((a ||| b : Nat) : Int)) ∧ w = w' := by
  have hv := u64_or_nat a b (by omega) (by omega)
  generalize (a ||| b) = v at *
  go_enter Tryz.func69, Tryz.ntmps69
  go_wp2
  go_ret
  exact ⟨rfl, rfl⟩
set_option maxRecDepth 100000 in
theorem combOr_ok (n b c : Nat) (w : World) (hb : b < 2 ^ 64) (hc : c < 2 ^ 64) (h1 : Tt.chk n b = 0) (h2 : Tt.chk n c = 0) : Calls Tryz.prog 50 #[.agg #[.int .i64 n, .int .u64 b], .agg #[.int .i64 n, .int .u64 c], .func (.func 69) #[] #[]] w fun e w' => e = .returned (.tuple #[.agg #[.int .i64 n, .int .u64 ((b ||| c : Nat) : Int)], .int .i64 0]) ∧ Below w.heap.size w w' := by
  have CC := fun W => Lib.hid (tCheck_any n b W hb)
  have CD := fun W => Lib.hid (tCheck_any n c W hc)
  rw [h1] at CC
  rw [h2] at CD
  have CO := fun W => Lib.hid (tOr1_any b c W hb hc)
  generalize (b ||| c) = v at *
  obtain ⟨P0, P1, P2, L0, z0⟩ := tab3_new w n b n c 0 0 29
  generalize hX : ((w.alloc (.cells #[.int .i64 n, .int .u64 b] 29)).alloc (.cells #[.int .i64 n, .int .u64 c] 29)).alloc (.cells #[.int .i64 0, .int .u64 ((0 : Nat) : Int)] 29) = X at *
  change ((w.alloc (.cells #[.int .i64 n, .int .u64 b] 29)).alloc (.cells #[.int .i64 n, .int .u64 c] 29)).alloc (.cells #[.int .i64 0, .int .u64 0] 29) = X at hX
  obtain ⟨p0, p1, p2, p3, p4⟩ := id P0
  obtain ⟨q0, q1, q2, q3, q4⟩ := id P1
  obtain ⟨r0, r1, r2, r3, r4⟩ := id P2
  clear h1 h2 hb hc
  go_enter Tryz.func50, Tryz.ntmps50
  go_wp2_with fail
  refine ((CC _).out).mono ?_
  rintro e w1 ⟨rfl, hw1⟩
  have zw1 := hw1.size
  have P0w1 := P0.below (by omega) hw1
  obtain ⟨p0aw1, p0bw1, p0cw1, p0dw1, p0ew1⟩ := id P0w1
  have P1w1 := P1.below (by omega) hw1
  obtain ⟨p1aw1, p1bw1, p1cw1, p1dw1, p1ew1⟩ := id P1w1
  have P2w1 := P2.below (by omega) hw1
  obtain ⟨p2aw1, p2bw1, p2cw1, p2dw1, p2ew1⟩ := id P2w1
  have Lw1 := L0.trans (hw1.mono (by omega))
  clear hw1
  go_wp2_with fail
  refine ((CD _).out).mono ?_
  rintro e w2 ⟨rfl, hw2⟩
  have zw2 := hw2.size
  have P0w2 := P0w1.below (by omega) hw2
  obtain ⟨s0, s1, s2, s3, s4⟩ := id P0w2
  have P1w2 := P1w1.below (by omega) hw2
  obtain ⟨t0, t1, t2, t3, t4⟩ := id P1w2
  have P2w2 := P2w1.below (by omega) hw2
  obtain ⟨u0, u1, u2, u3, u4⟩ := id P2w2
  have Lw2 := Lw1.trans (hw2.mono (by omega))
  clear hw2
  go_wp2
  go_region_held3 (fun W => (W.cell? ⟨w.heap.size, 0, none⟩ = some (.int .i64 n) ∧ W.cell? ⟨w.heap.size, 1, none⟩ = some (.int .u64 b)) ∧ W.cell? ⟨w.heap.size + 1, 1, none⟩ = some (.int .u64 c))
    (first | (go_split_ands; refine ⟨⟨?_, ?_⟩, ?_⟩ <;> assumption) | (refine ⟨⟨?_, ?_⟩, ?_⟩ <;> (refine (World.cell?_drew _ _).trans ?_; simp [go_sem, s1, s2, t2]; done)) | go_keep)
    (first | (go_at_call 69; (with_reducible refine ((CO _).out).mono ?_); rintro e w3 ⟨rfl, rfl⟩))
  go_wp2
  exact bodyPost_ret (v := .tuple #[.agg #[.int .i64 n, .int .u64 v], .int .i64 0]) (by simp [results, Tryz.results50, go_sem, u1, u2]) rfl ⟨rfl, by (repeat' (first | exact Lw2 | refine Below.alloc ?_ (by simp; omega) _ | refine Below.setCell ?_ (by first | exact Nat.le_refl _ | (dsimp only; omega) | (simp; omega)) _ | refine Below.drew ?_))⟩

set_option maxRecDepth 100000 in
theorem combOr_bad (n : Int) (b : Nat) (m : Int) (c : Nat) (w : World) (hb : b < 2 ^ 64) (hc : c < 2 ^ 64) (h1 : giv n b m c ≠ 0) : Calls Tryz.prog 50 #[.agg #[.int .i64 n, .int .u64 b], .agg #[.int .i64 m, .int .u64 c], .func (.func 69) #[] #[]] w fun e w' => e = .returned (.tuple #[.agg #[.int .i64 0, .int .u64 0], .int .i64 (giv n b m c)]) ∧ Below w.heap.size w w' := by
  have CC := fun W => Lib.hid (tCheck_any n b W hb)
  have CD := fun W => Lib.hid (tCheck_any m c W hc)
  obtain ⟨P0, P1, P2, L0, z0⟩ := tab3_new w n b m c 0 0 29
  generalize hX : ((w.alloc (.cells #[.int .i64 n, .int .u64 b] 29)).alloc (.cells #[.int .i64 m, .int .u64 c] 29)).alloc (.cells #[.int .i64 0, .int .u64 ((0 : Nat) : Int)] 29) = X at *
  change ((w.alloc (.cells #[.int .i64 n, .int .u64 b] 29)).alloc (.cells #[.int .i64 m, .int .u64 c] 29)).alloc (.cells #[.int .i64 0, .int .u64 0] 29) = X at hX
  obtain ⟨p0, p1, p2, p3, p4⟩ := id P0
  obtain ⟨q0, q1, q2, q3, q4⟩ := id P1
  obtain ⟨r0, r1, r2, r3, r4⟩ := id P2
  by_cases g1 : Tt.chk n b = 0
  · rw [g1] at CC
    by_cases g2 : Tt.chk m c = 0
    · rw [g2] at CD
      have g3 : ¬ n = m := fun h => h1 (giv_zero.2 ⟨g1, g2, h⟩)
      have hk : giv n b m c = 8 := by unfold giv; rw [if_neg (by omega), if_neg (by omega), if_neg g3]
      rw [hk]
      have g4 : (n == m) = false := by simpa using g3
      have g5 : (n != m) = true := by simpa using g3
      clear g1 g2 hb hc hk h1
      go_enter Tryz.func50, Tryz.ntmps50
      go_wp2_with fail
      refine ((CC _).out).mono ?_
      rintro e w1 ⟨rfl, hw1⟩
      have zw1 := hw1.size
      have P0w1 := P0.below (by omega) hw1
      obtain ⟨p0aw1, p0bw1, p0cw1, p0dw1, p0ew1⟩ := id P0w1
      have P1w1 := P1.below (by omega) hw1
      obtain ⟨p1aw1, p1bw1, p1cw1, p1dw1, p1ew1⟩ := id P1w1
      have P2w1 := P2.below (by omega) hw1
      obtain ⟨p2aw1, p2bw1, p2cw1, p2dw1, p2ew1⟩ := id P2w1
      have Lw1 := L0.trans (hw1.mono (by omega))
      clear hw1
      go_wp2_with fail
      refine ((CD _).out).mono ?_
      rintro e w2 ⟨rfl, hw2⟩
      have zw2 := hw2.size
      have P0w2 := P0w1.below (by omega) hw2
      obtain ⟨s0, s1, s2, s3, s4⟩ := id P0w2
      have P1w2 := P1w1.below (by omega) hw2
      obtain ⟨t0, t1, t2, t3, t4⟩ := id P1w2
      have P2w2 := P2w1.below (by omega) hw2
      obtain ⟨u0, u1, u2, u3, u4⟩ := id P2w2
      have Lw2 := Lw1.trans (hw2.mono (by omega))
      clear hw2
      go_wp2
      exact bodyPost_ret (v := .tuple #[.agg #[.int .i64 0, .int .u64 0], .int .i64 8]) (by simp [results, Tryz.results50, go_sem, u1, u2]) rfl ⟨rfl, by (repeat' (first | exact Lw2 | refine Below.alloc ?_ (by simp; omega) _ | refine Below.setCell ?_ (by first | exact Nat.le_refl _ | (dsimp only; omega) | (simp; omega)) _ | refine Below.drew ?_))⟩
    · have hk : giv n b m c = Tt.chk m c := by unfold giv; rw [if_neg (by omega), if_pos g2]
      rw [hk]
      generalize Tt.chk m c = k at *
      have g4 : (k != 0) = true := by simpa using g2
      clear g1 g2 hb hc hk h1
      go_enter Tryz.func50, Tryz.ntmps50
      go_wp2_with fail
      refine ((CC _).out).mono ?_
      rintro e w1 ⟨rfl, hw1⟩
      have zw1 := hw1.size
      have P0w1 := P0.below (by omega) hw1
      obtain ⟨p0aw1, p0bw1, p0cw1, p0dw1, p0ew1⟩ := id P0w1
      have P1w1 := P1.below (by omega) hw1
      obtain ⟨p1aw1, p1bw1, p1cw1, p1dw1, p1ew1⟩ := id P1w1
      have P2w1 := P2.below (by omega) hw1
      obtain ⟨p2aw1, p2bw1, p2cw1, p2dw1, p2ew1⟩ := id P2w1
      have Lw1 := L0.trans (hw1.mono (by omega))
      clear hw1
      go_wp2_with fail
      refine ((CD _).out).mono ?_
      rintro e w2 ⟨rfl, hw2⟩
      have zw2 := hw2.size
      have P0w2 := P0w1.below (by omega) hw2
      obtain ⟨s0, s1, s2, s3, s4⟩ := id P0w2
      have P1w2 := P1w1.below (by omega) hw2
      obtain ⟨t0, t1, t2, t3, t4⟩ := id P1w2
      have P2w2 := P2w1.below (by omega) hw2
      obtain ⟨u0, u1, u2, u3, u4⟩ := id P2w2
      have Lw2 := Lw1.trans (hw2.mono (by omega))
      clear hw2
      go_wp2
      exact bodyPost_ret (v := .tuple #[.agg #[.int .i64 0, .int .u64 0], .int .i64 k]) (by simp [results, Tryz.results50, go_sem, u1, u2]) rfl ⟨rfl, by (repeat' (first | exact Lw2 | refine Below.alloc ?_ (by simp; omega) _ | refine Below.setCell ?_ (by first | exact Nat.le_refl _ | (dsimp only; omega) | (simp; omega)) _ | refine Below.drew ?_))⟩
  · have hk : giv n b m c = Tt.chk n b := by unfold giv; rw [if_pos g1]
    rw [hk]
    generalize Tt.chk n b = k at *
    have g4 : (k != 0) = true := by simpa using g1
    clear g1 hb hc hk h1
    go_enter Tryz.func50, Tryz.ntmps50
    go_wp2_with fail
    refine ((CC _).out).mono ?_
    rintro e w1 ⟨rfl, hw1⟩
    have zw1 := hw1.size
    have P0w1 := P0.below (by omega) hw1
    obtain ⟨p0aw1, p0bw1, p0cw1, p0dw1, p0ew1⟩ := id P0w1
    have P1w1 := P1.below (by omega) hw1
    obtain ⟨p1aw1, p1bw1, p1cw1, p1dw1, p1ew1⟩ := id P1w1
    have P2w1 := P2.below (by omega) hw1
    obtain ⟨p2aw1, p2bw1, p2cw1, p2dw1, p2ew1⟩ := id P2w1
    have Lw1 := L0.trans (hw1.mono (by omega))
    clear hw1
    go_wp2
    exact bodyPost_ret (v := .tuple #[.agg #[.int .i64 0, .int .u64 0], .int .i64 k]) (by simp [results, Tryz.results50, go_sem, p2bw1, p2cw1]) rfl ⟨rfl, by (repeat' (first | exact Lw1 | refine Below.alloc ?_ (by simp; omega) _ | refine Below.setCell ?_ (by first | exact Nat.le_refl _ | (dsimp only; omega) | (simp; omega)) _ | refine Below.drew ?_))⟩

theorem tOr_ok (n b c : Nat) (w : World) (hb : b < 2 ^ 64) (hc : c < 2 ^ 64) (h1 : Tt.chk n b = 0) (h2 : Tt.chk n c = 0) : Calls Tryz.prog 43 #[.agg #[.int .i64 n, .int .u64 b], .agg #[.int .i64 n, .int .u64 c]] w fun e w' => e = .returned (.tuple #[.agg #[.int .i64 n, .int .u64 ((b ||| c : Nat) : Int)], .int .i64 0]) ∧ Below w.heap.size w w' := by
  have CM := fun W => Lib.hid (combOr_ok n b c W hb hc h1 h2)
  generalize (b ||| c) = v at *
  obtain ⟨P0, P1, P2, L0, z0⟩ := tab3_new w n b n c 0 0 29
  generalize hX : ((w.alloc (.cells #[.int .i64 n, .int .u64 b] 29)).alloc (.cells #[.int .i64 n, .int .u64 c] 29)).alloc (.cells #[.int .i64 0, .int .u64 ((0 : Nat) : Int)] 29) = X at *
  change ((w.alloc (.cells #[.int .i64 n, .int .u64 b] 29)).alloc (.cells #[.int .i64 n, .int .u64 c] 29)).alloc (.cells #[.int .i64 0, .int .u64 0] 29) = X at hX
  obtain ⟨p0, p1, p2, p3, p4⟩ := id P0
  obtain ⟨q0, q1, q2, q3, q4⟩ := id P1
  obtain ⟨r0, r1, r2, r3, r4⟩ := id P2
  clear h1 h2 hb hc
  go_enter Tryz.func43, Tryz.ntmps43
  go_wp2_with fail
  refine ((CM _).out).mono ?_
  rintro e w1 ⟨rfl, hw1⟩
  have zw1 := hw1.size
  have P0w1 := P0.below (by omega) hw1
  obtain ⟨p0aw1, p0bw1, p0cw1, p0dw1, p0ew1⟩ := id P0w1
  have P1w1 := P1.below (by omega) hw1
  obtain ⟨p1aw1, p1bw1, p1cw1, p1dw1, p1ew1⟩ := id P1w1
  have P2w1 := P2.below (by omega) hw1
  obtain ⟨p2aw1, p2bw1, p2cw1, p2dw1, p2ew1⟩ := id P2w1
  have Lw1 := L0.trans (hw1.mono (by omega))
  clear hw1
  go_wp2
  exact bodyPost_ret (v := .tuple #[.agg #[.int .i64 n, .int .u64 v], .int .i64 0]) (by simp [results, Tryz.results43, go_sem, p2bw1, p2cw1]) rfl ⟨rfl, by (repeat' (first | exact Lw1 | refine Below.alloc ?_ (by simp; omega) _ | refine Below.setCell ?_ (by first | exact Nat.le_refl _ | (dsimp only; omega) | (simp; omega)) _ | refine Below.drew ?_))⟩

theorem tOr_bad (n : Int) (b : Nat) (m : Int) (c : Nat) (w : World) (hb : b < 2 ^ 64) (hc : c < 2 ^ 64) (h1 : giv n b m c ≠ 0) : Calls Tryz.prog 43 #[.agg #[.int .i64 n, .int .u64 b], .agg #[.int .i64 m, .int .u64 c]] w fun e w' => e = .returned (.tuple #[.agg #[.int .i64 0, .int .u64 0], .int .i64 (giv n b m c)]) ∧ Below w.heap.size w w' := by
  have CM := fun W => Lib.hid (combOr_bad n b m c W hb hc h1)
  generalize giv n b m c = k at *
  obtain ⟨P0, P1, P2, L0, z0⟩ := tab3_new w n b m c 0 0 29
  generalize hX : ((w.alloc (.cells #[.int .i64 n, .int .u64 b] 29)).alloc (.cells #[.int .i64 m, .int .u64 c] 29)).alloc (.cells #[.int .i64 0, .int .u64 ((0 : Nat) : Int)] 29) = X at *
  change ((w.alloc (.cells #[.int .i64 n, .int .u64 b] 29)).alloc (.cells #[.int .i64 m, .int .u64 c] 29)).alloc (.cells #[.int .i64 0, .int .u64 0] 29) = X at hX
  obtain ⟨p0, p1, p2, p3, p4⟩ := id P0
  obtain ⟨q0, q1, q2, q3, q4⟩ := id P1
  obtain ⟨r0, r1, r2, r3, r4⟩ := id P2
  clear h1 hb hc
  go_enter Tryz.func43, Tryz.ntmps43
  go_wp2_with fail
  refine ((CM _).out).mono ?_
  rintro e w1 ⟨rfl, hw1⟩
  have zw1 := hw1.size
  have P0w1 := P0.below (by omega) hw1
  obtain ⟨p0aw1, p0bw1, p0cw1, p0dw1, p0ew1⟩ := id P0w1
  have P1w1 := P1.below (by omega) hw1
  obtain ⟨p1aw1, p1bw1, p1cw1, p1dw1, p1ew1⟩ := id P1w1
  have P2w1 := P2.below (by omega) hw1
  obtain ⟨p2aw1, p2bw1, p2cw1, p2dw1, p2ew1⟩ := id P2w1
  have Lw1 := L0.trans (hw1.mono (by omega))
  clear hw1
  go_wp2
  exact bodyPost_ret (v := .tuple #[.agg #[.int .i64 0, .int .u64 0], .int .i64 k]) (by simp [results, Tryz.results43, go_sem, p2bw1, p2cw1]) rfl ⟨rfl, by (repeat' (first | exact Lw1 | refine Below.alloc ?_ (by simp; omega) _ | refine Below.setCell ?_ (by first | exact Nat.le_refl _ | (dsimp only; omega) | (simp; omega)) _ | refine Below.drew ?_))⟩

end Go.Proofs.YtahjdmdgkkienaaGreatDoor

