/- The contracts of the reference of tables: Not, And, Or, Xor. -/
import Derived.Test.YtmmcakeedejbnaaDoorUl
namespace Go.Proofs.YtmmcakeedejbnaaDoor
open Go.RowKit

set_option maxRecDepth 100000 in
theorem rNot_ok (n b : Nat) (w : World) (hn : n ≤ 6) (hb : b < 2 ^ 2 ^ n) : Calls Tryd.prog 24 #[.agg #[.int .i64 n, .int .u64 b]] w fun e w' => e = .returned (.tuple #[.agg #[.int .i64 n, .int .u64 ((Tt.full n &&& (18446744073709551615 - b) : Nat) : Int)], .int .i64 0]) ∧ Below w.heap.size w w' := by
  have CC := fun W => Lib.hid (rCheck_any n b W (Tt.w64 hn hb))
  rw [Tt.chk_ok hn hb] at CC
  have CD := fun W => Lib.hid (rOpp_any n b W hn hb)
  rw [Tt.not_mk hn hb] at CD
  generalize (Tt.full n &&& (18446744073709551615 - b)) = v at *
  obtain ⟨P0, P1, L0, z0⟩ := tab2_new w n b 0 0 24
  generalize hX : (w.alloc (.cells #[.int .i64 n, .int .u64 b] 24)).alloc (.cells #[.int .i64 0, .int .u64 ((0 : Nat) : Int)] 24) = X at *
  change (w.alloc (.cells #[.int .i64 n, .int .u64 b] 24)).alloc (.cells #[.int .i64 0, .int .u64 0] 24) = X at hX
  obtain ⟨p0, p1, p2, p3, p4⟩ := id P0
  obtain ⟨q0, q1, q2, q3, q4⟩ := id P1
  clear hn hb
  go_enter Tryd.func24, Tryd.ntmps24
  go_wp2_with fail
  refine ((CC _).out).mono ?_
  rintro e w1 ⟨rfl, hw1⟩
  have zw1 := hw1.size
  have P0w1 := P0.below (by omega) hw1
  obtain ⟨a0w1, b0w1, c0w1, d0w1, e0w1⟩ := id P0w1
  have P1w1 := P1.below (by omega) hw1
  obtain ⟨a1w1, b1w1, c1w1, d1w1, e1w1⟩ := id P1w1
  have Lw1 := L0.trans (hw1.mono (by omega))
  clear hw1
  go_wp2_with fail
  refine ((CD _).out).mono ?_
  rintro e w2 ⟨rfl, hw2⟩
  have zw2 := hw2.size
  have P0w2 := P0w1.below (by omega) hw2
  obtain ⟨a0w2, b0w2, c0w2, d0w2, e0w2⟩ := id P0w2
  have P1w2 := P1w1.below (by omega) hw2
  obtain ⟨a1w2, b1w2, c1w2, d1w2, e1w2⟩ := id P1w2
  have Lw2 := Lw1.trans (hw2.mono (by omega))
  clear hw2
  go_wp2
  exact bodyPost_ret (v := .tuple #[.agg #[.int .i64 n, .int .u64 v], .int .i64 0]) (by simp [results, Tryd.results24, go_sem, b1w2, c1w2]) rfl ⟨rfl, by (repeat' (first | exact Lw2 | refine Below.alloc ?_ (by simp; omega) _ | refine Below.setCell ?_ (by first | exact Nat.le_refl _ | (dsimp only; omega) | (simp; omega)) _ | refine Below.drew ?_))⟩

set_option maxRecDepth 100000 in
theorem rNot_bad (n : Int) (b : Nat) (w : World) (hb : b < 2 ^ 64) (h1 : Tt.chk n b ≠ 0) : Calls Tryd.prog 24 #[.agg #[.int .i64 n, .int .u64 b]] w fun e w' => e = .returned (.tuple #[.agg #[.int .i64 0, .int .u64 0], .int .i64 (Tt.chk n b)]) ∧ Below w.heap.size w w' := by
  have CC := fun W => Lib.hid (rCheck_any n b W hb)
  generalize Tt.chk n b = k at *
  have g4 : (k != 0) = true := by simpa using h1
  obtain ⟨P0, P1, L0, z0⟩ := tab2_new w n b 0 0 24
  generalize hX : (w.alloc (.cells #[.int .i64 n, .int .u64 b] 24)).alloc (.cells #[.int .i64 0, .int .u64 ((0 : Nat) : Int)] 24) = X at *
  change (w.alloc (.cells #[.int .i64 n, .int .u64 b] 24)).alloc (.cells #[.int .i64 0, .int .u64 0] 24) = X at hX
  obtain ⟨p0, p1, p2, p3, p4⟩ := id P0
  obtain ⟨q0, q1, q2, q3, q4⟩ := id P1
  clear h1 hb
  go_enter Tryd.func24, Tryd.ntmps24
  go_wp2_with fail
  refine ((CC _).out).mono ?_
  rintro e w1 ⟨rfl, hw1⟩
  have zw1 := hw1.size
  have P0w1 := P0.below (by omega) hw1
  obtain ⟨a0w1, b0w1, c0w1, d0w1, e0w1⟩ := id P0w1
  have P1w1 := P1.below (by omega) hw1
  obtain ⟨a1w1, b1w1, c1w1, d1w1, e1w1⟩ := id P1w1
  have Lw1 := L0.trans (hw1.mono (by omega))
  clear hw1
  go_wp2
  exact bodyPost_ret (v := .tuple #[.agg #[.int .i64 0, .int .u64 0], .int .i64 k]) (by simp [results, Tryd.results24, go_sem, b1w1, c1w1]) rfl ⟨rfl, by (repeat' (first | exact Lw1 | refine Below.alloc ?_ (by simp; omega) _ | refine Below.setCell ?_ (by first | exact Nat.le_refl _ | (dsimp only; omega) | (simp; omega)) _ | refine Below.drew ?_))⟩

set_option maxRecDepth 100000 in
theorem rAnd_ok (n b c : Nat) (w : World) (hn : n ≤ 6) (hb : b < 2 ^ 2 ^ n) (hc : c < 2 ^ 2 ^ n) : Calls Tryd.prog 26 #[.agg #[.int .i64 n, .int .u64 b], .agg #[.int .i64 n, .int .u64 c]] w fun e w' => e = .returned (.tuple #[.agg #[.int .i64 n, .int .u64 ((b &&& c : Nat) : Int)], .int .i64 0]) ∧ Below w.heap.size w w' := by
  have CC := fun W => Lib.hid (rGiven_any n b n c W (Tt.w64 hn hb) (Tt.w64 hn hc))
  rw [Tt.giv_zero.2 ⟨Tt.chk_ok hn hb, Tt.chk_ok hn hc, rfl⟩] at CC
  have CD := fun W => Lib.hid (rBoth_any n b n c W (Tt.w64 hn hb) (Tt.w64 hn hc))
  generalize (b &&& c) = v at *
  obtain ⟨P0, P1, P2, L0, z0⟩ := tab3_new w n b n c 0 0 24
  generalize hX : ((w.alloc (.cells #[.int .i64 n, .int .u64 b] 24)).alloc (.cells #[.int .i64 n, .int .u64 c] 24)).alloc (.cells #[.int .i64 0, .int .u64 ((0 : Nat) : Int)] 24) = X at *
  change ((w.alloc (.cells #[.int .i64 n, .int .u64 b] 24)).alloc (.cells #[.int .i64 n, .int .u64 c] 24)).alloc (.cells #[.int .i64 0, .int .u64 0] 24) = X at hX
  obtain ⟨p0, p1, p2, p3, p4⟩ := id P0
  obtain ⟨q0, q1, q2, q3, q4⟩ := id P1
  obtain ⟨r0, r1, r2, r3, r4⟩ := id P2
  clear hn hb hc
  go_enter Tryd.func26, Tryd.ntmps26
  go_wp2_with fail
  refine ((CC _).out).mono ?_
  rintro e w1 ⟨rfl, hw1⟩
  have zw1 := hw1.size
  have P0w1 := P0.below (by omega) hw1
  obtain ⟨a0w1, b0w1, c0w1, d0w1, e0w1⟩ := id P0w1
  have P1w1 := P1.below (by omega) hw1
  obtain ⟨a1w1, b1w1, c1w1, d1w1, e1w1⟩ := id P1w1
  have P2w1 := P2.below (by omega) hw1
  obtain ⟨a2w1, b2w1, c2w1, d2w1, e2w1⟩ := id P2w1
  have Lw1 := L0.trans (hw1.mono (by omega))
  clear hw1
  go_wp2_with fail
  refine ((CD _).out).mono ?_
  rintro e w2 ⟨rfl, hw2⟩
  have zw2 := hw2.size
  have P0w2 := P0w1.below (by omega) hw2
  obtain ⟨a0w2, b0w2, c0w2, d0w2, e0w2⟩ := id P0w2
  have P1w2 := P1w1.below (by omega) hw2
  obtain ⟨a1w2, b1w2, c1w2, d1w2, e1w2⟩ := id P1w2
  have P2w2 := P2w1.below (by omega) hw2
  obtain ⟨a2w2, b2w2, c2w2, d2w2, e2w2⟩ := id P2w2
  have Lw2 := Lw1.trans (hw2.mono (by omega))
  clear hw2
  go_wp2
  exact bodyPost_ret (v := .tuple #[.agg #[.int .i64 n, .int .u64 v], .int .i64 0]) (by simp [results, Tryd.results26, go_sem, b2w2, c2w2]) rfl ⟨rfl, by (repeat' (first | exact Lw2 | refine Below.alloc ?_ (by simp; omega) _ | refine Below.setCell ?_ (by first | exact Nat.le_refl _ | (dsimp only; omega) | (simp; omega)) _ | refine Below.drew ?_))⟩
set_option maxRecDepth 100000 in
theorem rAnd_bad (n : Int) (b : Nat) (m : Int) (c : Nat) (w : World) (hb : b < 2 ^ 64) (hc : c < 2 ^ 64) (h1 : Tt.giv n b m c ≠ 0) : Calls Tryd.prog 26 #[.agg #[.int .i64 n, .int .u64 b], .agg #[.int .i64 m, .int .u64 c]] w fun e w' => e = .returned (.tuple #[.agg #[.int .i64 0, .int .u64 0], .int .i64 (Tt.giv n b m c)]) ∧ Below w.heap.size w w' := by
  have CC := fun W => Lib.hid (rGiven_any n b m c W hb hc)
  generalize Tt.giv n b m c = k at *
  have g4 : (k != 0) = true := by simpa using h1
  obtain ⟨P0, P1, P2, L0, z0⟩ := tab3_new w n b m c 0 0 24
  generalize hX : ((w.alloc (.cells #[.int .i64 n, .int .u64 b] 24)).alloc (.cells #[.int .i64 m, .int .u64 c] 24)).alloc (.cells #[.int .i64 0, .int .u64 ((0 : Nat) : Int)] 24) = X at *
  change ((w.alloc (.cells #[.int .i64 n, .int .u64 b] 24)).alloc (.cells #[.int .i64 m, .int .u64 c] 24)).alloc (.cells #[.int .i64 0, .int .u64 0] 24) = X at hX
  obtain ⟨p0, p1, p2, p3, p4⟩ := id P0
  obtain ⟨q0, q1, q2, q3, q4⟩ := id P1
  obtain ⟨r0, r1, r2, r3, r4⟩ := id P2
  clear h1 hb hc
  go_enter Tryd.func26, Tryd.ntmps26
  go_wp2_with fail
  refine ((CC _).out).mono ?_
  rintro e w1 ⟨rfl, hw1⟩
  have zw1 := hw1.size
  have P0w1 := P0.below (by omega) hw1
  obtain ⟨a0w1, b0w1, c0w1, d0w1, e0w1⟩ := id P0w1
  have P1w1 := P1.below (by omega) hw1
  obtain ⟨a1w1, b1w1, c1w1, d1w1, e1w1⟩ := id P1w1
  have P2w1 := P2.below (by omega) hw1
  obtain ⟨a2w1, b2w1, c2w1, d2w1, e2w1⟩ := id P2w1
  have Lw1 := L0.trans (hw1.mono (by omega))
  clear hw1
  go_wp2
  exact bodyPost_ret (v := .tuple #[.agg #[.int .i64 0, .int .u64 0], .int .i64 k]) (by simp [results, Tryd.results26, go_sem, b2w1, c2w1]) rfl ⟨rfl, by (repeat' (first | exact Lw1 | refine Below.alloc ?_ (by simp; omega) _ | refine Below.setCell ?_ (by first | exact Nat.le_refl _ | (dsimp only; omega) | (simp; omega)) _ | refine Below.drew ?_))⟩

set_option maxRecDepth 100000 in
theorem rOr_ok (n b c : Nat) (w : World) (hn : n ≤ 6) (hb : b < 2 ^ 2 ^ n) (hc : c < 2 ^ 2 ^ n) : Calls Tryd.prog 28 #[.agg #[.int .i64 n, .int .u64 b], .agg #[.int .i64 n, .int .u64 c]] w fun e w' => e = .returned (.tuple #[.agg #[.int .i64 n, .int .u64 ((b ||| c : Nat) : Int)], .int .i64 0]) ∧ Below w.heap.size w w' := by
  have CC := fun W => Lib.hid (rGiven_any n b n c W (Tt.w64 hn hb) (Tt.w64 hn hc))
  rw [Tt.giv_zero.2 ⟨Tt.chk_ok hn hb, Tt.chk_ok hn hc, rfl⟩] at CC
  have CD := fun W => Lib.hid (rEither_any n b n c W (Tt.w64 hn hb) (Tt.w64 hn hc))
  generalize (b ||| c) = v at *
  obtain ⟨P0, P1, P2, L0, z0⟩ := tab3_new w n b n c 0 0 24
  generalize hX : ((w.alloc (.cells #[.int .i64 n, .int .u64 b] 24)).alloc (.cells #[.int .i64 n, .int .u64 c] 24)).alloc (.cells #[.int .i64 0, .int .u64 ((0 : Nat) : Int)] 24) = X at *
  change ((w.alloc (.cells #[.int .i64 n, .int .u64 b] 24)).alloc (.cells #[.int .i64 n, .int .u64 c] 24)).alloc (.cells #[.int .i64 0, .int .u64 0] 24) = X at hX
  obtain ⟨p0, p1, p2, p3, p4⟩ := id P0
  obtain ⟨q0, q1, q2, q3, q4⟩ := id P1
  obtain ⟨r0, r1, r2, r3, r4⟩ := id P2
  clear hn hb hc
  go_enter Tryd.func28, Tryd.ntmps28
  go_wp2_with fail
  refine ((CC _).out).mono ?_
  rintro e w1 ⟨rfl, hw1⟩
  have zw1 := hw1.size
  have P0w1 := P0.below (by omega) hw1
  obtain ⟨a0w1, b0w1, c0w1, d0w1, e0w1⟩ := id P0w1
  have P1w1 := P1.below (by omega) hw1
  obtain ⟨a1w1, b1w1, c1w1, d1w1, e1w1⟩ := id P1w1
  have P2w1 := P2.below (by omega) hw1
  obtain ⟨a2w1, b2w1, c2w1, d2w1, e2w1⟩ := id P2w1
  have Lw1 := L0.trans (hw1.mono (by omega))
  clear hw1
  go_wp2_with fail
  refine ((CD _).out).mono ?_
  rintro e w2 ⟨rfl, hw2⟩
  have zw2 := hw2.size
  have P0w2 := P0w1.below (by omega) hw2
  obtain ⟨a0w2, b0w2, c0w2, d0w2, e0w2⟩ := id P0w2
  have P1w2 := P1w1.below (by omega) hw2
  obtain ⟨a1w2, b1w2, c1w2, d1w2, e1w2⟩ := id P1w2
  have P2w2 := P2w1.below (by omega) hw2
  obtain ⟨a2w2, b2w2, c2w2, d2w2, e2w2⟩ := id P2w2
  have Lw2 := Lw1.trans (hw2.mono (by omega))
  clear hw2
  go_wp2
  exact bodyPost_ret (v := .tuple #[.agg #[.int .i64 n, .int .u64 v], .int .i64 0]) (by simp [results, Tryd.results28, go_sem, b2w2, c2w2]) rfl ⟨rfl, by (repeat' (first | exact Lw2 | refine Below.alloc ?_ (by simp; omega) _ | refine Below.setCell ?_ (by first | exact Nat.le_refl _ | (dsimp only; omega) | (simp; omega)) _ | refine Below.drew ?_))⟩
set_option maxRecDepth 100000 in
theorem rOr_bad (n : Int) (b : Nat) (m : Int) (c : Nat) (w : World) (hb : b < 2 ^ 64) (hc : c < 2 ^ 64) (h1 : Tt.giv n b m c ≠ 0) : Calls Tryd.prog 28 #[.agg #[.int .i64 n, .int .u64 b], .agg #[.int .i64 m, .int .u64 c]] w fun e w' => e = .returned (.tuple #[.agg #[.int .i64 0, .int .u64 0], .int .i64 (Tt.giv n b m c)]) ∧ Below w.heap.size w w' := by
  have CC := fun W => Lib.hid (rGiven_any n b m c W hb hc)
  generalize Tt.giv n b m c = k at *
  have g4 : (k != 0) = true := by simpa using h1
  obtain ⟨P0, P1, P2, L0, z0⟩ := tab3_new w n b m c 0 0 24
  generalize hX : ((w.alloc (.cells #[.int .i64 n, .int .u64 b] 24)).alloc (.cells #[.int .i64 m, .int .u64 c] 24)).alloc (.cells #[.int .i64 0, .int .u64 ((0 : Nat) : Int)] 24) = X at *
  change ((w.alloc (.cells #[.int .i64 n, .int .u64 b] 24)).alloc (.cells #[.int .i64 m, .int .u64 c] 24)).alloc (.cells #[.int .i64 0, .int .u64 0] 24) = X at hX
  obtain ⟨p0, p1, p2, p3, p4⟩ := id P0
  obtain ⟨q0, q1, q2, q3, q4⟩ := id P1
  obtain ⟨r0, r1, r2, r3, r4⟩ := id P2
  clear h1 hb hc
  go_enter Tryd.func28, Tryd.ntmps28
  go_wp2_with fail
  refine ((CC _).out).mono ?_
  rintro e w1 ⟨rfl, hw1⟩
  have zw1 := hw1.size
  have P0w1 := P0.below (by omega) hw1
  obtain ⟨a0w1, b0w1, c0w1, d0w1, e0w1⟩ := id P0w1
  have P1w1 := P1.below (by omega) hw1
  obtain ⟨a1w1, b1w1, c1w1, d1w1, e1w1⟩ := id P1w1
  have P2w1 := P2.below (by omega) hw1
  obtain ⟨a2w1, b2w1, c2w1, d2w1, e2w1⟩ := id P2w1
  have Lw1 := L0.trans (hw1.mono (by omega))
  clear hw1
  go_wp2
  exact bodyPost_ret (v := .tuple #[.agg #[.int .i64 0, .int .u64 0], .int .i64 k]) (by simp [results, Tryd.results28, go_sem, b2w1, c2w1]) rfl ⟨rfl, by (repeat' (first | exact Lw1 | refine Below.alloc ?_ (by simp; omega) _ | refine Below.setCell ?_ (by first | exact Nat.le_refl _ | (dsimp only; omega) | (simp; omega)) _ | refine Below.drew ?_))⟩

theorem rXor_fine (n b c : Nat) (w : World) (hn : n ≤ 6) (hb : b < 2 ^ 2 ^ n) (hc : c < 2 ^ 2 ^ n) : Calls Tryd.prog 30 #[.agg #[.int .i64 n, .int .u64 b], .agg #[.int .i64 n, .int .u64 c]] w fun e w' => e = .returned (.tuple #[.agg #[.int .i64 n, .int .u64 ((b ^^^ c : Nat) : Int)], .int .i64 0]) ∧ Below w.heap.size w w' := by
  rw [← Tt.xor_mk hb hc]
  exact rXor_ok n b c w hn hb hc
set_option maxRecDepth 100000 in
theorem rXor_bad (n : Int) (b : Nat) (m : Int) (c : Nat) (w : World) (hb : b < 2 ^ 64) (hc : c < 2 ^ 64) (h1 : Tt.giv n b m c ≠ 0) : Calls Tryd.prog 30 #[.agg #[.int .i64 n, .int .u64 b], .agg #[.int .i64 m, .int .u64 c]] w fun e w' => e = .returned (.tuple #[.agg #[.int .i64 0, .int .u64 0], .int .i64 (Tt.giv n b m c)]) ∧ Below w.heap.size w w' := by
  have CC := fun W => Lib.hid (rGiven_any n b m c W hb hc)
  generalize Tt.giv n b m c = k at *
  have g4 : (k != 0) = true := by simpa using h1
  obtain ⟨P0, P1, P2, L0, z0⟩ := tab3_new w n b m c 0 0 24
  generalize hX : ((w.alloc (.cells #[.int .i64 n, .int .u64 b] 24)).alloc (.cells #[.int .i64 m, .int .u64 c] 24)).alloc (.cells #[.int .i64 0, .int .u64 ((0 : Nat) : Int)] 24) = X at *
  change ((w.alloc (.cells #[.int .i64 n, .int .u64 b] 24)).alloc (.cells #[.int .i64 m, .int .u64 c] 24)).alloc (.cells #[.int .i64 0, .int .u64 0] 24) = X at hX
  obtain ⟨p0, p1, p2, p3, p4⟩ := id P0
  obtain ⟨q0, q1, q2, q3, q4⟩ := id P1
  obtain ⟨r0, r1, r2, r3, r4⟩ := id P2
  clear h1 hb hc
  go_enter Tryd.func30, Tryd.ntmps30
  go_wp2_with fail
  refine ((CC _).out).mono ?_
  rintro e w1 ⟨rfl, hw1⟩
  have zw1 := hw1.size
  have P0w1 := P0.below (by omega) hw1
  obtain ⟨a0w1, b0w1, c0w1, d0w1, e0w1⟩ := id P0w1
  have P1w1 := P1.below (by omega) hw1
  obtain ⟨a1w1, b1w1, c1w1, d1w1, e1w1⟩ := id P1w1
  have P2w1 := P2.below (by omega) hw1
  obtain ⟨a2w1, b2w1, c2w1, d2w1, e2w1⟩ := id P2w1
  have Lw1 := L0.trans (hw1.mono (by omega))
  clear hw1
  go_wp2
  exact bodyPost_ret (v := .tuple #[.agg #[.int .i64 0, .int .u64 0], .int .i64 k]) (by simp [results, Tryd.results30, go_sem, b2w1, c2w1]) rfl ⟨rfl, by (repeat' (first | exact Lw1 | refine Below.alloc ?_ (by simp; omega) _ | refine Below.setCell ?_ (by first | exact Nat.le_refl _ | (dsimp only; omega) | (simp; omega)) _ | refine Below.drew ?_))⟩

end Go.Proofs.YtmmcakeedejbnaaDoor
