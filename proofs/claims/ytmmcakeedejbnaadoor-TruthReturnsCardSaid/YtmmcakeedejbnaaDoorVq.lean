/- Const, Var, Value and Points of the reference of tables; and what both return, in the same words. -/
import Derived.Test.YtmmcakeedejbnaaDoorVp
namespace Tt
theorem upto_one : ∀ k, upto (fun _ => true) k = 2 ^ k - 1
  | 0 => rfl
  | k + 1 => by
    rw [upto_succ, if_pos rfl, upto_one k]
    apply Nat.eq_of_testBit_eq
    intro i
    rw [Nat.testBit_or, Nat.testBit_two_pow_sub_one, Nat.testBit_two_pow_sub_one, Nat.testBit_two_pow]
    by_cases h1 : i < k
    · simp [h1, show i < k + 1 by omega]
    · by_cases h2 : i = k
      · subst h2; simp
      · simp [h1, show ¬ i < k + 1 by omega, show ¬ k = i by omega]
theorem col_mk {n i : Nat} (hn : n ≤ 6) (hi' : i < 6) : mk n (fun k => k.testBit i) = col i &&& full n := by
  refine same (mk_lt n _) ?_ fun k hk => ?_
  · have h1 := Nat.and_le_right (n := col i) (m := full n)
    have h2 : 0 < 2 ^ 2 ^ n := Nat.pow_pos (by omega)
    have h3 : full n < 2 ^ 2 ^ n := by unfold full; omega
    omega
  · have hs := size_le hn
    rw [mk_bit, Nat.testBit_and, col_bit i hi' k (by omega)]
    unfold full
    rw [Nat.testBit_two_pow_sub_one]
    simp [hk]
def constV (n : Int) (v : Bool) : (Int × Nat) × Int := if 0 ≤ n ∧ n ≤ 6 then ((n, bif v then full n.toNat else 0), 0) else ((0, 0), 2)
def varV (n i : Int) : (Int × Nat) × Int := if (0 ≤ n ∧ n ≤ 6) ∧ 0 ≤ i ∧ i < n then ((n, col i.toNat &&& full n.toNat), 0) else ((0, 0), 2)
def valV (n : Int) (b : Nat) (k : Int) : Bool × Int := if chk n b ≠ 0 then (false, chk n b) else if 0 ≤ k ∧ k < ((2 ^ n.toNat : Nat) : Int) then (b.testBit k.toNat, 0) else (false, 2)
def ptsL (n : Int) (b : Nat) : List Nat := if chk n b = 0 then pts (fun k => b.testBit k) (2 ^ n.toNat) else []
theorem ptsL_len (n : Int) (b : Nat) : (ptsL n b).length ≤ 64 := by
  unfold ptsL
  by_cases h : chk n b = 0
  · rw [if_pos h]
    obtain ⟨h0, h6, _⟩ := chk_zero.1 h
    exact Nat.le_trans (pts_len _ _) (size_le (by omega))
  · rw [if_neg h]; simp
end Tt
namespace Go.Proofs.YtmmcakeedejbnaaDoor
open Go.RowKit Go.Shelf

theorem rConst_bad (n : Int) (v : Bool) (w : World) (hn : ¬ (0 ≤ n ∧ n ≤ 6)) : Calls Tryd.prog 12 #[.int .i64 n, .bool v] w fun e w' => e = .returned (.tuple #[.agg #[.int .i64 0, .int .u64 0], .int .i64 2]) ∧ Below w.heap.size w w' := by
  obtain ⟨P0, L0, z0⟩ := tab1_new w 0 0 24
  generalize hX : w.alloc (.cells #[.int .i64 0, .int .u64 ((0 : Nat) : Int)] 24) = X at *
  change w.alloc (.cells #[.int .i64 0, .int .u64 0] 24) = X at hX
  obtain ⟨p0, p1, p2, p3, p4⟩ := P0
  by_cases h0 : n < 0
  · clear hn
    go_enter Tryd.func12, Tryd.ntmps12
    go_wp2
    exact bodyPost_ret (v := .tuple #[.agg #[.int .i64 0, .int .u64 0], .int .i64 2]) (by simp [results, Tryd.results12, go_sem, p1, p2]) rfl ⟨rfl, by (repeat' (first | exact L0 | refine Below.alloc ?_ (by simp; omega) _ | refine Below.setCell ?_ (by first | exact Nat.le_refl _ | (dsimp only; omega) | (simp; omega)) _ | refine Below.drew ?_))⟩
  · have h6 : 6 < n := by omega
    have h7 : 0 ≤ n := by omega
    clear hn h0
    go_enter Tryd.func12, Tryd.ntmps12
    go_wp2
    exact bodyPost_ret (v := .tuple #[.agg #[.int .i64 0, .int .u64 0], .int .i64 2]) (by simp [results, Tryd.results12, go_sem, p1, p2]) rfl ⟨rfl, by (repeat' (first | exact L0 | refine Below.alloc ?_ (by simp; omega) _ | refine Below.setCell ?_ (by first | exact Nat.le_refl _ | (dsimp only; omega) | (simp; omega)) _ | refine Below.drew ?_))⟩

set_option maxRecDepth 100000 in
theorem rConst_no (n : Nat) (w : World) (hn : n ≤ 6) : Calls Tryd.prog 12 #[.int .i64 n, .bool false] w fun e w' => e = .returned (.tuple #[.agg #[.int .i64 n, .int .u64 ((0 : Nat) : Int)], .int .i64 0]) ∧ Below w.heap.size w w' := by
  have CS := fun W => Lib.hid (rSize_any n W (by omega) (by omega))
  rw [Int.toNat_natCast] at CS
  have hN1 : 1 ≤ 2 ^ n := Nat.pow_pos (by omega)
  generalize 2 ^ n = N at *
  have h7 : 0 ≤ (n : Int) := by omega
  have h6 : (n : Int) ≤ 6 := by omega
  obtain ⟨P0, P1, L0, z0⟩ := tab2_new w 0 0 n 0 24
  go_enter Tryd.func12, Tryd.ntmps12
  go_wp2
  go_loopw [7] (fun s7 wr => s7 = .int .i64 0 ∧ TabI wr w.heap.size 0 0 ∧ TabI wr (w.heap.size + 1) n 0 ∧ Hid (Below w.heap.size w wr)) (fun _ _ => 0)
  case atStart => exact ⟨rfl, P0, P1, Lib.hid L0⟩
  case round =>
    obtain ⟨rfl, T0, T1, HW⟩ := hrel
    obtain ⟨q0, q1, q2, q3, q4⟩ := id T0
    obtain ⟨u0, u1, u2, u3, u4⟩ := id T1
    have hN2 : (0 : Int) < (N : Int) := by omega
    clear P0 P1 L0
    go_wp2_with (go_at_call 46; refine ((CS _).out).mono ?_; rintro e w1 ⟨rfl, rfl⟩)
    exact bodyPost_ret (v := .tuple #[.agg #[.int .i64 n, .int .u64 ((0 : Nat) : Int)], .int .i64 0]) (by simp [results, Tryd.results12, go_sem, q1, q2]) rfl ⟨rfl, (HW.out.setCell (p := ⟨w.heap.size, 0, none⟩) (Nat.le_refl _) _).setCell (p := ⟨w.heap.size, 1, none⟩) (Nat.le_refl _) _⟩

set_option maxRecDepth 100000 in
theorem rConst_yes (n : Nat) (w : World) (hn : n ≤ 6) : Calls Tryd.prog 12 #[.int .i64 n, .bool true] w fun e w' => e = .returned (.tuple #[.agg #[.int .i64 n, .int .u64 ((Tt.full n : Nat) : Int)], .int .i64 0]) ∧ Below w.heap.size w w' := by
  have CS := fun W => Lib.hid (rSize_any n W (by omega) (by omega))
  rw [Int.toNat_natCast] at CS
  have hN := Tt.size_le hn
  have hfull : Tt.full n = Tt.upto (fun _ => true) (2 ^ n) := (Tt.upto_one _).symm
  rw [hfull]
  clear hfull
  generalize 2 ^ n = N at *
  have h7 : 0 ≤ (n : Int) := by omega
  have h6 : (n : Int) ≤ 6 := by omega
  obtain ⟨P0, P1, L0, z0⟩ := tab2_new w 0 0 n 0 24
  go_enter Tryd.func12, Tryd.ntmps12
  go_wp2
  go_loopw [7] (fun s7 wr => ∃ k : Nat, k ≤ N ∧ s7 = .int .i64 k ∧ TabI wr w.heap.size 0 0 ∧ TabI wr (w.heap.size + 1) n (Tt.upto (fun _ => true) k) ∧ Hid (Below w.heap.size w wr)) (fun s7 _ => N - (intOf s7).toNat)
  case atStart => exact ⟨0, Nat.zero_le _, rfl, P0, P1, Lib.hid L0⟩
  case round =>
    clear P0 P1 L0
    obtain ⟨k, hk, rfl, T0, T1, HW⟩ := hrel
    have hb64 : Tt.upto (fun _ => true) k < 2 ^ 64 := Nat.lt_of_lt_of_le (Tt.upto_lt _ _) (Nat.pow_le_pow_right (by omega) (by omega))
    obtain ⟨p0, p1, p2, p3, p4⟩ := id T1
    by_cases hkN : k < N
    · have HS := Lib.hid ((Tt.upto_succ (fun _ => true) k).trans (if_pos rfl))
      obtain ⟨u', hu0⟩ : ∃ u', Tt.upto (fun _ => true) (k + 1) = u' := ⟨_, rfl⟩
      rw [hu0] at HS
      have HU0 := Lib.hid hu0
      clear hu0
      have hor := or_bit (Tt.upto (fun _ => true) k) k hb64 (by omega)
      rw [← HS.out] at hor
      generalize Tt.upto (fun _ => true) k = u at *
      have T1' := (T1.setBits u').drew
      have T0' := (T0.other (g' := w.heap.size + 1) (j := 1) (.int .u64 (u' : Int)) (by omega)).drew
      have HW' := Lib.hid (HW.out.setCell (p := ⟨w.heap.size + 1, 1, none⟩) (by show _ ≤ w.heap.size + 1; omega) (.int .u64 (u' : Int))).drew
      clear hb64
      go_wp2_with (go_at_call 46; refine ((CS _).out).mono ?_; rintro e w1 ⟨rfl, rfl⟩)
      go_still_tail 6, (by kernel_rfl)
      change wpList _ _ _ _ _ wr.drew
      go_wp2
      go_roundw
      case rel => exact ⟨k + 1, by omega, by go_num, T0', by rw [HU0.out]; exact T1', HW'⟩
      case measure => simp [intOf]; omega
    · obtain rfl : k = N := by omega
      obtain ⟨u, hu0⟩ : ∃ u, Tt.upto (fun _ => true) k = u := ⟨_, rfl⟩
      rw [hu0] at T1 p2
      have HU0 := Lib.hid hu0
      clear hu0 hb64
      obtain ⟨q0, q1, q2, q3, q4⟩ := id T0
      go_wp2_with (go_at_call 46; refine ((CS _).out).mono ?_; rintro e w1 ⟨rfl, rfl⟩)
      exact bodyPost_ret (v := .tuple #[.agg #[.int .i64 n, .int .u64 u], .int .i64 0]) (by simp [results, Tryd.results12, go_sem, q1, q2]) rfl ⟨by rw [HU0.out], (HW.out.setCell (p := ⟨w.heap.size, 0, none⟩) (Nat.le_refl _) _).setCell (p := ⟨w.heap.size, 1, none⟩) (Nat.le_refl _) _⟩
theorem rVar_bad (n i : Int) (w : World) (hn : ¬ ((0 ≤ n ∧ n ≤ 6) ∧ 0 ≤ i ∧ i < n)) : Calls Tryd.prog 14 #[.int .i64 n, .int .i64 i] w fun e w' => e = .returned (.tuple #[.agg #[.int .i64 0, .int .u64 0], .int .i64 2]) ∧ Below w.heap.size w w' := by
  obtain ⟨P0, L0, z0⟩ := tab1_new w 0 0 24
  generalize hX : w.alloc (.cells #[.int .i64 0, .int .u64 ((0 : Nat) : Int)] 24) = X at *
  change w.alloc (.cells #[.int .i64 0, .int .u64 0] 24) = X at hX
  obtain ⟨p0, p1, p2, p3, p4⟩ := P0
  by_cases h0 : n < 0
  · clear hn
    go_enter Tryd.func14, Tryd.ntmps14
    go_wp2
    exact bodyPost_ret (v := .tuple #[.agg #[.int .i64 0, .int .u64 0], .int .i64 2]) (by simp [results, Tryd.results14, go_sem, p1, p2]) rfl ⟨rfl, by (repeat' (first | exact L0 | refine Below.alloc ?_ (by simp; omega) _ | refine Below.setCell ?_ (by first | exact Nat.le_refl _ | (dsimp only; omega) | (simp; omega)) _ | refine Below.drew ?_))⟩
  · have h1 : 0 ≤ n := by omega
    by_cases h2 : 6 < n
    · clear hn h0
      go_enter Tryd.func14, Tryd.ntmps14
      go_wp2
      exact bodyPost_ret (v := .tuple #[.agg #[.int .i64 0, .int .u64 0], .int .i64 2]) (by simp [results, Tryd.results14, go_sem, p1, p2]) rfl ⟨rfl, by (repeat' (first | exact L0 | refine Below.alloc ?_ (by simp; omega) _ | refine Below.setCell ?_ (by first | exact Nat.le_refl _ | (dsimp only; omega) | (simp; omega)) _ | refine Below.drew ?_))⟩
    · have h3 : n ≤ 6 := by omega
      by_cases h4 : i < 0
      · clear hn h0 h2
        go_enter Tryd.func14, Tryd.ntmps14
        go_wp2
        exact bodyPost_ret (v := .tuple #[.agg #[.int .i64 0, .int .u64 0], .int .i64 2]) (by simp [results, Tryd.results14, go_sem, p1, p2]) rfl ⟨rfl, by (repeat' (first | exact L0 | refine Below.alloc ?_ (by simp; omega) _ | refine Below.setCell ?_ (by first | exact Nat.le_refl _ | (dsimp only; omega) | (simp; omega)) _ | refine Below.drew ?_))⟩
      · have h5 : 0 ≤ i := by omega
        have h6 : n ≤ i := by omega
        clear hn h0 h2 h4
        go_enter Tryd.func14, Tryd.ntmps14
        go_wp2
        exact bodyPost_ret (v := .tuple #[.agg #[.int .i64 0, .int .u64 0], .int .i64 2]) (by simp [results, Tryd.results14, go_sem, p1, p2]) rfl ⟨rfl, by (repeat' (first | exact L0 | refine Below.alloc ?_ (by simp; omega) _ | refine Below.setCell ?_ (by first | exact Nat.le_refl _ | (dsimp only; omega) | (simp; omega)) _ | refine Below.drew ?_))⟩

theorem rVar_ok (n i : Nat) (w : World) (hn : n ≤ 6) (hi : i < n) : Calls Tryd.prog 14 #[.int .i64 n, .int .i64 i] w fun e w' => e = .returned (.tuple #[.agg #[.int .i64 n, .int .u64 ((Tt.col i &&& Tt.full n : Nat) : Int)], .int .i64 0]) ∧ Below w.heap.size w w' := by
  have CV := fun W => Lib.hid (rVariable_any n i W hn (by omega))
  rw [Tt.col_mk hn (by omega)] at CV
  generalize Tt.col i &&& Tt.full n = v at *
  have h7 : 0 ≤ (n : Int) := by omega
  have h6 : (n : Int) ≤ 6 := by omega
  have h5 : 0 ≤ (i : Int) := by omega
  have h4 : (i : Int) < (n : Int) := by omega
  obtain ⟨P0, L0, z0⟩ := tab1_new w 0 0 24
  generalize hX : w.alloc (.cells #[.int .i64 0, .int .u64 ((0 : Nat) : Int)] 24) = X at *
  change w.alloc (.cells #[.int .i64 0, .int .u64 0] 24) = X at hX
  obtain ⟨p0, p1, p2, p3, p4⟩ := id P0
  go_enter Tryd.func14, Tryd.ntmps14
  go_wp2_with fail
  refine ((CV _).out).mono ?_
  rintro e w1 ⟨rfl, hw1⟩
  have zw1 := hw1.size
  have P0w1 := P0.below (by omega) hw1
  obtain ⟨a0w1, b0w1, c0w1, d0w1, e0w1⟩ := id P0w1
  have Lw1 := L0.trans (hw1.mono (by omega))
  clear hw1
  go_wp2
  exact bodyPost_ret (v := .tuple #[.agg #[.int .i64 n, .int .u64 v], .int .i64 0]) (by simp [results, Tryd.results14, go_sem, b0w1, c0w1]) rfl ⟨rfl, by (repeat' (first | exact Lw1 | refine Below.alloc ?_ (by simp; omega) _ | refine Below.setCell ?_ (by first | exact Nat.le_refl _ | (dsimp only; omega) | (simp; omega)) _ | refine Below.drew ?_))⟩

set_option maxRecDepth 100000 in
theorem rValue_ok (n b k : Nat) (w : World) (hn : n ≤ 6) (hb : b < 2 ^ 2 ^ n) (hk : k < 2 ^ n) : Calls Tryd.prog 16 #[.agg #[.int .i64 n, .int .u64 b], .int .i64 k] w fun e w' => e = .returned (.tuple #[.bool (b.testBit k), .int .i64 0]) ∧ Below w.heap.size w w' := by
  have CC := fun W => Lib.hid (rCheck_any n b W (Tt.w64 hn hb))
  rw [Tt.chk_ok hn hb] at CC
  have CS := fun W => Lib.hid (rSize_any n W (by omega) (by omega))
  rw [Int.toNat_natCast] at CS
  have hN := Tt.size_le hn
  have CA := fun W => Lib.hid (rAt_any n b k W (Tt.w64 hn hb) (by omega))
  generalize 2 ^ n = N at *
  generalize b.testBit k = r at *
  have hd : decide (N ≤ k) = false := by simp; omega
  have h0 : (0 : Int) ≤ (k : Int) := by omega
  have hd2 : decide ((N : Int) ≤ (k : Int)) = false := by simp; omega
  obtain ⟨P0, L0, z0⟩ := tab1_new w n b 24
  generalize hX : w.alloc (.cells #[.int .i64 n, .int .u64 b] 24) = X at *
  obtain ⟨p0, p1, p2, p3, p4⟩ := id P0
  clear hb
  go_enter Tryd.func16, Tryd.ntmps16
  go_wp2_with fail
  refine ((CC _).out).mono ?_
  rintro e w1 ⟨rfl, hw1⟩
  have zw1 := hw1.size
  have P0w1 := P0.below (by omega) hw1
  obtain ⟨a0w1, b0w1, c0w1, d0w1, e0w1⟩ := id P0w1
  have Lw1 := L0.trans (hw1.mono (by omega))
  clear hw1
  go_wp2_with (first | (go_at_call 46; refine ((CS _).out).mono ?_; rintro e w2 ⟨rfl, rfl⟩) | fail)
  refine ((CA _).out).mono ?_
  rintro e w3 ⟨rfl, hw3⟩
  have zw3 := hw3.size
  have P0w3 := P0w1.below (by omega) hw3
  obtain ⟨a0w3, b0w3, c0w3, d0w3, e0w3⟩ := id P0w3
  have Lw3 := Lw1.trans (hw3.mono (by omega))
  clear hw3
  go_wp2
  go_ret2
  exact ⟨rfl, Lw3⟩
set_option maxRecDepth 100000 in
theorem rValue_out (n b : Nat) (k : Int) (w : World) (hn : n ≤ 6) (hb : b < 2 ^ 2 ^ n) (hk : ¬ (0 ≤ k ∧ k < ((2 ^ n : Nat) : Int))) : Calls Tryd.prog 16 #[.agg #[.int .i64 n, .int .u64 b], .int .i64 k] w fun e w' => e = .returned (.tuple #[.bool false, .int .i64 2]) ∧ Below w.heap.size w w' := by
  have CC := fun W => Lib.hid (rCheck_any n b W (Tt.w64 hn hb))
  rw [Tt.chk_ok hn hb] at CC
  have CS := fun W => Lib.hid (rSize_any n W (by omega) (by omega))
  rw [Int.toNat_natCast] at CS
  generalize 2 ^ n = N at *
  obtain ⟨P0, L0, z0⟩ := tab1_new w n b 24
  generalize hX : w.alloc (.cells #[.int .i64 n, .int .u64 b] 24) = X at *
  obtain ⟨p0, p1, p2, p3, p4⟩ := id P0
  clear hb
  by_cases h1 : k < 0
  · clear hk
    go_enter Tryd.func16, Tryd.ntmps16
    go_wp2_with fail
    refine ((CC _).out).mono ?_
    rintro e w1 ⟨rfl, hw1⟩
    have zw1 := hw1.size
    have P0w1 := P0.below (by omega) hw1
    obtain ⟨a0w1, b0w1, c0w1, d0w1, e0w1⟩ := id P0w1
    have Lw1 := L0.trans (hw1.mono (by omega))
    clear hw1
    go_wp2
    go_ret2
    exact ⟨rfl, Lw1⟩
  · have h2 : 0 ≤ k := by omega
    have h3 : (N : Int) ≤ k := by omega
    clear hk h1
    go_enter Tryd.func16, Tryd.ntmps16
    go_wp2_with fail
    refine ((CC _).out).mono ?_
    rintro e w1 ⟨rfl, hw1⟩
    have zw1 := hw1.size
    have P0w1 := P0.below (by omega) hw1
    obtain ⟨a0w1, b0w1, c0w1, d0w1, e0w1⟩ := id P0w1
    have Lw1 := L0.trans (hw1.mono (by omega))
    clear hw1
    go_wp2_with (go_at_call 46; refine ((CS _).out).mono ?_; rintro e w2 ⟨rfl, rfl⟩)
    go_ret2
    exact ⟨rfl, Lw1⟩
theorem rValue_bad (n : Int) (b : Nat) (k : Int) (w : World) (hb : b < 2 ^ 64) (h1 : Tt.chk n b ≠ 0) : Calls Tryd.prog 16 #[.agg #[.int .i64 n, .int .u64 b], .int .i64 k] w fun e w' => e = .returned (.tuple #[.bool false, .int .i64 (Tt.chk n b)]) ∧ Below w.heap.size w w' := by
  have CC := fun W => Lib.hid (rCheck_any n b W hb)
  generalize Tt.chk n b = c at *
  have g4 : (c != 0) = true := by simpa using h1
  obtain ⟨P0, L0, z0⟩ := tab1_new w n b 24
  generalize hX : w.alloc (.cells #[.int .i64 n, .int .u64 b] 24) = X at *
  obtain ⟨p0, p1, p2, p3, p4⟩ := id P0
  clear h1 hb
  go_enter Tryd.func16, Tryd.ntmps16
  go_wp2_with fail
  refine ((CC _).out).mono ?_
  rintro e w1 ⟨rfl, hw1⟩
  have zw1 := hw1.size
  have P0w1 := P0.below (by omega) hw1
  obtain ⟨a0w1, b0w1, c0w1, d0w1, e0w1⟩ := id P0w1
  have Lw1 := L0.trans (hw1.mono (by omega))
  clear hw1
  go_wp2
  go_ret2
  exact ⟨rfl, Lw1⟩
theorem rPoints_ok (n b : Nat) (w : World) (hn : n ≤ 6) (hb : b < 2 ^ 2 ^ n) : Calls Tryd.prog 18 #[.agg #[.int .i64 n, .int .u64 b]] w fun e w' => ∃ v, e = .returned (.tuple #[v, .int .i64 0]) ∧ Sees .i64 w' v (Tt.pts (fun k => b.testBit k) (2 ^ n)) ∧ Below w.heap.size w w' := by
  have CC := fun W => Lib.hid (rCheck_any n b W (Tt.w64 hn hb))
  rw [Tt.chk_ok hn hb] at CC
  have CD := fun W => Lib.hid (rOn_any n b W hn hb)
  generalize Tt.pts (fun k => b.testBit k) (2 ^ n) = l at *
  obtain ⟨P0, L0, z0⟩ := tab1_new w n b 24
  generalize hX : w.alloc (.cells #[.int .i64 n, .int .u64 b] 24) = X at *
  obtain ⟨p0, p1, p2, p3, p4⟩ := id P0
  clear hb
  go_enter Tryd.func18, Tryd.ntmps18
  go_wp2_with fail
  refine ((CC _).out).mono ?_
  rintro e w1 ⟨rfl, hw1⟩
  have zw1 := hw1.size
  have P0w1 := P0.below (by omega) hw1
  obtain ⟨a0w1, b0w1, c0w1, d0w1, e0w1⟩ := id P0w1
  have Lw1 := L0.trans (hw1.mono (by omega))
  clear hw1
  go_wp2_with fail
  refine ((CD _).out).mono ?_
  rintro e w2 ⟨v, rfl, hr, hw2⟩
  have Lw2 := Lw1.trans (hw2.mono (by omega))
  have HR := Lib.hid hr
  clear hr hw2
  go_wp2
  go_ret2
  exact ⟨v, rfl, HR.out.sees, Lw2⟩
theorem rPoints_bad (n : Int) (b : Nat) (w : World) (hb : b < 2 ^ 64) (h1 : Tt.chk n b ≠ 0) : Calls Tryd.prog 18 #[.agg #[.int .i64 n, .int .u64 b]] w fun e w' => e = .returned (.tuple #[.slice none 0 0, .int .i64 (Tt.chk n b)]) ∧ Below w.heap.size w w' := by
  have CC := fun W => Lib.hid (rCheck_any n b W hb)
  generalize Tt.chk n b = c at *
  have g4 : (c != 0) = true := by simpa using h1
  obtain ⟨P0, L0, z0⟩ := tab1_new w n b 24
  generalize hX : w.alloc (.cells #[.int .i64 n, .int .u64 b] 24) = X at *
  obtain ⟨p0, p1, p2, p3, p4⟩ := id P0
  clear h1 hb
  go_enter Tryd.func18, Tryd.ntmps18
  go_wp2_with fail
  refine ((CC _).out).mono ?_
  rintro e w1 ⟨rfl, hw1⟩
  have zw1 := hw1.size
  have P0w1 := P0.below (by omega) hw1
  obtain ⟨a0w1, b0w1, c0w1, d0w1, e0w1⟩ := id P0w1
  have Lw1 := L0.trans (hw1.mono (by omega))
  clear hw1
  go_wp2
  go_ret2
  exact ⟨rfl, Lw1⟩

theorem tConst_any (n : Int) (v : Bool) (w : World) : Calls Tryd.prog 11 #[.int .i64 n, .bool v] w fun e w' => e = .returned (.tuple #[.agg #[.int .i64 (Tt.constV n v).1.1, .int .u64 ((Tt.constV n v).1.2 : Nat)], .int .i64 (Tt.constV n v).2]) ∧ Below w.heap.size w w' := by
  unfold Tt.constV
  by_cases h : 0 ≤ n ∧ n ≤ 6
  · obtain ⟨m, rfl⟩ := Int.eq_ofNat_of_zero_le h.1
    rw [if_pos h]
    exact tConst_ok m v w (by omega)
  · rw [if_neg h]
    exact tConst_bad n v w h
theorem tVar_any (n i : Int) (w : World) (hst : St w) : Calls Tryd.prog 13 #[.int .i64 n, .int .i64 i] w fun e w' => e = .returned (.tuple #[.agg #[.int .i64 (Tt.varV n i).1.1, .int .u64 ((Tt.varV n i).1.2 : Nat)], .int .i64 (Tt.varV n i).2]) ∧ Below w.heap.size w w' := by
  unfold Tt.varV
  by_cases h : (0 ≤ n ∧ n ≤ 6) ∧ 0 ≤ i ∧ i < n
  · obtain ⟨m, rfl⟩ := Int.eq_ofNat_of_zero_le h.1.1
    obtain ⟨j, rfl⟩ := Int.eq_ofNat_of_zero_le h.2.1
    rw [if_pos h]
    exact tVar_ok m j w (by omega) (by omega) hst.col hst.h2
  · rw [if_neg h]
    exact tVar_bad n i w (by omega)
theorem tValue_any (n : Int) (b : Nat) (k : Int) (w : World) (hb : b < 2 ^ 64) : Calls Tryd.prog 15 #[.agg #[.int .i64 n, .int .u64 b], .int .i64 k] w fun e w' => e = .returned (.tuple #[.bool (Tt.valV n b k).1, .int .i64 (Tt.valV n b k).2]) ∧ Below w.heap.size w w' := by
  unfold Tt.valV
  by_cases h : Tt.chk n b = 0
  · obtain ⟨m, rfl, hm, hb2⟩ := chk_nat h
    rw [if_neg (by omega)]
    by_cases h2 : 0 ≤ k ∧ k < ((2 ^ (m : Int).toNat : Nat) : Int)
    · obtain ⟨j, rfl⟩ := Int.eq_ofNat_of_zero_le h2.1
      rw [if_pos h2]
      have h3 : j < 2 ^ m := by have := h2.2; rw [Int.toNat_natCast] at this; omega
      exact tValue_ok m b j w hm hb h h3
    · rw [if_neg h2]
      exact tValue_bad m b k w hb 2 (.inr ⟨h, h2, rfl⟩)
  · rw [if_pos h]
    exact tValue_bad n b k w hb _ (.inl ⟨h, rfl⟩)
theorem tPts_any (n : Int) (b : Nat) (w : World) (hb : b < 2 ^ 64) (hst : St w) : Calls Tryd.prog 17 #[.agg #[.int .i64 n, .int .u64 b]] w fun e w' => ∃ v, e = .returned (.tuple #[v, .int .i64 (Tt.chk n b)]) ∧ Sees .i64 w' v (Tt.ptsL n b) ∧ Below w.heap.size w w' := by
  unfold Tt.ptsL
  by_cases h : Tt.chk n b = 0
  · obtain ⟨k, rfl, hm, hb2⟩ := chk_nat h
    rw [if_pos h, h]
    exact tPoints_ok k b w hm hb2 hst
  · rw [if_neg h]
    exact (tPoints_bad n b w hb h).mono fun e w' ⟨h1, h2⟩ => ⟨_, h1, .inl ⟨rfl, rfl⟩, h2⟩
theorem rConst_any (n : Int) (v : Bool) (w : World) : Calls Tryd.prog 12 #[.int .i64 n, .bool v] w fun e w' => e = .returned (.tuple #[.agg #[.int .i64 (Tt.constV n v).1.1, .int .u64 ((Tt.constV n v).1.2 : Nat)], .int .i64 (Tt.constV n v).2]) ∧ Below w.heap.size w w' := by
  unfold Tt.constV
  by_cases h : 0 ≤ n ∧ n ≤ 6
  · obtain ⟨m, rfl⟩ := Int.eq_ofNat_of_zero_le h.1
    rw [if_pos h]
    cases v
    · exact rConst_no m w (by omega)
    · exact rConst_yes m w (by omega)
  · rw [if_neg h]
    exact rConst_bad n v w h
theorem rVar_any (n i : Int) (w : World) : Calls Tryd.prog 14 #[.int .i64 n, .int .i64 i] w fun e w' => e = .returned (.tuple #[.agg #[.int .i64 (Tt.varV n i).1.1, .int .u64 ((Tt.varV n i).1.2 : Nat)], .int .i64 (Tt.varV n i).2]) ∧ Below w.heap.size w w' := by
  unfold Tt.varV
  by_cases h : (0 ≤ n ∧ n ≤ 6) ∧ 0 ≤ i ∧ i < n
  · obtain ⟨m, rfl⟩ := Int.eq_ofNat_of_zero_le h.1.1
    obtain ⟨j, rfl⟩ := Int.eq_ofNat_of_zero_le h.2.1
    rw [if_pos h]
    exact rVar_ok m j w (by omega) (by omega)
  · rw [if_neg h]
    exact rVar_bad n i w h
theorem rValue_any (n : Int) (b : Nat) (k : Int) (w : World) (hb : b < 2 ^ 64) : Calls Tryd.prog 16 #[.agg #[.int .i64 n, .int .u64 b], .int .i64 k] w fun e w' => e = .returned (.tuple #[.bool (Tt.valV n b k).1, .int .i64 (Tt.valV n b k).2]) ∧ Below w.heap.size w w' := by
  unfold Tt.valV
  by_cases h : Tt.chk n b = 0
  · obtain ⟨m, rfl, hm, hb2⟩ := chk_nat h
    rw [if_neg (by omega)]
    by_cases h2 : 0 ≤ k ∧ k < ((2 ^ (m : Int).toNat : Nat) : Int)
    · obtain ⟨j, rfl⟩ := Int.eq_ofNat_of_zero_le h2.1
      rw [if_pos h2]
      have h3 : j < 2 ^ m := by have := h2.2; rw [Int.toNat_natCast] at this; omega
      exact rValue_ok m b j w hm hb2 h3
    · rw [if_neg h2]
      exact rValue_out m b k w hm hb2 (by rw [Int.toNat_natCast] at h2; exact h2)
  · rw [if_pos h]
    exact rValue_bad n b k w hb h
theorem rPts_any (n : Int) (b : Nat) (w : World) (hb : b < 2 ^ 64) : Calls Tryd.prog 18 #[.agg #[.int .i64 n, .int .u64 b]] w fun e w' => ∃ v, e = .returned (.tuple #[v, .int .i64 (Tt.chk n b)]) ∧ Sees .i64 w' v (Tt.ptsL n b) ∧ Below w.heap.size w w' := by
  unfold Tt.ptsL
  by_cases h : Tt.chk n b = 0
  · obtain ⟨k, rfl, hm, hb2⟩ := chk_nat h
    rw [if_pos h, h]
    exact rPoints_ok k b w hm hb2
  · rw [if_neg h]
    exact (rPoints_bad n b w hb h).mono fun e w' ⟨h1, h2⟩ => ⟨_, h1, .inl ⟨rfl, rfl⟩, h2⟩

end Go.Proofs.YtmmcakeedejbnaaDoor
