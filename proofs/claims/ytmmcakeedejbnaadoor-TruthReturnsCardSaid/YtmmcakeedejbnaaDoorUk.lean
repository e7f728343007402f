/- The contracts of the reference of tables: Opposite, Not, And, Or. -/
import Derived.Test.YtmmcakeedejbnaaDoorUj
import Derived.OwnWalk
namespace Tt
/-- The points below m that a predicate has. -/
def pts (p : Nat → Bool) (m : Nat) : List Nat := (List.range m).filter p
theorem pts_zero (p : Nat → Bool) : pts p 0 = [] := rfl
theorem pts_succ (p : Nat → Bool) (m : Nat) : pts p (m + 1) = if p m then pts p m ++ [m] else pts p m := by
  unfold pts
  rw [List.range_succ, List.filter_append]
  by_cases h : p m = true
  · simp [h]
  · simp [h]
theorem pts_len (p : Nat → Bool) (m : Nat) : (pts p m).length ≤ m := by
  have := List.length_filter_le p (List.range m)
  rw [List.length_range] at this
  exact this
end Tt
namespace Go.Proofs.YtmmcakeedejbnaaDoor
open Go.RowKit
theorem inB_pts (p : Nat → Bool) (m k : Nat) : inB (Tt.pts p m) k = (decide (k < m) && p k) := by
  unfold inB Tt.pts
  rw [Bool.eq_iff_iff, List.contains_iff_mem, List.mem_filter, List.mem_range]
  simp
theorem mk_pts (n : Nat) (p : Nat → Bool) : Tt.mk n (inB (Tt.pts p (2 ^ n))) = Tt.mk n p := by
  refine Tt.same (Tt.mk_lt n _) (Tt.mk_lt n _) fun k hk => ?_
  rw [Tt.mk_bit, Tt.mk_bit, inB_pts]
  simp [hk]
theorem Tryd.infoI64 : (Tryd.prog.info? 3).map (fun i => (i.zero, i.size, i.bytes)) = some (some (.int .i64 0), 1, 8) := by kernel_rfl

set_option maxRecDepth 100000 in
theorem rOpp_any (n b : Nat) (w : World) (hn : n ≤ 6) (hb : b < 2 ^ 2 ^ n) :
    Calls Tryd.prog 56 #[.agg #[.int .i64 n, .int .u64 b]] w fun e w' => e = .returned (.agg #[.int .i64 n, .int .u64 ((Tt.mk n (fun k => !b.testBit k) : Nat) : Int)]) ∧ Below w.heap.size w w' := by
  have hb64 := Tt.w64 hn hb
  have hN := Tt.size_le hn
  have CS := fun W => Lib.hid (rSize_any n W (by omega) (by omega))
  rw [Int.toNat_natCast] at CS
  have CM := fun v W (h : Sees .i64 W v (Tt.pts (fun k => !b.testBit k) (2 ^ n))) => Lib.hid (rMade_any n v (Tt.pts (fun k => !b.testBit k) (2 ^ n)) W hn h (Nat.le_trans (Tt.pts_len _ _) hN))
  rw [mk_pts] at CM
  generalize Tt.mk n (fun k => !b.testBit k) = r at *
  clear hb
  generalize 2 ^ n = N at *
  obtain ⟨i0, hi, hz0, hz1, hz2⟩ := info_parts Tryd.infoI64
  obtain ⟨P0, P1, L0, z0⟩ := tab2_new w n b 0 0 24
  go_enter Tryd.func56, Tryd.ntmps56
  go_wp2
  go_loopw [3, 4] (fun s3 s4 wr => ∃ k : Nat, k ≤ N ∧ s4 = .int .i64 k ∧ Row (w.heap.size + 2) .i64 3 wr s3 (Tt.pts (fun k => !b.testBit k) k) ∧ TabI wr (w.heap.size) n b ∧ TabI wr (w.heap.size + 1) 0 0 ∧ Hid (Below w.heap.size w wr)) (fun _ s4 _ => N - (intOf s4).toNat)
  case atStart => exact ⟨0, Nat.zero_le _, rfl, Row.nil _ _ _ _, P0, P1, Lib.hid L0⟩
  case round =>
    clear P0 P1 L0
    obtain ⟨k, hk, rfl, hrow, T0, T1, HW⟩ := hrel
    have hwb : w.heap.size + 2 ≤ wr.heap.size := by have := T1.1; omega
    obtain ⟨c00, c01, c02, c03, c04⟩ := id T0
    obtain ⟨c10, c11, c12, c13, c14⟩ := id T1
    by_cases hkN : k < N
    · have HS := Lib.hid (Tt.pts_succ (fun k => !b.testBit k) k)
      have hlen := Tt.pts_len (fun k => !b.testBit k) k
      have CA := fun W => Lib.hid (rAt_any n b k W hb64 (by omega))
      cases hbit : b.testBit k
      · rw [hbit] at CA
        have HS2 := Lib.hid (HS.out.trans (if_pos (by simp [hbit])))
        clear HS hbit
        generalize Tt.pts (fun k => !b.testBit k) k = l at *
        go_wp2_with (first | (go_at_call 46; refine ((CS _).out).mono ?_; rintro e w1 ⟨rfl, rfl⟩) | fail)
        refine ((CA _).out).mono ?_
        rintro e w1 ⟨rfl, hb1⟩
        have zb1 := hb1.size
        have T0' := T0.below (by omega) hb1
        have T1' := T1.below (by omega) hb1
        have hrow' := hrow.below hb1 (Nat.le_refl _)
        have HW' := Lib.hid (HW.out.trans (hb1.mono (by omega)))
        clear hb1 T0 T1 hrow HW c01 c02 c03 c04 c11 c12 c13 c14
        go_wp2_with (at_builtin; refine wpList_append_nat rfl _ _ 36 rfl 3 i0 .i64 8 Tryd.underlying36 hi hz0 hz1 hz2 (by omega) _ _ l [k] rfl rfl (w.heap.size + 2) (hrow'.below ((Below.refl _ _).alloc (Nat.le_refl _) _) (Nat.le_refl _)) ((Row.one 0 _ _ _ (Nat.zero_le _) k _ rfl).sees) (by simp; omega) (by simp; omega) ?_; intro v5 w5 hr5 hb5)
        go_roundw
        case rel =>
          have hbA := ((Below.refl w1.heap.size w1).alloc (Nat.le_refl _) (.cells #[.int .i64 (k : Int)] 3)).mono (show w.heap.size + 2 ≤ w1.heap.size by omega)
          have hbB := hbA.trans hb5
          exact ⟨k + 1, by omega, by go_num, by rw [HS2.out]; exact hr5, T0'.below (by omega) hbB, T1'.below (by omega) hbB, Lib.hid (HW'.out.trans (hbB.mono (by omega)))⟩
        case measure => simp [intOf]; omega
      · rw [hbit] at CA
        have HS2 := Lib.hid (HS.out.trans (if_neg (by simp [hbit])))
        clear HS hbit
        generalize Tt.pts (fun k => !b.testBit k) k = l at *
        go_wp2_with (first | (go_at_call 46; refine ((CS _).out).mono ?_; rintro e w1 ⟨rfl, rfl⟩) | fail)
        refine ((CA _).out).mono ?_
        rintro e w1 ⟨rfl, hb1⟩
        have zb1 := hb1.size
        have T0' := T0.below (by omega) hb1
        have T1' := T1.below (by omega) hb1
        have hrow' := hrow.below hb1 (Nat.le_refl _)
        have HW' := Lib.hid (HW.out.trans (hb1.mono (by omega)))
        clear hb1 T0 T1 hrow HW c01 c02 c03 c04 c11 c12 c13 c14
        go_wp2
        go_roundw
        case rel => exact ⟨k + 1, by omega, by go_num, by rw [HS2.out]; exact hrow', T0', T1', HW'⟩
        case measure => simp [intOf]; omega
    · obtain rfl : k = N := by omega
      have CM' := CM _ _ hrow.sees
      generalize Tt.pts (fun k => !b.testBit k) k = l at *
      go_wp2_with (first | (go_at_call 46; refine ((CS _).out).mono ?_; rintro e w1 ⟨rfl, rfl⟩) | fail)
      refine (CM'.out).mono ?_
      rintro e w1 ⟨rfl, hb1⟩
      have zb1 := hb1.size
      have T1' := T1.below (by omega) hb1
      have HW' := Lib.hid (HW.out.trans (hb1.mono (by omega)))
      obtain ⟨s0, s1, s2, s3, s4⟩ := id T1'
      clear hb1 c01 c02 c03 c04 c11 c12 c13 c14
      go_wp2
      exact bodyPost_ret (v := .agg #[.int .i64 n, .int .u64 r]) (by simp [results, Tryd.results56, go_sem, s1, s2]) rfl ⟨rfl, (HW'.out.setCell (p := ⟨w.heap.size + 1, 0, none⟩) (by show _ ≤ w.heap.size + 1; omega) _).setCell (p := ⟨w.heap.size + 1, 1, none⟩) (by show _ ≤ w.heap.size + 1; omega) _⟩

set_option maxRecDepth 100000 in
theorem rOn_any (n b : Nat) (w : World) (hn : n ≤ 6) (hb : b < 2 ^ 2 ^ n) :
    Calls Tryd.prog 55 #[.agg #[.int .i64 n, .int .u64 b]] w fun e w' => ∃ v, e = .returned v ∧ Row (w.heap.size + 1) .i64 3 w' v (Tt.pts (fun k => b.testBit k) (2 ^ n)) ∧ Below w.heap.size w w' := by
  have hb64 := Tt.w64 hn hb
  have hN := Tt.size_le hn
  have CS := fun W => Lib.hid (rSize_any n W (by omega) (by omega))
  rw [Int.toNat_natCast] at CS
  clear hb
  generalize 2 ^ n = N at *
  obtain ⟨i0, hi, hz0, hz1, hz2⟩ := info_parts Tryd.infoI64
  obtain ⟨P0, L0, z0⟩ := tab1_new w n b 24
  go_enter Tryd.func55, Tryd.ntmps55
  go_wp2
  go_loopw [3, 4] (fun s3 s4 wr => ∃ k : Nat, k ≤ N ∧ s4 = .int .i64 k ∧ Row (w.heap.size + 1) .i64 3 wr s3 (Tt.pts (fun k => b.testBit k) k) ∧ TabI wr (w.heap.size) n b ∧ Hid (Below w.heap.size w wr)) (fun _ s4 _ => N - (intOf s4).toNat)
  case atStart => exact ⟨0, Nat.zero_le _, rfl, Row.nil _ _ _ _, P0, Lib.hid L0⟩
  case round =>
    clear P0 L0
    obtain ⟨k, hk, rfl, hrow, T0, HW⟩ := hrel
    have hwb : w.heap.size + 1 ≤ wr.heap.size := by have := T0.1; omega
    obtain ⟨c00, c01, c02, c03, c04⟩ := id T0
    by_cases hkN : k < N
    · have HS := Lib.hid (Tt.pts_succ (fun k => b.testBit k) k)
      have hlen := Tt.pts_len (fun k => b.testBit k) k
      have CA := fun W => Lib.hid (rAt_any n b k W hb64 (by omega))
      cases hbit : b.testBit k
      · rw [hbit] at CA
        have HS2 := Lib.hid (HS.out.trans (if_neg (by simp [hbit])))
        clear HS hbit
        generalize Tt.pts (fun k => b.testBit k) k = l at *
        go_wp2_with (first | (go_at_call 46; refine ((CS _).out).mono ?_; rintro e w1 ⟨rfl, rfl⟩) | fail)
        refine ((CA _).out).mono ?_
        rintro e w1 ⟨rfl, hb1⟩
        have zb1 := hb1.size
        have T0' := T0.below (by omega) hb1
        have hrow' := hrow.below hb1 (Nat.le_refl _)
        have HW' := Lib.hid (HW.out.trans (hb1.mono (by omega)))
        clear hb1 T0 hrow HW c01 c02 c03 c04
        go_wp2
        go_roundw
        case rel => exact ⟨k + 1, by omega, by go_num, by rw [HS2.out]; exact hrow', T0', HW'⟩
        case measure => simp [intOf]; omega
      · rw [hbit] at CA
        have HS2 := Lib.hid (HS.out.trans (if_pos (by simp [hbit])))
        clear HS hbit
        generalize Tt.pts (fun k => b.testBit k) k = l at *
        go_wp2_with (first | (go_at_call 46; refine ((CS _).out).mono ?_; rintro e w1 ⟨rfl, rfl⟩) | fail)
        refine ((CA _).out).mono ?_
        rintro e w1 ⟨rfl, hb1⟩
        have zb1 := hb1.size
        have T0' := T0.below (by omega) hb1
        have hrow' := hrow.below hb1 (Nat.le_refl _)
        have HW' := Lib.hid (HW.out.trans (hb1.mono (by omega)))
        clear hb1 T0 hrow HW c01 c02 c03 c04
        go_wp2_with (at_builtin; refine wpList_append_nat rfl _ _ 36 rfl 3 i0 .i64 8 Tryd.underlying36 hi hz0 hz1 hz2 (by omega) _ _ l [k] rfl rfl (w.heap.size + 1) (hrow'.below ((Below.refl _ _).alloc (Nat.le_refl _) _) (Nat.le_refl _)) ((Row.one 0 _ _ _ (Nat.zero_le _) k _ rfl).sees) (by simp; omega) (by simp; omega) ?_; intro v5 w5 hr5 hb5)
        go_roundw
        case rel =>
          have hbA := ((Below.refl w1.heap.size w1).alloc (Nat.le_refl _) (.cells #[.int .i64 (k : Int)] 3)).mono (show w.heap.size + 1 ≤ w1.heap.size by omega)
          have hbB := hbA.trans hb5
          exact ⟨k + 1, by omega, by go_num, by rw [HS2.out]; exact hr5, T0'.below (by omega) hbB, Lib.hid (HW'.out.trans (hbB.mono (by omega)))⟩
        case measure => simp [intOf]; omega
    · obtain rfl : k = N := by omega
      have HR := Lib.hid hrow
      clear hrow
      go_wp2_with (go_at_call 46; refine ((CS _).out).mono ?_; rintro e w1 ⟨rfl, rfl⟩)
      go_ret
      exact ⟨_, rfl, HR.out, HW.out⟩

theorem i64_one : ∀ m, m < 64 → bits .and .i64 ((m : Nat) : Int) 1 = ((m % 2 : Nat) : Int) := by decide +kernel
theorem has_bit (k i : Nat) (hk : k < 64) : (bits .and .i64 ((k : Int) / 2 ^ i) 1 == 1) = k.testBit i := by
  have e : ((k : Int) / 2 ^ i) = ((k / 2 ^ i : Nat) : Int) := by simp
  rw [e, i64_one _ (Nat.lt_of_le_of_lt (Nat.div_le_self _ _) hk), ← Tt.bit_one]
  rcases Nat.mod_two_eq_zero_or_one (k / 2 ^ i) with h | h <;> rw [h] <;> rfl
theorem rHas_any (k i : Nat) (w : World) (hk : k < 64) (hi : i < 6) : Calls Tryd.prog 71 #[.int .i64 k, .int .i64 i] w fun e w' => e = .returned (.bool (k.testBit i)) ∧ w = w' := by
  have HB := Lib.hid (has_bit k i hk)
  generalize k.testBit i = r at *
  go_enter Tryd.func71, Tryd.ntmps71
  go_wp2
  go_ret
  exact ⟨ret_bool HB.out, rfl⟩
set_option maxRecDepth 100000 in
theorem rVariable_any (n i : Nat) (w : World) (hn : n ≤ 6) (hi' : i < 6) :
    Calls Tryd.prog 50 #[.int .i64 n, .int .i64 i] w fun e w' => e = .returned (.agg #[.int .i64 n, .int .u64 ((Tt.mk n (fun k => k.testBit i) : Nat) : Int)]) ∧ Below w.heap.size w w' := by
  have hN := Tt.size_le hn
  have CS := fun W => Lib.hid (rSize_any n W (by omega) (by omega))
  rw [Int.toNat_natCast] at CS
  have CM := fun v W (h : Sees .i64 W v (Tt.pts (fun k => k.testBit i) (2 ^ n))) => Lib.hid (rMade_any n v (Tt.pts (fun k => k.testBit i) (2 ^ n)) W hn h (Nat.le_trans (Tt.pts_len _ _) hN))
  rw [mk_pts] at CM
  generalize Tt.mk n (fun k => k.testBit i) = r at *
  generalize 2 ^ n = N at *
  obtain ⟨i0, hi, hz0, hz1, hz2⟩ := info_parts Tryd.infoI64
  obtain ⟨P0, L0, z0⟩ := tab1_new w 0 0 24
  go_enter Tryd.func50, Tryd.ntmps50
  go_wp2
  go_loopw [5, 6] (fun s3 s4 wr => ∃ k : Nat, k ≤ N ∧ s4 = .int .i64 k ∧ Row (w.heap.size + 1) .i64 3 wr s3 (Tt.pts (fun k => k.testBit i) k) ∧ TabI wr (w.heap.size) 0 0 ∧ Hid (Below w.heap.size w wr)) (fun _ s4 _ => N - (intOf s4).toNat)
  case atStart => exact ⟨0, Nat.zero_le _, rfl, Row.nil _ _ _ _, P0, Lib.hid L0⟩
  case round =>
    clear P0 L0
    obtain ⟨k, hk, rfl, hrow, T0, HW⟩ := hrel
    have hwb : w.heap.size + 1 ≤ wr.heap.size := by have := T0.1; omega
    obtain ⟨c00, c01, c02, c03, c04⟩ := id T0
    by_cases hkN : k < N
    · have HS := Lib.hid (Tt.pts_succ (fun k => k.testBit i) k)
      have hlen := Tt.pts_len (fun k => k.testBit i) k
      have CA := fun W => Lib.hid (rHas_any k i W (by omega) hi')
      cases hbit : k.testBit i
      · rw [hbit] at CA
        have HS2 := Lib.hid (HS.out.trans (if_neg (by simp [hbit])))
        clear HS hbit
        generalize Tt.pts (fun k => k.testBit i) k = l at *
        go_wp2_with (first | (go_at_call 46; refine ((CS _).out).mono ?_; rintro e w1 ⟨rfl, rfl⟩) | fail)
        refine ((CA _).out).mono ?_
        rintro e w1 ⟨rfl, rfl⟩
        obtain ⟨w1, hw1, hb1⟩ : ∃ w1, w1 = wr ∧ Below wr.heap.size wr w1 := ⟨wr, rfl, Below.refl _ _⟩
        rw [← hw1]
        clear hw1
        have zb1 := hb1.size
        have T0' := T0.below (by omega) hb1
        have hrow' := hrow.below hb1 (Nat.le_refl _)
        have HW' := Lib.hid (HW.out.trans (hb1.mono (by omega)))
        clear hb1 T0 hrow HW c01 c02 c03 c04
        go_wp2
        go_roundw
        case rel => exact ⟨k + 1, by omega, by go_num, by rw [HS2.out]; exact hrow', T0', HW'⟩
        case measure => simp [intOf]; omega
      · rw [hbit] at CA
        have HS2 := Lib.hid (HS.out.trans (if_pos (by simp [hbit])))
        clear HS hbit
        generalize Tt.pts (fun k => k.testBit i) k = l at *
        go_wp2_with (first | (go_at_call 46; refine ((CS _).out).mono ?_; rintro e w1 ⟨rfl, rfl⟩) | fail)
        refine ((CA _).out).mono ?_
        rintro e w1 ⟨rfl, rfl⟩
        obtain ⟨w1, hw1, hb1⟩ : ∃ w1, w1 = wr ∧ Below wr.heap.size wr w1 := ⟨wr, rfl, Below.refl _ _⟩
        rw [← hw1]
        clear hw1
        have zb1 := hb1.size
        have T0' := T0.below (by omega) hb1
        have hrow' := hrow.below hb1 (Nat.le_refl _)
        have HW' := Lib.hid (HW.out.trans (hb1.mono (by omega)))
        clear hb1 T0 hrow HW c01 c02 c03 c04
        go_wp2_with (at_builtin; refine wpList_append_nat rfl _ _ 36 rfl 3 i0 .i64 8 Tryd.underlying36 hi hz0 hz1 hz2 (by omega) _ _ l [k] rfl rfl (w.heap.size + 1) (hrow'.below ((Below.refl _ _).alloc (Nat.le_refl _) _) (Nat.le_refl _)) ((Row.one 0 _ _ _ (Nat.zero_le _) k _ rfl).sees) (by simp; omega) (by simp; omega) ?_; intro v5 w5 hr5 hb5)
        go_roundw
        case rel =>
          have hbA := ((Below.refl w1.heap.size w1).alloc (Nat.le_refl _) (.cells #[.int .i64 (k : Int)] 3)).mono (show w.heap.size + 1 ≤ w1.heap.size by omega)
          have hbB := hbA.trans hb5
          exact ⟨k + 1, by omega, by go_num, by rw [HS2.out]; exact hr5, T0'.below (by omega) hbB, Lib.hid (HW'.out.trans (hbB.mono (by omega)))⟩
        case measure => simp [intOf]; omega
    · obtain rfl : k = N := by omega
      have CM' := CM _ _ hrow.sees
      generalize Tt.pts (fun k => k.testBit i) k = l at *
      go_wp2_with (first | (go_at_call 46; refine ((CS _).out).mono ?_; rintro e w1 ⟨rfl, rfl⟩) | fail)
      refine (CM'.out).mono ?_
      rintro e w1 ⟨rfl, hb1⟩
      have zb1 := hb1.size
      have T1' := T0.below (by omega) hb1
      have HW' := Lib.hid (HW.out.trans (hb1.mono (by omega)))
      obtain ⟨s0, s1, s2, s3, s4⟩ := id T1'
      clear hb1 c01 c02 c03 c04
      go_wp2
      exact bodyPost_ret (v := .agg #[.int .i64 n, .int .u64 r]) (by simp [results, Tryd.results50, go_sem, s1, s2]) rfl ⟨rfl, (HW'.out.setCell (p := ⟨w.heap.size + 0, 0, none⟩) (by show _ ≤ w.heap.size + 0; omega) _).setCell (p := ⟨w.heap.size + 0, 1, none⟩) (by show _ ≤ w.heap.size + 0; omega) _⟩

end Go.Proofs.YtmmcakeedejbnaaDoor
