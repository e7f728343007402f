/- The contracts of the reference of tables: With, Fixed, Xor, Not, And, Or. -/
import Derived.Test.YtmmcakeedejbnaaDoorUk
namespace Tt
theorem not_mk {n b : Nat} (hn : n ≤ 6) (hb : b < 2 ^ 2 ^ n) : mk n (fun k => !b.testBit k) = full n &&& (18446744073709551615 - b) := by
  have h64 := w64 hn hb
  refine same (mk_lt n _) ?_ fun k hk => ?_
  · have h1 := Nat.and_le_left (n := full n) (m := 18446744073709551615 - b)
    have h2 : 0 < 2 ^ 2 ^ n := Nat.pow_pos (by omega)
    have h3 : full n < 2 ^ 2 ^ n := by unfold full; omega
    omega
  · have hs := size_le hn
    rw [mk_bit, Nat.testBit_and, show (18446744073709551615 : Nat) - b = 2 ^ 64 - (b + 1) by omega, Nat.testBit_two_pow_sub_succ (by omega)]
    unfold full
    rw [Nat.testBit_two_pow_sub_one]
    simp [hk, show k < 64 by omega]
theorem xor_mk {n b c : Nat} (hb : b < 2 ^ 2 ^ n) (hc : c < 2 ^ 2 ^ n) : mk n (fun k => b.testBit k != c.testBit k) = b ^^^ c := by
  refine same (mk_lt n _) (Nat.xor_lt_two_pow hb hc) fun k hk => ?_
  rw [mk_bit, Nat.testBit_xor]
  simp [hk]
end Tt
namespace Go.Proofs.YtmmcakeedejbnaaDoor
open Go.RowKit
theorem below_next {B : Nat} {w w1 w2 : World} (h : Below B w w1) (hb : Below w1.heap.size w1 w2) (hB : B ≤ w1.heap.size) : Below B w w2 := h.trans (hb.mono hB)
theorem sixb {i : Nat} (h : i < 6) : i = 0 ∨ i = 1 ∨ i = 2 ∨ i = 3 ∨ i = 4 ∨ i = 5 := by omega
theorem rWith_any (k i : Nat) (v : Bool) (w : World) (hk : k < 64) (hi : i < 6) : Calls Tryd.prog 69 #[.int .i64 k, .int .i64 i, .bool v] w fun e w' => e = .returned (.int .i64 ((Tt.wth k i v : Nat) : Int)) ∧ w = w' := by
  have CH := fun W => Lib.hid (rHas_any k i W hk hi)
  have HL := Tt.dn_le i hi k hk
  unfold Tt.wth
  cases hb : k.testBit i
  · rw [hb] at CH
    cases v
    · rw [if_pos rfl]
      clear HL hb
      go_enter Tryd.func69, Tryd.ntmps69
      go_wp2_with (go_at_call 71; refine ((CH _).out).mono ?_; rintro e w1 ⟨rfl, rfl⟩)
      go_ret
      exact ⟨rfl, rfl⟩
    · rw [if_neg (by simp), if_pos rfl]
      clear HL hb
      rcases sixb hi with rfl | rfl | rfl | rfl | rfl | rfl
      all_goals
        go_enter Tryd.func69, Tryd.ntmps69
        go_wp2_with (go_at_call 71; refine ((CH _).out).mono ?_; rintro e w1 ⟨rfl, rfl⟩)
        go_ret
        exact ⟨ret_int (by omega), rfl⟩
  · rw [hb] at CH
    cases v
    · rw [if_neg (by simp), if_neg (by simp)]
      have hle := HL hb
      clear HL hb
      rcases sixb hi with rfl | rfl | rfl | rfl | rfl | rfl
      all_goals
        simp at hle
        go_enter Tryd.func69, Tryd.ntmps69
        go_wp2_with (go_at_call 71; refine ((CH _).out).mono ?_; rintro e w1 ⟨rfl, rfl⟩)
        go_ret
        exact ⟨ret_int (by omega), rfl⟩
    · rw [if_pos rfl]
      clear HL hb
      go_enter Tryd.func69, Tryd.ntmps69
      go_wp2_with (go_at_call 71; refine ((CH _).out).mono ?_; rintro e w1 ⟨rfl, rfl⟩)
      go_ret
      exact ⟨rfl, rfl⟩
set_option maxRecDepth 100000 in
theorem rFixed_any (n b i : Nat) (v : Bool) (w : World) (hn : n ≤ 6) (hb : b < 2 ^ 2 ^ n) (hi' : i < n) :
    Calls Tryd.prog 68 #[.agg #[.int .i64 n, .int .u64 b], .int .i64 i, .bool v] w fun e w' => e = .returned (.agg #[.int .i64 n, .int .u64 ((Tt.mk n (fun k => b.testBit (Tt.wth k i v)) : Nat) : Int)]) ∧ Below w.heap.size w w' := by
  have hb64 := Tt.w64 hn hb
  have hN := Tt.size_le hn
  have CS := fun W => Lib.hid (rSize_any n W (by omega) (by omega))
  rw [Int.toNat_natCast] at CS
  have CM := fun u W (h : Sees .i64 W u (Tt.pts (fun k => b.testBit (Tt.wth k i v)) (2 ^ n))) => Lib.hid (rMade_any n u (Tt.pts (fun k => b.testBit (Tt.wth k i v)) (2 ^ n)) W hn h (Nat.le_trans (Tt.pts_len _ _) hN))
  rw [mk_pts] at CM
  generalize Tt.mk n (fun k => b.testBit (Tt.wth k i v)) = r at *
  have hsz := fun k hk => (Tt.wth_lt n (by omega) i hi' k hk v).2
  have HSZ := Lib.hid hsz
  have hi6 : i < 6 := by omega
  clear hb hsz
  generalize 2 ^ n = N at *
  obtain ⟨i0, hi, hz0, hz1, hz2⟩ := info_parts Tryd.infoI64
  obtain ⟨P0, P1, L0, z0⟩ := tab2_new w n b 0 0 24
  go_enter Tryd.func68, Tryd.ntmps68
  go_wp2
  go_loopw [7, 8] (fun s3 s4 wr => ∃ k : Nat, k ≤ N ∧ s4 = .int .i64 k ∧ Row (w.heap.size + 2) .i64 3 wr s3 (Tt.pts (fun k => b.testBit (Tt.wth k i v)) k) ∧ TabI wr (w.heap.size) n b ∧ TabI wr (w.heap.size + 1) 0 0 ∧ Hid (Below w.heap.size w wr)) (fun _ s4 _ => N - (intOf s4).toNat)
  case atStart => exact ⟨0, Nat.zero_le _, rfl, Row.nil _ _ _ _, P0, P1, Lib.hid L0⟩
  case round =>
    clear P0 P1 L0
    obtain ⟨k, hk, rfl, hrow, T0, T1, HW⟩ := hrel
    have hwb : w.heap.size + 2 ≤ wr.heap.size := by have := T1.1; omega
    obtain ⟨c00, c01, c02, c03, c04⟩ := id T0
    obtain ⟨c10, c11, c12, c13, c14⟩ := id T1
    by_cases hkN : k < N
    · have HS := Lib.hid (Tt.pts_succ (fun k => b.testBit (Tt.wth k i v)) k)
      have hlen := Tt.pts_len (fun k => b.testBit (Tt.wth k i v)) k
      have hw64 : Tt.wth k i v < 64 := Nat.lt_of_lt_of_le (HSZ.out k (by omega) hkN) hN
      have CA := fun W => Lib.hid (rAt_any n b (Tt.wth k i v) W hb64 hw64)
      have CW := fun W => Lib.hid (rWith_any k i v W (by omega) hi6)
      cases hbit : b.testBit (Tt.wth k i v)
      · rw [hbit] at CA
        have HS2 := Lib.hid (HS.out.trans (if_neg (by simp [hbit])))
        clear HS hbit
        generalize Tt.pts (fun k => b.testBit (Tt.wth k i v)) k = l at *
        go_wp2_with (first | (go_at_call 46; refine ((CS _).out).mono ?_; rintro e w1 ⟨rfl, rfl⟩) | fail)
        go_region_held3 (fun W => W.cell? ⟨w.heap.size, 0, none⟩ = some (.int .i64 n) ∧ W.cell? ⟨w.heap.size, 1, none⟩ = some (.int .u64 b))
          (first
            | (go_split_ands; refine ⟨?_, ?_⟩ <;> (rw [hy1.cell (by simp <;> omega)]; assumption))
            | go_keep)
          (first
            | (go_at_call 69; (with_reducible refine ((CW _).out).mono ?_); rintro e v1 ⟨rfl, rfl⟩)
            | (go_at_call 52; (with_reducible refine ((CA _).out).mono ?_); rintro e w1 ⟨rfl, hy1⟩))
        have hb1 := below_next ((Below.refl wr.heap.size wr).drew) hy1 (Nat.le_refl _)
        clear hy1
        have zb1 := hb1.size
        have T0' := T0.below (by omega) hb1
        have T1' := T1.below (by omega) hb1
        have hrow' := hrow.below hb1 (Nat.le_refl _)
        have HW' := Lib.hid (HW.out.trans (hb1.mono (by omega)))
        clear hb1 T0 T1 hrow HW c01 c02 c03 c04 c11 c12 c13 c14
        go_wp2
        go_roundw
        case rel => exact ⟨k + 1, by omega, by go_num, by rw [HS2.out]; exact hrow', T0', T1', HW'⟩
        case measure => simp [intOf]; omega
      · rw [hbit] at CA
        have HS2 := Lib.hid (HS.out.trans (if_pos (by simp [hbit])))
        clear HS hbit
        generalize Tt.pts (fun k => b.testBit (Tt.wth k i v)) k = l at *
        go_wp2_with (first | (go_at_call 46; refine ((CS _).out).mono ?_; rintro e w1 ⟨rfl, rfl⟩) | fail)
        go_region_held3 (fun W => W.cell? ⟨w.heap.size, 0, none⟩ = some (.int .i64 n) ∧ W.cell? ⟨w.heap.size, 1, none⟩ = some (.int .u64 b))
          (first
            | (go_split_ands; refine ⟨?_, ?_⟩ <;> (rw [hy1.cell (by simp <;> omega)]; assumption))
            | go_keep)
          (first
            | (go_at_call 69; (with_reducible refine ((CW _).out).mono ?_); rintro e v1 ⟨rfl, rfl⟩)
            | (go_at_call 52; (with_reducible refine ((CA _).out).mono ?_); rintro e w1 ⟨rfl, hy1⟩))
        have hb1 := below_next ((Below.refl wr.heap.size wr).drew) hy1 (Nat.le_refl _)
        clear hy1
        have zb1 := hb1.size
        have T0' := T0.below (by omega) hb1
        have T1' := T1.below (by omega) hb1
        have hrow' := hrow.below hb1 (Nat.le_refl _)
        have HW' := Lib.hid (HW.out.trans (hb1.mono (by omega)))
        clear hb1 T0 T1 hrow HW c01 c02 c03 c04 c11 c12 c13 c14
        go_wp2_with (at_builtin; refine wpList_append_nat rfl _ _ 36 rfl 3 i0 .i64 8 Tryd.underlying36 hi hz0 hz1 hz2 (by omega) _ _ l [k] rfl rfl (w.heap.size + 2) (hrow'.below ((Below.refl _ _).alloc (Nat.le_refl _) _) (Nat.le_refl _)) ((Row.one 0 _ _ _ (Nat.zero_le _) k _ rfl).sees) (by simp; omega) (by simp; omega) ?_; intro v5 w5 hr5 hb5)
        go_roundw
        case rel =>
          have hbA := ((Below.refl w1.heap.size w1).alloc (Nat.le_refl _) (.cells #[.int .i64 (k : Int)] 3)).mono (show w.heap.size + 2 ≤ w1.heap.size by omega)
          have hbB := hbA.trans hb5
          exact ⟨k + 1, by omega, by go_num, by rw [HS2.out]; exact hr5, T0'.below (by omega) hbB, T1'.below (by omega) hbB, Lib.hid (HW'.out.trans (hbB.mono (by omega)))⟩
        case measure => simp [intOf]; omega
    · obtain rfl : k = N := by omega
      have CM' := CM _ _ hrow.sees
      generalize Tt.pts (fun k => b.testBit (Tt.wth k i v)) k = l at *
      go_wp2_with (first | (go_at_call 46; refine ((CS _).out).mono ?_; rintro e w1 ⟨rfl, rfl⟩) | fail)
      refine (CM'.out).mono ?_
      rintro e w1 ⟨rfl, hb1⟩
      have zb1 := hb1.size
      have T1' := T1.below (by omega) hb1
      have HW' := Lib.hid (HW.out.trans (hb1.mono (by omega)))
      obtain ⟨s0, s1, s2, s3, s4⟩ := id T1'
      clear hb1 c01 c02 c03 c04 c11 c12 c13 c14
      go_wp2
      exact bodyPost_ret (v := .agg #[.int .i64 n, .int .u64 r]) (by simp [results, Tryd.results68, go_sem, s1, s2]) rfl ⟨rfl, (HW'.out.setCell (p := ⟨w.heap.size + 1, 0, none⟩) (by show _ ≤ w.heap.size + 1; omega) _).setCell (p := ⟨w.heap.size + 1, 1, none⟩) (by show _ ≤ w.heap.size + 1; omega) _⟩

set_option maxRecDepth 100000 in
theorem rXor_ok (n b c : Nat) (w : World) (hn : n ≤ 6) (hb : b < 2 ^ 2 ^ n) (hc : c < 2 ^ 2 ^ n) :
    Calls Tryd.prog 30 #[.agg #[.int .i64 n, .int .u64 b], .agg #[.int .i64 n, .int .u64 c]] w fun e w' => e = .returned (.tuple #[.agg #[.int .i64 n, .int .u64 ((Tt.mk n (fun k => b.testBit k != c.testBit k) : Nat) : Int)], .int .i64 0]) ∧ Below w.heap.size w w' := by
  have hb64 := Tt.w64 hn hb
  have hN := Tt.size_le hn
  have CS := fun W => Lib.hid (rSize_any n W (by omega) (by omega))
  rw [Int.toNat_natCast] at CS
  have hc64 := Tt.w64 hn hc
  have CM := fun u W (h : Sees .i64 W u (Tt.pts (fun k => b.testBit k != c.testBit k) (2 ^ n))) => Lib.hid (rMade_any n u (Tt.pts (fun k => b.testBit k != c.testBit k) (2 ^ n)) W hn h (Nat.le_trans (Tt.pts_len _ _) hN))
  rw [mk_pts] at CM
  generalize Tt.mk n (fun k => b.testBit k != c.testBit k) = r at *
  have CG := fun W => Lib.hid (rGiven_any n b n c W hb64 hc64)
  rw [Tt.giv_zero.2 ⟨Tt.chk_ok hn hb, Tt.chk_ok hn hc, rfl⟩] at CG
  clear hb hc
  generalize 2 ^ n = N at *
  obtain ⟨i0, hi, hz0, hz1, hz2⟩ := info_parts Tryd.infoI64
  obtain ⟨P0, P1, P2, L0, z0⟩ := tab3_new w n b n c 0 0 24
  go_enter Tryd.func30, Tryd.ntmps30
  go_wp2_with fail
  refine ((CG _).out).mono ?_
  rintro e w0 ⟨rfl, hb0⟩
  have zb0 : w.heap.size + 3 ≤ w0.heap.size := by have := hb0.size; simp at this; omega
  have P0' := P0.below (by simp <;> omega) hb0
  have P1' := P1.below (by simp <;> omega) hb0
  have P2' := P2.below (by simp <;> omega) hb0
  have L0' := L0.trans (hb0.mono (by simp <;> omega))
  clear P0 P1 P2 L0 hb0
  have P0 := P0'
  have P1 := P1'
  have P2 := P2'
  have L0 := L0'
  clear P0' P1' P2' L0'
  go_wp2
  go_loopw [7, 8] (fun s3 s4 wr => ∃ k : Nat, k ≤ N ∧ s4 = .int .i64 k ∧ Row (w.heap.size + 3) .i64 3 wr s3 (Tt.pts (fun k => b.testBit k != c.testBit k) k) ∧ TabI wr (w.heap.size) n b ∧ TabI wr (w.heap.size + 1) n c ∧ TabI wr (w.heap.size + 2) 0 0 ∧ Hid (Below w.heap.size w wr)) (fun _ s4 _ => N - (intOf s4).toNat)
  case atStart => exact ⟨0, Nat.zero_le _, rfl, Row.nil _ _ _ _, P0, P1, P2, Lib.hid L0⟩
  case round =>
    clear P0 P1 P2 L0
    obtain ⟨k, hk, rfl, hrow, T0, T1, T2, HW⟩ := hrel
    have hwb : w.heap.size + 3 ≤ wr.heap.size := by have := T2.1; omega
    obtain ⟨c00, c01, c02, c03, c04⟩ := id T0
    obtain ⟨c10, c11, c12, c13, c14⟩ := id T1
    obtain ⟨c20, c21, c22, c23, c24⟩ := id T2
    by_cases hkN : k < N
    · have HS := Lib.hid (Tt.pts_succ (fun k => b.testBit k != c.testBit k) k)
      have hlen := Tt.pts_len (fun k => b.testBit k != c.testBit k) k
      have CA := fun W => Lib.hid (rAt_any n b k W hb64 (by omega))
      have CB := fun W => Lib.hid (rAt_any n c k W hc64 (by omega))
      cases hb0 : b.testBit k <;> cases hc0 : c.testBit k
      · rw [hb0] at CA
        rw [hc0] at CB
        have hbit : (b.testBit k != c.testBit k) = false := by rw [hb0, hc0]; rfl
        clear hb0 hc0
        have HS2 := Lib.hid (HS.out.trans (if_neg (by simp [hbit])))
        clear HS hbit
        generalize Tt.pts (fun k => b.testBit k != c.testBit k) k = l at *
        go_wp2_with (first | (go_at_call 46; refine ((CS _).out).mono ?_; rintro e w1 ⟨rfl, rfl⟩) | fail)
        go_region_held3 (fun W => ((W.cell? ⟨w.heap.size, 0, none⟩ = some (.int .i64 n) ∧ W.cell? ⟨w.heap.size, 1, none⟩ = some (.int .u64 b)) ∧ W.cell? ⟨w.heap.size + 1, 0, none⟩ = some (.int .i64 n)) ∧ W.cell? ⟨w.heap.size + 1, 1, none⟩ = some (.int .u64 c))
          (first
            | (go_split_ands; refine ⟨⟨⟨?_, ?_⟩, ?_⟩, ?_⟩ <;> (rw [hy2.cell (by simp <;> omega)]; assumption))
            | (go_split_ands; refine ⟨⟨⟨?_, ?_⟩, ?_⟩, ?_⟩ <;> (rw [hy1.cell (by simp <;> omega)]; assumption))
            | go_keep)
          (first
            | (go_at_call 52; (with_reducible refine ((CA _).out).mono ?_); rintro e v1 ⟨rfl, hy1⟩; have hz1 := hy1.size; (try simp only [World.drew] at hz1))
            | (go_at_call 52; (with_reducible refine ((CB _).out).mono ?_); rintro e w1 ⟨rfl, hy2⟩))
        have hb1 := below_next (below_next ((Below.refl wr.heap.size wr).drew) hy1 (Nat.le_refl _)) hy2 (by have := hy1.size; simpa using this)
        clear hy1 hy2 hz1
        have zb1 := hb1.size
        have T0' := T0.below (by omega) hb1
        have T1' := T1.below (by omega) hb1
        have T2' := T2.below (by omega) hb1
        have hrow' := hrow.below hb1 (Nat.le_refl _)
        have HW' := Lib.hid (HW.out.trans (hb1.mono (by omega)))
        clear hb1 T0 T1 T2 hrow HW c01 c02 c03 c04 c11 c12 c13 c14 c21 c22 c23 c24
        go_wp2
        go_roundw
        case rel => exact ⟨k + 1, by omega, by go_num, by rw [HS2.out]; exact hrow', T0', T1', T2', HW'⟩
        case measure => simp [intOf]; omega
      · rw [hb0] at CA
        rw [hc0] at CB
        have hbit : (b.testBit k != c.testBit k) = true := by rw [hb0, hc0]; rfl
        clear hb0 hc0
        have HS2 := Lib.hid (HS.out.trans (if_pos (by simp [hbit])))
        clear HS hbit
        generalize Tt.pts (fun k => b.testBit k != c.testBit k) k = l at *
        go_wp2_with (first | (go_at_call 46; refine ((CS _).out).mono ?_; rintro e w1 ⟨rfl, rfl⟩) | fail)
        go_region_held3 (fun W => ((W.cell? ⟨w.heap.size, 0, none⟩ = some (.int .i64 n) ∧ W.cell? ⟨w.heap.size, 1, none⟩ = some (.int .u64 b)) ∧ W.cell? ⟨w.heap.size + 1, 0, none⟩ = some (.int .i64 n)) ∧ W.cell? ⟨w.heap.size + 1, 1, none⟩ = some (.int .u64 c))
          (first
            | (go_split_ands; refine ⟨⟨⟨?_, ?_⟩, ?_⟩, ?_⟩ <;> (rw [hy2.cell (by simp <;> omega)]; assumption))
            | (go_split_ands; refine ⟨⟨⟨?_, ?_⟩, ?_⟩, ?_⟩ <;> (rw [hy1.cell (by simp <;> omega)]; assumption))
            | go_keep)
          (first
            | (go_at_call 52; (with_reducible refine ((CA _).out).mono ?_); rintro e v1 ⟨rfl, hy1⟩; have hz1 := hy1.size; (try simp only [World.drew] at hz1))
            | (go_at_call 52; (with_reducible refine ((CB _).out).mono ?_); rintro e w1 ⟨rfl, hy2⟩))
        have hb1 := below_next (below_next ((Below.refl wr.heap.size wr).drew) hy1 (Nat.le_refl _)) hy2 (by have := hy1.size; simpa using this)
        clear hy1 hy2 hz1
        have zb1 := hb1.size
        have T0' := T0.below (by omega) hb1
        have T1' := T1.below (by omega) hb1
        have T2' := T2.below (by omega) hb1
        have hrow' := hrow.below hb1 (Nat.le_refl _)
        have HW' := Lib.hid (HW.out.trans (hb1.mono (by omega)))
        clear hb1 T0 T1 T2 hrow HW c01 c02 c03 c04 c11 c12 c13 c14 c21 c22 c23 c24
        go_wp2_with (at_builtin; refine wpList_append_nat rfl _ _ 36 rfl 3 i0 .i64 8 Tryd.underlying36 hi hz0 hz1 hz2 (by omega) _ _ l [k] rfl rfl (w.heap.size + 3) (hrow'.below ((Below.refl _ _).alloc (Nat.le_refl _) _) (Nat.le_refl _)) ((Row.one 0 _ _ _ (Nat.zero_le _) k _ rfl).sees) (by simp; omega) (by simp; omega) ?_; intro v5 w5 hr5 hb5)
        go_roundw
        case rel =>
          have hbA := ((Below.refl w1.heap.size w1).alloc (Nat.le_refl _) (.cells #[.int .i64 (k : Int)] 3)).mono (show w.heap.size + 3 ≤ w1.heap.size by omega)
          have hbB := hbA.trans hb5
          exact ⟨k + 1, by omega, by go_num, by rw [HS2.out]; exact hr5, T0'.below (by omega) hbB, T1'.below (by omega) hbB, T2'.below (by omega) hbB, Lib.hid (HW'.out.trans (hbB.mono (by omega)))⟩
        case measure => simp [intOf]; omega
      · rw [hb0] at CA
        rw [hc0] at CB
        have hbit : (b.testBit k != c.testBit k) = true := by rw [hb0, hc0]; rfl
        clear hb0 hc0
        have HS2 := Lib.hid (HS.out.trans (if_pos (by simp [hbit])))
        clear HS hbit
        generalize Tt.pts (fun k => b.testBit k != c.testBit k) k = l at *
        go_wp2_with (first | (go_at_call 46; refine ((CS _).out).mono ?_; rintro e w1 ⟨rfl, rfl⟩) | fail)
        go_region_held3 (fun W => ((W.cell? ⟨w.heap.size, 0, none⟩ = some (.int .i64 n) ∧ W.cell? ⟨w.heap.size, 1, none⟩ = some (.int .u64 b)) ∧ W.cell? ⟨w.heap.size + 1, 0, none⟩ = some (.int .i64 n)) ∧ W.cell? ⟨w.heap.size + 1, 1, none⟩ = some (.int .u64 c))
          (first
            | (go_split_ands; refine ⟨⟨⟨?_, ?_⟩, ?_⟩, ?_⟩ <;> (rw [hy2.cell (by simp <;> omega)]; assumption))
            | (go_split_ands; refine ⟨⟨⟨?_, ?_⟩, ?_⟩, ?_⟩ <;> (rw [hy1.cell (by simp <;> omega)]; assumption))
            | go_keep)
          (first
            | (go_at_call 52; (with_reducible refine ((CA _).out).mono ?_); rintro e v1 ⟨rfl, hy1⟩; have hz1 := hy1.size; (try simp only [World.drew] at hz1))
            | (go_at_call 52; (with_reducible refine ((CB _).out).mono ?_); rintro e w1 ⟨rfl, hy2⟩))
        have hb1 := below_next (below_next ((Below.refl wr.heap.size wr).drew) hy1 (Nat.le_refl _)) hy2 (by have := hy1.size; simpa using this)
        clear hy1 hy2 hz1
        have zb1 := hb1.size
        have T0' := T0.below (by omega) hb1
        have T1' := T1.below (by omega) hb1
        have T2' := T2.below (by omega) hb1
        have hrow' := hrow.below hb1 (Nat.le_refl _)
        have HW' := Lib.hid (HW.out.trans (hb1.mono (by omega)))
        clear hb1 T0 T1 T2 hrow HW c01 c02 c03 c04 c11 c12 c13 c14 c21 c22 c23 c24
        go_wp2_with (at_builtin; refine wpList_append_nat rfl _ _ 36 rfl 3 i0 .i64 8 Tryd.underlying36 hi hz0 hz1 hz2 (by omega) _ _ l [k] rfl rfl (w.heap.size + 3) (hrow'.below ((Below.refl _ _).alloc (Nat.le_refl _) _) (Nat.le_refl _)) ((Row.one 0 _ _ _ (Nat.zero_le _) k _ rfl).sees) (by simp; omega) (by simp; omega) ?_; intro v5 w5 hr5 hb5)
        go_roundw
        case rel =>
          have hbA := ((Below.refl w1.heap.size w1).alloc (Nat.le_refl _) (.cells #[.int .i64 (k : Int)] 3)).mono (show w.heap.size + 3 ≤ w1.heap.size by omega)
          have hbB := hbA.trans hb5
          exact ⟨k + 1, by omega, by go_num, by rw [HS2.out]; exact hr5, T0'.below (by omega) hbB, T1'.below (by omega) hbB, T2'.below (by omega) hbB, Lib.hid (HW'.out.trans (hbB.mono (by omega)))⟩
        case measure => simp [intOf]; omega
      · rw [hb0] at CA
        rw [hc0] at CB
        have hbit : (b.testBit k != c.testBit k) = false := by rw [hb0, hc0]; rfl
        clear hb0 hc0
        have HS2 := Lib.hid (HS.out.trans (if_neg (by simp [hbit])))
        clear HS hbit
        generalize Tt.pts (fun k => b.testBit k != c.testBit k) k = l at *
        go_wp2_with (first | (go_at_call 46; refine ((CS _).out).mono ?_; rintro e w1 ⟨rfl, rfl⟩) | fail)
        go_region_held3 (fun W => ((W.cell? ⟨w.heap.size, 0, none⟩ = some (.int .i64 n) ∧ W.cell? ⟨w.heap.size, 1, none⟩ = some (.int .u64 b)) ∧ W.cell? ⟨w.heap.size + 1, 0, none⟩ = some (.int .i64 n)) ∧ W.cell? ⟨w.heap.size + 1, 1, none⟩ = some (.int .u64 c))
          (first
            | (go_split_ands; refine ⟨⟨⟨?_, ?_⟩, ?_⟩, ?_⟩ <;> (rw [hy2.cell (by simp <;> omega)]; assumption))
            | (go_split_ands; refine ⟨⟨⟨?_, ?_⟩, ?_⟩, ?_⟩ <;> (rw [hy1.cell (by simp <;> omega)]; assumption))
            | go_keep)
          (first
            | (go_at_call 52; (with_reducible refine ((CA _).out).mono ?_); rintro e v1 ⟨rfl, hy1⟩; have hz1 := hy1.size; (try simp only [World.drew] at hz1))
            | (go_at_call 52; (with_reducible refine ((CB _).out).mono ?_); rintro e w1 ⟨rfl, hy2⟩))
        have hb1 := below_next (below_next ((Below.refl wr.heap.size wr).drew) hy1 (Nat.le_refl _)) hy2 (by have := hy1.size; simpa using this)
        clear hy1 hy2 hz1
        have zb1 := hb1.size
        have T0' := T0.below (by omega) hb1
        have T1' := T1.below (by omega) hb1
        have T2' := T2.below (by omega) hb1
        have hrow' := hrow.below hb1 (Nat.le_refl _)
        have HW' := Lib.hid (HW.out.trans (hb1.mono (by omega)))
        clear hb1 T0 T1 T2 hrow HW c01 c02 c03 c04 c11 c12 c13 c14 c21 c22 c23 c24
        go_wp2
        go_roundw
        case rel => exact ⟨k + 1, by omega, by go_num, by rw [HS2.out]; exact hrow', T0', T1', T2', HW'⟩
        case measure => simp [intOf]; omega
    · obtain rfl : k = N := by omega
      have CM' := CM _ _ hrow.sees
      generalize Tt.pts (fun k => b.testBit k != c.testBit k) k = l at *
      go_wp2_with (first | (go_at_call 46; refine ((CS _).out).mono ?_; rintro e w1 ⟨rfl, rfl⟩) | fail)
      refine (CM'.out).mono ?_
      rintro e w1 ⟨rfl, hb1⟩
      have zb1 := hb1.size
      have T1' := T2.below (by omega) hb1
      have HW' := Lib.hid (HW.out.trans (hb1.mono (by omega)))
      obtain ⟨s0, s1, s2, s3, s4⟩ := id T1'
      clear hb1 c01 c02 c03 c04 c11 c12 c13 c14 c21 c22 c23 c24
      go_wp2
      exact bodyPost_ret (v := .tuple #[.agg #[.int .i64 n, .int .u64 r], .int .i64 0]) (by simp [results, Tryd.results30, go_sem, s1, s2]) rfl ⟨rfl, (HW'.out.setCell (p := ⟨w.heap.size + 2, 0, none⟩) (by show _ ≤ w.heap.size + 2; omega) _).setCell (p := ⟨w.heap.size + 2, 1, none⟩) (by show _ ≤ w.heap.size + 2; omega) _⟩

end Go.Proofs.YtmmcakeedejbnaaDoor
