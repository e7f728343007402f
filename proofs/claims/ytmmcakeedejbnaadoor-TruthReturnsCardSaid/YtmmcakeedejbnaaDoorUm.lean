/- The contracts of the reference of tables: variable, Cofactor, Depends, Unate. -/
import Derived.Test.YtmmcakeedejbnaaDoorUy
import Derived.Test.YtmmcakeedejbnaaDoorUn
namespace Tt
theorem under_iff {x y : Nat} (hx : x < 2 ^ 64) (hy : y < 2 ^ 64) : under x y = true ↔ ∀ k, k < 64 → x.testBit k = true → y.testBit k = true := by
  unfold under
  rw [beq_iff_eq]
  constructor
  · intro h k hk hxk
    have h2 : (x &&& (18446744073709551615 - y)).testBit k = false := by rw [h, Nat.zero_testBit]
    rw [Nat.testBit_and, show (18446744073709551615 : Nat) - y = 2 ^ 64 - (y + 1) by omega, Nat.testBit_two_pow_sub_succ (by omega), hxk] at h2
    simpa [hk] using h2
  · intro h
    apply Nat.eq_of_testBit_eq
    intro k
    rw [Nat.zero_testBit, Nat.testBit_and, show (18446744073709551615 : Nat) - y = 2 ^ 64 - (y + 1) by omega, Nat.testBit_two_pow_sub_succ (by omega)]
    by_cases hk : k < 64
    · cases hxk : x.testBit k
      · simp
      · rw [h k hk hxk]; simp
    · rw [Nat.testBit_lt_two_pow (Nat.lt_of_lt_of_le hx (Nat.pow_le_pow_right (by omega) (by omega)))]; simp
/-- Does a table rise with a variable, at the points below m? -/
def ris (b i : Nat) (v : Bool) (m : Nat) : Bool := (List.range m).all fun k => b.testBit (wth k i v) || !b.testBit (wth k i (!v))
theorem ris_succ (b i : Nat) (v : Bool) (m : Nat) : ris b i v (m + 1) = (ris b i v m && (b.testBit (wth m i v) || !b.testBit (wth m i (!v)))) := by
  unfold ris
  rw [List.range_succ, List.all_append]
  simp
theorem ris_under {n b i : Nat} (v : Bool) (hn : n ≤ 6) (hi' : i < n) (hb : b < 2 ^ 2 ^ n) : ris b i v (2 ^ n) = under (cof b i (!v)) (cof b i v) := by
  have h1 := cof_fits (!v) hn hi' hb
  have h2 := cof_fits v hn hi' hb
  rw [Bool.eq_iff_iff, under_iff (w64 hn h1) (w64 hn h2)]
  unfold ris
  rw [List.all_eq_true]
  constructor
  · intro h k hk hx
    rw [cof_bit (!v) hn hi' hb hk] at hx
    rw [cof_bit v hn hi' hb hk]
    by_cases hkn : k < 2 ^ n
    · have := h k (List.mem_range.2 hkn)
      rw [hx] at this
      simpa using this
    · rw [high_bit hb (Nat.le_of_not_lt fun h => hkn ((wth_lt n (by omega) i hi' k hk (!v)).1 h))] at hx; cases hx
  · intro h k hk
    have hk64 : k < 64 := Nat.lt_of_lt_of_le (List.mem_range.1 hk) (size_le hn)
    have h3 := h k hk64
    rw [cof_bit (!v) hn hi' hb hk64, cof_bit v hn hi' hb hk64] at h3
    cases hx : b.testBit (wth k i (!v))
    · simp
    · rw [h3 hx]; simp
end Tt
namespace Go.Proofs.YtmmcakeedejbnaaDoor
open Go.RowKit Go.Shelf

set_option maxRecDepth 100000 in
theorem rVar_chk (n : Int) (b : Nat) (i : Int) (w : World) (hb : b < 2 ^ 64) : Calls Tryd.prog 67 #[.agg #[.int .i64 n, .int .u64 b], .int .i64 i] w fun e w' => e = .returned (.int .i64 (chkv n b i)) ∧ Below w.heap.size w w' := by
  have CC := fun W => Lib.hid (rCheck_any n b W hb)
  obtain ⟨P0, L0, z0⟩ := tab1_new w n b 24
  generalize hX : w.alloc (.cells #[.int .i64 n, .int .u64 b] 24) = X at *
  obtain ⟨p0, p1, p2, p3, p4⟩ := id P0
  by_cases hc : Tt.chk n b = 0
  · rw [hc] at CC
    by_cases hi : 0 ≤ i ∧ i < n
    · have hk : chkv n b i = 0 := chkv_zero.2 ⟨hc, hi⟩
      rw [hk]
      obtain ⟨h1, h2⟩ := hi
      clear hk hc hb
      go_enter Tryd.func67, Tryd.ntmps67
      go_wp2_with fail
      refine ((CC _).out).mono ?_
      rintro e w1 ⟨rfl, hw1⟩
      have zw1 := hw1.size
      have P0w1 := P0.below (by omega) hw1
      obtain ⟨a0w1, b0w1, c0w1, d0w1, e0w1⟩ := id P0w1
      have Lw1 := L0.trans (hw1.mono (by omega))
      clear hw1
      go_wp2
      go_ret
      exact ⟨rfl, Lw1⟩
    · have hk : chkv n b i = 2 := by unfold chkv; rw [if_neg (by omega), if_neg hi]
      rw [hk]
      by_cases h1 : i < 0
      · clear hk hc hb hi
        go_enter Tryd.func67, Tryd.ntmps67
        go_wp2_with fail
        refine ((CC _).out).mono ?_
        rintro e w1 ⟨rfl, hw1⟩
        have zw1 := hw1.size
        have P0w1 := P0.below (by omega) hw1
        obtain ⟨a0w1, b0w1, c0w1, d0w1, e0w1⟩ := id P0w1
        have Lw1 := L0.trans (hw1.mono (by omega))
        clear hw1
        go_wp2
        go_ret
        exact ⟨rfl, Lw1⟩
      · have h2 : 0 ≤ i := by omega
        have h3 : n ≤ i := by omega
        clear hk hc hb hi h1
        go_enter Tryd.func67, Tryd.ntmps67
        go_wp2_with fail
        refine ((CC _).out).mono ?_
        rintro e w1 ⟨rfl, hw1⟩
        have zw1 := hw1.size
        have P0w1 := P0.below (by omega) hw1
        obtain ⟨a0w1, b0w1, c0w1, d0w1, e0w1⟩ := id P0w1
        have Lw1 := L0.trans (hw1.mono (by omega))
        clear hw1
        go_wp2
        go_ret
        exact ⟨rfl, Lw1⟩
  · have hk : chkv n b i = Tt.chk n b := by unfold chkv; rw [if_pos hc]
    rw [hk]
    generalize Tt.chk n b = k at *
    have g4 : (k != 0) = true := by simpa using hc
    clear hk hc hb
    go_enter Tryd.func67, Tryd.ntmps67
    go_wp2_with fail
    refine ((CC _).out).mono ?_
    rintro e w1 ⟨rfl, hw1⟩
    have zw1 := hw1.size
    have P0w1 := P0.below (by omega) hw1
    obtain ⟨a0w1, b0w1, c0w1, d0w1, e0w1⟩ := id P0w1
    have Lw1 := L0.trans (hw1.mono (by omega))
    clear hw1
    go_wp2
    go_ret
    exact ⟨rfl, Lw1⟩
set_option maxRecDepth 100000 in
theorem rCofactor_ok (n b i : Nat) (v : Bool) (w : World) (hn : n ≤ 6) (hb : b < 2 ^ 2 ^ n) (hi : i < n) : Calls Tryd.prog 32 #[.agg #[.int .i64 n, .int .u64 b], .int .i64 i, .bool v] w fun e w' => e = .returned (.tuple #[.agg #[.int .i64 n, .int .u64 ((Tt.cof b i v : Nat) : Int)], .int .i64 0]) ∧ Below w.heap.size w w' := by
  have CC := fun W => Lib.hid (rVar_chk n b i W (Tt.w64 hn hb))
  rw [chkv_zero.2 ⟨Tt.chk_ok hn hb, by omega, by omega⟩] at CC
  have CD := fun W => Lib.hid (rFixed_any n b i v W hn hb hi)
  rw [Tt.fix_cof v hn hi hb] at CD
  generalize Tt.cof b i v = x at *
  obtain ⟨P0, P1, L0, z0⟩ := tab2_new w n b 0 0 24
  generalize hX : (w.alloc (.cells #[.int .i64 n, .int .u64 b] 24)).alloc (.cells #[.int .i64 0, .int .u64 ((0 : Nat) : Int)] 24) = X at *
  change (w.alloc (.cells #[.int .i64 n, .int .u64 b] 24)).alloc (.cells #[.int .i64 0, .int .u64 0] 24) = X at hX
  obtain ⟨p0, p1, p2, p3, p4⟩ := id P0
  obtain ⟨q0, q1, q2, q3, q4⟩ := id P1
  clear hn hb hi
  go_enter Tryd.func32, Tryd.ntmps32
  go_wp2_with fail
  refine ((CC _).out).mono ?_
  rintro e w1 ⟨rfl, hw1⟩
  have zw1 := hw1.size
  have P0w1 := P0.below (by omega) hw1
  obtain ⟨a0w1, b0w1, c0w1, d0w1, e0w1⟩ := id P0w1
  have P1w1 := P1.below (by omega) hw1
  obtain ⟨a1w1, b1w1, c1w1, d1w1, e1w1⟩ := id P1w1
  have Lw1 := L0.trans (hw1.mono (by omega))
  clear hw1
  go_wp2_with fail
  refine ((CD _).out).mono ?_
  rintro e w2 ⟨rfl, hw2⟩
  have zw2 := hw2.size
  have P0w2 := P0w1.below (by omega) hw2
  obtain ⟨a0w2, b0w2, c0w2, d0w2, e0w2⟩ := id P0w2
  have P1w2 := P1w1.below (by omega) hw2
  obtain ⟨a1w2, b1w2, c1w2, d1w2, e1w2⟩ := id P1w2
  have Lw2 := Lw1.trans (hw2.mono (by omega))
  clear hw2
  go_wp2
  exact bodyPost_ret (v := .tuple #[.agg #[.int .i64 n, .int .u64 x], .int .i64 0]) (by simp [results, Tryd.results32, go_sem, b1w2, c1w2]) rfl ⟨rfl, by (repeat' (first | exact Lw2 | refine Below.alloc ?_ (by simp; omega) _ | refine Below.setCell ?_ (by first | exact Nat.le_refl _ | (dsimp only; omega) | (simp; omega)) _ | refine Below.drew ?_))⟩

set_option maxRecDepth 100000 in
theorem rCofactor_bad (n : Int) (b : Nat) (i : Int) (v : Bool) (w : World) (hb : b < 2 ^ 64) (h1 : chkv n b i ≠ 0) : Calls Tryd.prog 32 #[.agg #[.int .i64 n, .int .u64 b], .int .i64 i, .bool v] w fun e w' => e = .returned (.tuple #[.agg #[.int .i64 0, .int .u64 0], .int .i64 (chkv n b i)]) ∧ Below w.heap.size w w' := by
  have CC := fun W => Lib.hid (rVar_chk n b i W hb)
  generalize chkv n b i = k at *
  have g4 : (k != 0) = true := by simpa using h1
  obtain ⟨P0, P1, L0, z0⟩ := tab2_new w n b 0 0 24
  generalize hX : (w.alloc (.cells #[.int .i64 n, .int .u64 b] 24)).alloc (.cells #[.int .i64 0, .int .u64 ((0 : Nat) : Int)] 24) = X at *
  change (w.alloc (.cells #[.int .i64 n, .int .u64 b] 24)).alloc (.cells #[.int .i64 0, .int .u64 0] 24) = X at hX
  obtain ⟨p0, p1, p2, p3, p4⟩ := id P0
  obtain ⟨q0, q1, q2, q3, q4⟩ := id P1
  clear h1 hb
  go_enter Tryd.func32, Tryd.ntmps32
  go_wp2_with fail
  refine ((CC _).out).mono ?_
  rintro e w1 ⟨rfl, hw1⟩
  have zw1 := hw1.size
  have P0w1 := P0.below (by omega) hw1
  obtain ⟨a0w1, b0w1, c0w1, d0w1, e0w1⟩ := id P0w1
  have P1w1 := P1.below (by omega) hw1
  obtain ⟨a1w1, b1w1, c1w1, d1w1, e1w1⟩ := id P1w1
  have Lw1 := L0.trans (hw1.mono (by omega))
  clear hw1
  go_wp2
  exact bodyPost_ret (v := .tuple #[.agg #[.int .i64 0, .int .u64 0], .int .i64 k]) (by simp [results, Tryd.results32, go_sem, b1w1, c1w1]) rfl ⟨rfl, by (repeat' (first | exact Lw1 | refine Below.alloc ?_ (by simp; omega) _ | refine Below.setCell ?_ (by first | exact Nat.le_refl _ | (dsimp only; omega) | (simp; omega)) _ | refine Below.drew ?_))⟩

set_option maxRecDepth 100000 in
theorem rDepends_bad (n : Int) (b : Nat) (w : World) (hb : b < 2 ^ 64) (h1 : Tt.chk n b ≠ 0) : Calls Tryd.prog 34 #[.agg #[.int .i64 n, .int .u64 b]] w fun e w' => e = .returned (.tuple #[.slice none 0 0, .int .i64 (Tt.chk n b)]) ∧ Below w.heap.size w w' := by
  have CC := fun W => Lib.hid (rCheck_any n b W hb)
  generalize Tt.chk n b = k at *
  have g4 : (k != 0) = true := by simpa using h1
  obtain ⟨P0, L0, z0⟩ := tab1_new w n b 24
  generalize hX : w.alloc (.cells #[.int .i64 n, .int .u64 b] 24) = X at *
  obtain ⟨p0, p1, p2, p3, p4⟩ := id P0
  clear h1 hb
  go_enter Tryd.func34, Tryd.ntmps34
  go_wp2_with fail
  refine ((CC _).out).mono ?_
  rintro e w1 ⟨rfl, hw1⟩
  have zw1 := hw1.size
  have P0w1 := P0.below (by omega) hw1
  obtain ⟨a0w1, b0w1, c0w1, d0w1, e0w1⟩ := id P0w1
  have Lw1 := L0.trans (hw1.mono (by omega))
  clear hw1
  go_wp2
  go_ret2
  exact ⟨rfl, Lw1⟩
set_option maxRecDepth 100000 in
theorem rDepends_ok (n b : Nat) (w : World) (hn : n ≤ 6) (hb : b < 2 ^ 2 ^ n) : Calls Tryd.prog 34 #[.agg #[.int .i64 n, .int .u64 b]] w fun e w' => ∃ v, e = .returned (.tuple #[v, .int .i64 0]) ∧ Row (w.heap.size + 1) .i64 3 w' v (Tt.pts (fun i => Tt.lo b i != Tt.hi b i) n) ∧ Below w.heap.size w w' := by
  have CC := fun W => Lib.hid (rCheck_any n b W (Tt.w64 hn hb))
  rw [Tt.chk_ok hn hb] at CC
  have CD := fun W i v (hi : i < n) => Lib.hid (rFixed_any n b i v W hn hb hi)
  have HF := Lib.hid (fun i v (hi : i < n) => Tt.fix_cof v hn hi hb)
  obtain ⟨i0, hi, hz0, hz1, hz2⟩ := info_parts Tryd.infoI64
  obtain ⟨P0, L0, z0⟩ := tab1_new w n b 24
  generalize hX : w.alloc (.cells #[.int .i64 n, .int .u64 b] 24) = X at *
  obtain ⟨p0, p1, p2, p3, p4⟩ := id P0
  clear hb
  go_enter Tryd.func34, Tryd.ntmps34
  go_wp2_with fail
  refine ((CC _).out).mono ?_
  rintro e w1 ⟨rfl, hw1⟩
  have zw1 := hw1.size
  have P0w1 := P0.below (by omega) hw1
  obtain ⟨a0w1, b0w1, c0w1, d0w1, e0w1⟩ := id P0w1
  have Lw1 := L0.trans (hw1.mono (by omega))
  clear hw1
  go_wp2
  go_loopw [5, 6] (fun s5 s6 wr => ∃ k : Nat, k ≤ n ∧ s6 = .int .i64 k ∧ Row (w.heap.size + 1) .i64 3 wr s5 (Tt.pts (fun i => Tt.lo b i != Tt.hi b i) k) ∧ TabI wr w.heap.size n b ∧ Hid (Below w.heap.size w wr)) (fun _ s6 _ => n - (intOf s6).toNat)
  case atStart => exact ⟨0, Nat.zero_le _, rfl, Row.nil _ _ _ _, P0w1, Lib.hid Lw1⟩
  case round =>
    clear P0w1 Lw1
    obtain ⟨k, hk, rfl, hrow, T0, HW⟩ := hrel
    have hwb : w.heap.size + 1 ≤ wr.heap.size := by have := T0.1; omega
    obtain ⟨c00, c01, c02, c03, c04⟩ := id T0
    by_cases hkN : k < n
    · have HS := Lib.hid (Tt.pts_succ (fun i => Tt.lo b i != Tt.hi b i) k)
      have hlen := Tt.pts_len (fun i => Tt.lo b i != Tt.hi b i) k
      have CE := fun W => CD W k false hkN
      have CF := fun W => CD W k true hkN
      rw [HF.out k false hkN] at CE
      rw [HF.out k true hkN] at CF
      simp only [Tt.cof, cond_false, cond_true] at CE CF
      cases hbit : (Tt.lo b k != Tt.hi b k)
      · have HS2 := Lib.hid (HS.out.trans (if_neg (by simpa using hbit)))
        have hne : (((Tt.lo b k : Nat) : Int) == ((Tt.hi b k : Nat) : Int)) = true := by have h := hbit; simp at h ⊢; omega
        clear HS hbit
        generalize Tt.pts (fun i => Tt.lo b i != Tt.hi b i) k = l at *
        generalize Tt.lo b k = x at *
        generalize Tt.hi b k = y at *
        go_wp2
        go_region_held3 (fun W => W.cell? ⟨w.heap.size, 0, none⟩ = some (.int .i64 n) ∧ W.cell? ⟨w.heap.size, 1, none⟩ = some (.int .u64 b))
          (first
            | (go_split_ands; refine ⟨?_, ?_⟩ <;> (rw [hy2.cell (by simp <;> omega)]; assumption))
            | (go_split_ands; refine ⟨?_, ?_⟩ <;> (rw [hy1.cell (by simp <;> omega)]; assumption))
            | go_keep)
          (first
            | (go_at_call 68; (with_reducible refine ((CE _).out).mono ?_); rintro e v1 ⟨rfl, hy1⟩; have hz1 := hy1.size; (try simp only [World.drew] at hz1))
            | (go_at_call 68; (with_reducible refine ((CF _).out).mono ?_); rintro e w2 ⟨rfl, hy2⟩))
        have hb1 := below_next (below_next ((Below.refl wr.heap.size wr).drew) hy1 (Nat.le_refl _)) hy2 (by have := hy1.size; simpa using this)
        clear hy1 hy2 hz1
        have zb1 := hb1.size
        have T0' := T0.below (by omega) hb1
        have hrow' := hrow.below hb1 (Nat.le_refl _)
        have HW' := Lib.hid (HW.out.trans (hb1.mono (by omega)))
        clear hb1 T0 hrow HW c01 c02 c03 c04 CE CF
        go_wp2
        go_roundw
        case rel => exact ⟨k + 1, by omega, by go_num, by rw [HS2.out]; exact hrow', T0', HW'⟩
        case measure => simp [intOf]; omega
      · have HS2 := Lib.hid (HS.out.trans (if_pos (by simpa using hbit)))
        have hne : (((Tt.lo b k : Nat) : Int) == ((Tt.hi b k : Nat) : Int)) = false := by have h := hbit; simp at h ⊢; omega
        clear HS hbit
        generalize Tt.pts (fun i => Tt.lo b i != Tt.hi b i) k = l at *
        generalize Tt.lo b k = x at *
        generalize Tt.hi b k = y at *
        go_wp2
        go_region_held3 (fun W => W.cell? ⟨w.heap.size, 0, none⟩ = some (.int .i64 n) ∧ W.cell? ⟨w.heap.size, 1, none⟩ = some (.int .u64 b))
          (first
            | (go_split_ands; refine ⟨?_, ?_⟩ <;> (rw [hy2.cell (by simp <;> omega)]; assumption))
            | (go_split_ands; refine ⟨?_, ?_⟩ <;> (rw [hy1.cell (by simp <;> omega)]; assumption))
            | go_keep)
          (first
            | (go_at_call 68; (with_reducible refine ((CE _).out).mono ?_); rintro e v1 ⟨rfl, hy1⟩; have hz1 := hy1.size; (try simp only [World.drew] at hz1))
            | (go_at_call 68; (with_reducible refine ((CF _).out).mono ?_); rintro e w2 ⟨rfl, hy2⟩))
        have hb1 := below_next (below_next ((Below.refl wr.heap.size wr).drew) hy1 (Nat.le_refl _)) hy2 (by have := hy1.size; simpa using this)
        clear hy1 hy2 hz1
        have zb1 := hb1.size
        have T0' := T0.below (by omega) hb1
        have hrow' := hrow.below hb1 (Nat.le_refl _)
        have HW' := Lib.hid (HW.out.trans (hb1.mono (by omega)))
        clear hb1 T0 hrow HW c01 c02 c03 c04 CE CF
        go_wp2_with (at_builtin; refine wpList_append_nat rfl _ _ 36 rfl 3 i0 .i64 8 Tryd.underlying36 hi hz0 hz1 hz2 (by omega) _ _ l [k] rfl rfl (w.heap.size + 1) (hrow'.below ((Below.refl _ _).alloc (Nat.le_refl _) _) (Nat.le_refl _)) ((Row.one 0 _ _ _ (Nat.zero_le _) k _ rfl).sees) (by simp; omega) (by simp; omega) ?_; intro v5 w5 hr5 hb5)
        go_roundw
        case rel =>
          have hbA := ((Below.refl w2.heap.size w2).alloc (Nat.le_refl _) (.cells #[.int .i64 (k : Int)] 3)).mono (show w.heap.size + 1 ≤ w2.heap.size by omega)
          have hbB := hbA.trans hb5
          exact ⟨k + 1, by omega, by go_num, by rw [HS2.out]; exact hr5, T0'.below (by omega) hbB, Lib.hid (HW'.out.trans (hbB.mono (by omega)))⟩
        case measure => simp [intOf]; omega
    · obtain rfl : k = n := by omega
      have HR := Lib.hid hrow
      clear hrow
      go_wp2
      go_ret2
      exact ⟨_, rfl, HR.out, HW.out⟩

set_option maxRecDepth 100000 in
theorem rUnate_bad (n : Int) (b : Nat) (i : Int) (w : World) (hb : b < 2 ^ 64) (h1 : chkv n b i ≠ 0) : Calls Tryd.prog 36 #[.agg #[.int .i64 n, .int .u64 b], .int .i64 i] w fun e w' => e = .returned (.tuple #[.bool false, .bool false, .int .i64 (chkv n b i)]) ∧ Below w.heap.size w w' := by
  have CC := fun W => Lib.hid (rVar_chk n b i W hb)
  generalize chkv n b i = k at *
  have g4 : (k != 0) = true := by simpa using h1
  obtain ⟨P0, L0, z0⟩ := tab1_new w n b 24
  generalize hX : w.alloc (.cells #[.int .i64 n, .int .u64 b] 24) = X at *
  obtain ⟨p0, p1, p2, p3, p4⟩ := id P0
  clear h1 hb
  go_enter Tryd.func36, Tryd.ntmps36
  go_wp2_with fail
  refine ((CC _).out).mono ?_
  rintro e w1 ⟨rfl, hw1⟩
  have zw1 := hw1.size
  have P0w1 := P0.below (by omega) hw1
  obtain ⟨a0w1, b0w1, c0w1, d0w1, e0w1⟩ := id P0w1
  have Lw1 := L0.trans (hw1.mono (by omega))
  clear hw1
  go_wp2
  go_ret3
  exact ⟨rfl, Lw1⟩
set_option maxRecDepth 100000 in
set_option maxHeartbeats 4000000 in
theorem rUnate_ok (n b i : Nat) (w : World) (hn : n ≤ 6) (hb : b < 2 ^ 2 ^ n) (hi : i < n) : Calls Tryd.prog 36 #[.agg #[.int .i64 n, .int .u64 b], .int .i64 i] w fun e w' => e = .returned (.tuple #[.bool (Tt.ris b i true (2 ^ n)), .bool (Tt.ris b i false (2 ^ n)), .int .i64 0]) ∧ Below w.heap.size w w' := by
  have hb64 := Tt.w64 hn hb
  have hN := Tt.size_le hn
  have CC := fun W => Lib.hid (rVar_chk n b i W hb64)
  rw [chkv_zero.2 ⟨Tt.chk_ok hn hb, by omega, by omega⟩] at CC
  have CS := fun W => Lib.hid (rSize_any n W (by omega) (by omega))
  rw [Int.toNat_natCast] at CS
  have HSZ := Lib.hid (fun k v hk => (Tt.wth_lt n (by omega) i hi k hk v).2)
  have hi6 : i < 6 := by omega
  obtain ⟨P0, L0, z0⟩ := tab1_new w n b 24
  generalize hX : w.alloc (.cells #[.int .i64 n, .int .u64 b] 24) = X at *
  obtain ⟨p0, p1, p2, p3, p4⟩ := id P0
  generalize 2 ^ n = N at *
  clear hb
  go_enter Tryd.func36, Tryd.ntmps36
  go_wp2_with fail
  refine ((CC _).out).mono ?_
  rintro e w1 ⟨rfl, hw1⟩
  have zw1 := hw1.size
  have P0w1 := P0.below (by omega) hw1
  obtain ⟨a0w1, b0w1, c0w1, d0w1, e0w1⟩ := id P0w1
  have Lw1 := L0.trans (hw1.mono (by omega))
  clear hw1
  go_wp2
  go_loopw [8, 9, 10] (fun s8 s9 s10 wr => ∃ k : Nat, k ≤ N ∧ s10 = .int .i64 k ∧ s8 = .bool (Tt.ris b i true k) ∧ s9 = .bool (Tt.ris b i false k) ∧ TabI wr w.heap.size n b ∧ Hid (Below w.heap.size w wr)) (fun _ _ s10 _ => N - (intOf s10).toNat)
  case atStart => exact ⟨0, Nat.zero_le _, rfl, rfl, rfl, P0w1, Lib.hid Lw1⟩
  case round =>
    clear P0w1 Lw1
    obtain ⟨k, hk, rfl, rfl, rfl, T0, HW⟩ := hrel
    obtain ⟨c00, c01, c02, c03, c04⟩ := id T0
    by_cases hkN : k < N
    · have S1 := Lib.hid (Tt.ris_succ b i true k)
      have S2 := Lib.hid (Tt.ris_succ b i false k)
      have hw1 : Tt.wth k i true < 64 := Nat.lt_of_lt_of_le (HSZ.out k true (by omega) hkN) hN
      have hw2 : Tt.wth k i false < 64 := Nat.lt_of_lt_of_le (HSZ.out k false (by omega) hkN) hN
      have A1 := fun W => Lib.hid (rAt_any n b (Tt.wth k i true) W hb64 hw1)
      have A2 := fun W => Lib.hid (rAt_any n b (Tt.wth k i false) W hb64 hw2)
      have W1 := fun W => Lib.hid (rWith_any k i true W (by omega) hi6)
      have W2 := fun W => Lib.hid (rWith_any k i false W (by omega) hi6)
      simp only [Bool.not_true, Bool.not_false] at S1 S2
      generalize Tt.ris b i true k = r1 at *
      generalize Tt.ris b i false k = r2 at *
      generalize b.testBit (Tt.wth k i true) = t1 at *
      generalize b.testBit (Tt.wth k i false) = t2 at *
      generalize Tt.wth k i true = x1 at *
      generalize Tt.wth k i false = x2 at *
      clear HSZ hb64
      go_wp2_with (first | (go_at_call 46; refine ((CS _).out).mono ?_; rintro e w1 ⟨rfl, rfl⟩) | fail)
      go_region_held3 (fun W => W.cell? ⟨w.heap.size, 0, none⟩ = some (.int .i64 n) ∧ W.cell? ⟨w.heap.size, 1, none⟩ = some (.int .u64 b))
        (first
          | (go_split_ands; refine ⟨?_, ?_⟩ <;> (rw [hy2.cell (by simp <;> omega)]; assumption))
          | (go_split_ands; refine ⟨?_, ?_⟩ <;> (rw [hy1.cell (by simp <;> omega)]; assumption))
          | go_keep)
        (first
          | (go_at_call 69; (with_reducible refine ((W1 _).out).mono ?_); rintro e v1 ⟨rfl, rfl⟩)
          | (go_at_call 69; (with_reducible refine ((W2 _).out).mono ?_); rintro e v1 ⟨rfl, rfl⟩)
          | (go_at_call 52; (with_reducible refine ((A2 _).out).mono ?_); rintro e v1 ⟨rfl, hy1⟩; have hz1 := hy1.size; (try simp only [World.drew] at hz1))
          | (go_at_call 52; (with_reducible refine ((A1 _).out).mono ?_); rintro e w2 ⟨rfl, hy2⟩))
      have hb1 := below_next (below_next ((Below.refl wr.heap.size wr).drew) hy1 (Nat.le_refl _)) hy2 (by have := hy1.size; simpa using this)
      clear hy1 hy2 hz1
      have zb1 := hb1.size
      have T0' := T0.below (by omega) hb1
      have HW' := Lib.hid (HW.out.trans (hb1.mono (by omega)))
      clear hb1 T0 HW c01 c02 c03 c04 A1 A2 W1 W2
      cases r1 <;> cases r2 <;> cases t1 <;> cases t2
      all_goals
        go_wp2
        go_roundw
        case rel => exact ⟨k + 1, by omega, by go_num, by rw [S1.out]; rfl, by rw [S2.out]; rfl, T0', HW'⟩
        case measure => simp [intOf]; omega
    · obtain rfl : k = N := by omega
      go_wp2_with (first | (go_at_call 46; refine ((CS _).out).mono ?_; rintro e w1 ⟨rfl, rfl⟩) | fail)
      go_ret3
      exact ⟨rfl, HW.out⟩

end Go.Proofs.YtmmcakeedejbnaaDoor
