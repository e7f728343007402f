/- The contracts of package truth: Cofactor, Unate, Depends. -/
import Derived.Test.YtmmcakeedejbnaaDoorUx
import Derived.Test.YtmmcakeedejbnaaDoorUl
namespace Tt
/-- Is one table inside another? -/
def under (x y : Nat) : Bool := (x &&& (18446744073709551615 - y)) == 0
theorem under_int (x y : Nat) : (((x &&& (18446744073709551615 - y) : Nat) : Int) == 0) = under x y := by
  unfold under
  rw [Bool.eq_iff_iff]; simp
end Tt
namespace Go.Proofs.YtmmcakeedejbnaaDoor
open Go.RowKit Go.Shelf

set_option maxRecDepth 100000 in
theorem tCofactor_ok (n b i : Nat) (v : Bool) (w : World) (hn : n ≤ 6) (hb : b < 2 ^ 2 ^ n) (hi : i < n) (hT : ColTab w) (hg : 0 < w.heap.size) : Calls Tryd.prog 31 #[.agg #[.int .i64 n, .int .u64 b], .int .i64 i, .bool v] w fun e w' => e = .returned (.tuple #[.agg #[.int .i64 n, .int .u64 ((Tt.cof b i v : Nat) : Int)], .int .i64 0]) ∧ Below w.heap.size w w' := by
  have CC := fun W => Lib.hid (tChkv_any n b i W (Tt.w64 hn hb))
  rw [chkv_zero.2 ⟨Tt.chk_ok hn hb, by omega, by omega⟩] at CC
  have CD := fun W (h : Below w.heap.size w W) => Lib.hid (tCof_any n b i W (Tt.w64 hn hb) (by omega) (colTab_below hT h hg) (Nat.lt_of_lt_of_le hg h.size))
  unfold Tt.cof
  generalize Tt.lo b i = x at *
  generalize Tt.hi b i = y at *
  obtain ⟨P0, P1, L0, z0⟩ := tab2_new w n b 0 0 24
  generalize hX : (w.alloc (.cells #[.int .i64 n, .int .u64 b] 24)).alloc (.cells #[.int .i64 0, .int .u64 ((0 : Nat) : Int)] 24) = X at *
  change (w.alloc (.cells #[.int .i64 n, .int .u64 b] 24)).alloc (.cells #[.int .i64 0, .int .u64 0] 24) = X at hX
  obtain ⟨p0, p1, p2, p3, p4⟩ := id P0
  obtain ⟨q0, q1, q2, q3, q4⟩ := id P1
  clear hn hb hi hT
  cases v
  all_goals
    go_enter Tryd.func31, Tryd.ntmps31
    go_wp2_with fail
    refine ((CC _).out).mono ?_
    rintro e w1 ⟨rfl, hw1⟩
    have zw1 := hw1.size
    have P0w1 := P0.below (by omega) hw1
    obtain ⟨a0w1, b0w1, c0w1, d0w1, e0w1⟩ := id P0w1
    have P1w1 := P1.below (by omega) hw1
    obtain ⟨a1w1, b1w1, c1w1, d1w1, e1w1⟩ := id P1w1
    have Lw1 := L0.trans (hw1.mono (by omega))
    clear hw1
    go_wp2_with fail
    refine ((CD _ Lw1).out).mono ?_
    rintro e w2 ⟨rfl, hw2⟩
    have zw2 := hw2.size
    have P0w2 := P0w1.below (by omega) hw2
    obtain ⟨a0w2, b0w2, c0w2, d0w2, e0w2⟩ := id P0w2
    have P1w2 := P1w1.below (by omega) hw2
    obtain ⟨a1w2, b1w2, c1w2, d1w2, e1w2⟩ := id P1w2
    have Lw2 := Lw1.trans (hw2.mono (by omega))
    clear hw2
    go_wp2
    dsimp only [cond_true, cond_false]
  · exact bodyPost_ret (v := .tuple #[.agg #[.int .i64 n, .int .u64 x], .int .i64 0]) (by simp [results, Tryd.results31, go_sem, b1w2, c1w2]) rfl ⟨rfl, by (repeat' (first | exact Lw2 | refine Below.alloc ?_ (by simp; omega) _ | refine Below.setCell ?_ (by first | exact Nat.le_refl _ | (dsimp only; omega) | (simp; omega)) _ | refine Below.drew ?_))⟩
  · exact bodyPost_ret (v := .tuple #[.agg #[.int .i64 n, .int .u64 y], .int .i64 0]) (by simp [results, Tryd.results31, go_sem, b1w2, c1w2]) rfl ⟨rfl, by (repeat' (first | exact Lw2 | refine Below.alloc ?_ (by simp; omega) _ | refine Below.setCell ?_ (by first | exact Nat.le_refl _ | (dsimp only; omega) | (simp; omega)) _ | refine Below.drew ?_))⟩

set_option maxRecDepth 100000 in
theorem tCofactor_bad (n : Int) (b : Nat) (i : Int) (v : Bool) (w : World) (hb : b < 2 ^ 64) (h1 : chkv n b i ≠ 0) : Calls Tryd.prog 31 #[.agg #[.int .i64 n, .int .u64 b], .int .i64 i, .bool v] w fun e w' => e = .returned (.tuple #[.agg #[.int .i64 0, .int .u64 0], .int .i64 (chkv n b i)]) ∧ Below w.heap.size w w' := by
  have CC := fun W => Lib.hid (tChkv_any n b i W hb)
  generalize chkv n b i = k at *
  have g4 : (k != 0) = true := by simpa using h1
  obtain ⟨P0, P1, L0, z0⟩ := tab2_new w n b 0 0 24
  generalize hX : (w.alloc (.cells #[.int .i64 n, .int .u64 b] 24)).alloc (.cells #[.int .i64 0, .int .u64 ((0 : Nat) : Int)] 24) = X at *
  change (w.alloc (.cells #[.int .i64 n, .int .u64 b] 24)).alloc (.cells #[.int .i64 0, .int .u64 0] 24) = X at hX
  obtain ⟨p0, p1, p2, p3, p4⟩ := id P0
  obtain ⟨q0, q1, q2, q3, q4⟩ := id P1
  clear h1 hb
  go_enter Tryd.func31, Tryd.ntmps31
  go_wp2_with fail
  refine ((CC _).out).mono ?_
  rintro e w1 ⟨rfl, hw1⟩
  have zw1 := hw1.size
  have P0w1 := P0.below (by omega) hw1
  obtain ⟨a0w1, b0w1, c0w1, d0w1, e0w1⟩ := id P0w1
  have P1w1 := P1.below (by omega) hw1
  obtain ⟨a1w1, b1w1, c1w1, d1w1, e1w1⟩ := id P1w1
  have Lw1 := L0.trans (hw1.mono (by omega))
  clear hw1
  go_wp2
  exact bodyPost_ret (v := .tuple #[.agg #[.int .i64 0, .int .u64 0], .int .i64 k]) (by simp [results, Tryd.results31, go_sem, b1w1, c1w1]) rfl ⟨rfl, by (repeat' (first | exact Lw1 | refine Below.alloc ?_ (by simp; omega) _ | refine Below.setCell ?_ (by first | exact Nat.le_refl _ | (dsimp only; omega) | (simp; omega)) _ | refine Below.drew ?_))⟩

set_option maxRecDepth 100000 in
theorem tUnate_ok (n b i : Nat) (w : World) (hn : n ≤ 6) (hb : b < 2 ^ 2 ^ n) (hi : i < n) (hT : ColTab w) (hg : 0 < w.heap.size) : Calls Tryd.prog 35 #[.agg #[.int .i64 n, .int .u64 b], .int .i64 i] w fun e w' => e = .returned (.tuple #[.bool (Tt.under (Tt.lo b i) (Tt.hi b i)), .bool (Tt.under (Tt.hi b i) (Tt.lo b i)), .int .i64 0]) ∧ Below w.heap.size w w' := by
  have CC := fun W => Lib.hid (tChkv_any n b i W (Tt.w64 hn hb))
  rw [chkv_zero.2 ⟨Tt.chk_ok hn hb, by omega, by omega⟩] at CC
  have CD := fun W (h : Below w.heap.size w W) => Lib.hid (tCof_any n b i W (Tt.w64 hn hb) (by omega) (colTab_below hT h hg) (Nat.lt_of_lt_of_le hg h.size))
  have e1 := and_not (b := Tt.lo b i) (m := Tt.hi b i) (Tt.lo_lt b i) (Tt.hi_lt b i)
  have e2 := and_not (b := Tt.hi b i) (m := Tt.lo b i) (Tt.hi_lt b i) (Tt.lo_lt b i)
  have U1 := Lib.hid (Tt.under_int (Tt.lo b i) (Tt.hi b i))
  have U2 := Lib.hid (Tt.under_int (Tt.hi b i) (Tt.lo b i))
  generalize Tt.under (Tt.lo b i) (Tt.hi b i) = r1 at *
  generalize Tt.under (Tt.hi b i) (Tt.lo b i) = r2 at *
  generalize Tt.lo b i = x at *
  generalize Tt.hi b i = y at *
  generalize (x &&& (18446744073709551615 - y)) = v1 at *
  generalize (y &&& (18446744073709551615 - x)) = v2 at *
  obtain ⟨P0, L0, z0⟩ := tab1_new w n b 24
  generalize hX : w.alloc (.cells #[.int .i64 n, .int .u64 b] 24) = X at *
  obtain ⟨p0, p1, p2, p3, p4⟩ := id P0
  clear hn hb hi hT
  go_enter Tryd.func35, Tryd.ntmps35
  go_wp2_with fail
  refine ((CC _).out).mono ?_
  rintro e w1 ⟨rfl, hw1⟩
  have zw1 := hw1.size
  have P0w1 := P0.below (by omega) hw1
  obtain ⟨a0w1, b0w1, c0w1, d0w1, e0w1⟩ := id P0w1
  have Lw1 := L0.trans (hw1.mono (by omega))
  clear hw1
  go_wp2_with fail
  refine ((CD _ Lw1).out).mono ?_
  rintro e w2 ⟨rfl, hw2⟩
  have zw2 := hw2.size
  have P0w2 := P0w1.below (by omega) hw2
  obtain ⟨a0w2, b0w2, c0w2, d0w2, e0w2⟩ := id P0w2
  have Lw2 := Lw1.trans (hw2.mono (by omega))
  clear hw2
  go_wp2
  go_ret3
  refine ⟨?_, Lw2⟩
  rw [← U1.out, ← U2.out]; rfl
set_option maxRecDepth 100000 in
theorem tUnate_bad (n : Int) (b : Nat) (i : Int) (w : World) (hb : b < 2 ^ 64) (h1 : chkv n b i ≠ 0) : Calls Tryd.prog 35 #[.agg #[.int .i64 n, .int .u64 b], .int .i64 i] w fun e w' => e = .returned (.tuple #[.bool false, .bool false, .int .i64 (chkv n b i)]) ∧ Below w.heap.size w w' := by
  have CC := fun W => Lib.hid (tChkv_any n b i W hb)
  generalize chkv n b i = k at *
  have g4 : (k != 0) = true := by simpa using h1
  obtain ⟨P0, L0, z0⟩ := tab1_new w n b 24
  generalize hX : w.alloc (.cells #[.int .i64 n, .int .u64 b] 24) = X at *
  obtain ⟨p0, p1, p2, p3, p4⟩ := id P0
  clear h1 hb
  go_enter Tryd.func35, Tryd.ntmps35
  go_wp2_with fail
  refine ((CC _).out).mono ?_
  rintro e w1 ⟨rfl, hw1⟩
  have zw1 := hw1.size
  have P0w1 := P0.below (by omega) hw1
  obtain ⟨a0w1, b0w1, c0w1, d0w1, e0w1⟩ := id P0w1
  have Lw1 := L0.trans (hw1.mono (by omega))
  clear hw1
  go_wp2
  go_ret3
  exact ⟨rfl, Lw1⟩
set_option maxRecDepth 100000 in
theorem tDepends_bad (n : Int) (b : Nat) (w : World) (hb : b < 2 ^ 64) (h1 : Tt.chk n b ≠ 0) : Calls Tryd.prog 33 #[.agg #[.int .i64 n, .int .u64 b]] w fun e w' => e = .returned (.tuple #[.slice none 0 0, .int .i64 (Tt.chk n b)]) ∧ Below w.heap.size w w' := by
  have CC := fun W => Lib.hid (tCheck_any n b W hb)
  generalize Tt.chk n b = k at *
  have g4 : (k != 0) = true := by simpa using h1
  obtain ⟨P0, L0, z0⟩ := tab1_new w n b 24
  generalize hX : w.alloc (.cells #[.int .i64 n, .int .u64 b] 24) = X at *
  obtain ⟨p0, p1, p2, p3, p4⟩ := id P0
  clear h1 hb
  go_enter Tryd.func33, Tryd.ntmps33
  go_wp2_with fail
  refine ((CC _).out).mono ?_
  rintro e w1 ⟨rfl, hw1⟩
  have zw1 := hw1.size
  have P0w1 := P0.below (by omega) hw1
  obtain ⟨a0w1, b0w1, c0w1, d0w1, e0w1⟩ := id P0w1
  have Lw1 := L0.trans (hw1.mono (by omega))
  clear hw1
  go_wp2
  go_ret2
  exact ⟨rfl, Lw1⟩
set_option maxRecDepth 100000 in
theorem tDepends_ok (n b : Nat) (w : World) (hn : n ≤ 6) (hb : b < 2 ^ 2 ^ n) (hT : ColTab w) (hg : 0 < w.heap.size) : Calls Tryd.prog 33 #[.agg #[.int .i64 n, .int .u64 b]] w fun e w' => ∃ v, e = .returned (.tuple #[v, .int .i64 0]) ∧ Row (w.heap.size + 1) .i64 3 w' v (Tt.pts (fun i => Tt.lo b i != Tt.hi b i) n) ∧ Below w.heap.size w w' := by
  have CC := fun W => Lib.hid (tCheck_any n b W (Tt.w64 hn hb))
  rw [Tt.chk_ok hn hb] at CC
  have CD := fun W i (hi : i < n) (h : Below w.heap.size w W) => Lib.hid (tCof_any n b i W (Tt.w64 hn hb) (by omega) (colTab_below hT h hg) (Nat.lt_of_lt_of_le hg h.size))
  obtain ⟨i0, hi, hz0, hz1, hz2⟩ := info_parts Tryd.infoI64
  obtain ⟨P0, L0, z0⟩ := tab1_new w n b 24
  generalize hX : w.alloc (.cells #[.int .i64 n, .int .u64 b] 24) = X at *
  obtain ⟨p0, p1, p2, p3, p4⟩ := id P0
  clear hb hT
  go_enter Tryd.func33, Tryd.ntmps33
  go_wp2_with fail
  refine ((CC _).out).mono ?_
  rintro e w1 ⟨rfl, hw1⟩
  have zw1 := hw1.size
  have P0w1 := P0.below (by omega) hw1
  obtain ⟨a0w1, b0w1, c0w1, d0w1, e0w1⟩ := id P0w1
  have Lw1 := L0.trans (hw1.mono (by omega))
  clear hw1
  go_wp2
  go_loopw [5, 16] (fun s5 s16 wr => ∃ k : Nat, k ≤ n ∧ s16 = .int .i64 k ∧ Row (w.heap.size + 1) .i64 3 wr s5 (Tt.pts (fun i => Tt.lo b i != Tt.hi b i) k) ∧ TabI wr w.heap.size n b ∧ Hid (Below w.heap.size w wr)) (fun _ s16 _ => n - (intOf s16).toNat)
  case atStart => exact ⟨0, Nat.zero_le _, rfl, Row.nil _ _ _ _, P0w1, Lib.hid Lw1⟩
  case round =>
    clear P0w1 Lw1
    obtain ⟨k, hk, rfl, hrow, T0, HW⟩ := hrel
    have hwb : w.heap.size + 1 ≤ wr.heap.size := by have := T0.1; omega
    obtain ⟨c00, c01, c02, c03, c04⟩ := id T0
    by_cases hkN : k < n
    · have HS := Lib.hid (Tt.pts_succ (fun i => Tt.lo b i != Tt.hi b i) k)
      have hlen := Tt.pts_len (fun i => Tt.lo b i != Tt.hi b i) k
      have CE := CD wr k hkN HW.out
      cases hbit : (Tt.lo b k != Tt.hi b k)
      · have HS2 := Lib.hid (HS.out.trans (if_neg (by simpa using hbit)))
        have hne : (((Tt.lo b k : Nat) : Int) != ((Tt.hi b k : Nat) : Int)) = false := by have h := hbit; simp at h ⊢; omega
        clear HS hbit
        generalize Tt.pts (fun i => Tt.lo b i != Tt.hi b i) k = l at *
        generalize Tt.lo b k = x at *
        generalize Tt.hi b k = y at *
        go_wp2_with fail
        refine (CE.out).mono ?_
        rintro e w2 ⟨rfl, hb1⟩
        have zb1 := hb1.size
        have T0' := T0.below (by omega) hb1
        have hrow' := hrow.below hb1 (Nat.le_refl _)
        have HW' := Lib.hid (HW.out.trans (hb1.mono (by omega)))
        clear hb1 T0 hrow HW c01 c02 c03 c04 CE
        go_wp2
        go_roundw
        case rel => exact ⟨k + 1, by omega, by go_num, by rw [HS2.out]; exact hrow', T0', HW'⟩
        case measure => simp [intOf]; omega
      · have HS2 := Lib.hid (HS.out.trans (if_pos (by simpa using hbit)))
        have hne : (((Tt.lo b k : Nat) : Int) != ((Tt.hi b k : Nat) : Int)) = true := by have h := hbit; simp at h ⊢; omega
        clear HS hbit
        generalize Tt.pts (fun i => Tt.lo b i != Tt.hi b i) k = l at *
        generalize Tt.lo b k = x at *
        generalize Tt.hi b k = y at *
        go_wp2_with fail
        refine (CE.out).mono ?_
        rintro e w2 ⟨rfl, hb1⟩
        have zb1 := hb1.size
        have T0' := T0.below (by omega) hb1
        have hrow' := hrow.below hb1 (Nat.le_refl _)
        have HW' := Lib.hid (HW.out.trans (hb1.mono (by omega)))
        clear hb1 T0 hrow HW c01 c02 c03 c04 CE
        go_wp2_with (at_builtin; refine wpList_append_nat rfl _ _ 36 rfl 3 i0 .i64 8 Tryd.underlying36 hi hz0 hz1 hz2 (by omega) _ _ l [k] rfl rfl (w.heap.size + 1) (hrow'.below ((Below.refl _ _).alloc (Nat.le_refl _) _) (Nat.le_refl _)) ((Row.one 0 _ _ _ (Nat.zero_le _) k _ rfl).sees) (by simp; omega) (by simp; omega) ?_; intro v5 w5 hr5 hb5)
        go_roundw
        case rel =>
          have hbA := ((Below.refl w2.heap.size w2).alloc (Nat.le_refl _) (.cells #[.int .i64 (k : Int)] 3)).mono (show w.heap.size + 1 ≤ w2.heap.size by omega)
          have hbB := hbA.trans hb5
          exact ⟨k + 1, by omega, by go_num, by rw [HS2.out]; exact hr5, T0'.below (by omega) hbB, Lib.hid (HW'.out.trans (hbB.mono (by omega)))⟩
        case measure => simp [intOf]; omega
    · obtain rfl : k = n := by omega
      have HR := Lib.hid hrow
      clear hrow
      go_wp2
      go_ret2
      exact ⟨_, rfl, HR.out, HW.out⟩

end Go.Proofs.YtmmcakeedejbnaaDoor
