/- The function of a cube: its points as a word, as the program makes it. -/
import Derived.Test.YtahjdmdgkkienaaGreatDoorId
namespace Ic
theorem full_bit {n k : Nat} (hk : k < 2 ^ n) : (Tt.full n).testBit k = true := by
  unfold Tt.full
  rw [Nat.testBit_two_pow_sub_one]; simp [hk]
theorem full_fits (n : Nat) : Tt.full n < 2 ^ 2 ^ n := by
  unfold Tt.full
  have : 0 < 2 ^ 2 ^ n := Nat.pow_pos (by omega)
  omega
/-- The points of a cube. -/
def tab (n c v : Nat) : Nat := Tt.mk n (inn c v)
theorem tab_lt (n c v : Nat) : tab n c v < 2 ^ 2 ^ n := Tt.mk_lt _ _
theorem tab_bit (n c v k : Nat) : (tab n c v).testBit k = (decide (k < 2 ^ n) && inn c v k) := Tt.mk_bit _ _ _
/-- .. so far as the variables below i say. -/
def tup (n c v i : Nat) : Nat := Tt.mk n (fun k => (List.range i).all fun j => !c.testBit j || k.testBit j == v.testBit j)
theorem tup_lt (n c v i : Nat) : tup n c v i < 2 ^ 2 ^ n := Tt.mk_lt _ _
theorem tup_zero (n c v : Nat) : tup n c v 0 = Tt.full n := by
  refine Tt.same (tup_lt _ _ _ _) (full_fits n) fun k hk => ?_
  unfold tup
  rw [Tt.mk_bit, full_bit hk]
  simp [hk]
theorem tup_skip {n c v i : Nat} (h : c.testBit i = false) : tup n c v (i + 1) = tup n c v i := by
  refine Tt.same (tup_lt _ _ _ _) (tup_lt _ _ _ _) fun k hk => ?_
  unfold tup
  rw [Tt.mk_bit, Tt.mk_bit, all_succ, h]
  simp
theorem tup_on {n c v i : Nat} (hn : n ≤ 6) (hi : i < n) (h : c.testBit i = true) (hv : v.testBit i = true) : tup n c v (i + 1) = tup n c v i &&& (Tt.col i &&& Tt.full n) := by
  refine Tt.same (tup_lt _ _ _ _) (Nat.lt_of_le_of_lt Nat.and_le_left (tup_lt _ _ _ _)) fun k hk => ?_
  have hk64 := p64 hn hk
  rw [Nat.testBit_and, Nat.testBit_and, Tt.col_bit i (by omega) k hk64, full_bit hk]
  unfold tup
  rw [Tt.mk_bit, Tt.mk_bit, all_succ, h, hv]
  simp [hk]
theorem tup_off {n c v i : Nat} (hn : n ≤ 6) (hi : i < n) (h : c.testBit i = true) (hv : v.testBit i = false) : tup n c v (i + 1) = tup n c v i &&& (Tt.full n &&& (18446744073709551615 - (Tt.col i &&& Tt.full n))) := by
  refine Tt.same (tup_lt _ _ _ _) (Nat.lt_of_le_of_lt Nat.and_le_left (tup_lt _ _ _ _)) fun k hk => ?_
  have hk64 := p64 hn hk
  have hl : Tt.col i &&& Tt.full n < 2 ^ 64 := Nat.lt_of_le_of_lt Nat.and_le_left (Tt.col_lt i)
  rw [Nat.testBit_and, Nat.testBit_and, not_bit hl hk64, Nat.testBit_and, Tt.col_bit i (by omega) k hk64, full_bit hk]
  unfold tup
  rw [Tt.mk_bit, Tt.mk_bit, all_succ, h, hv]
  simp [hk]
theorem tup_all {n c v : Nat} (hc : c < 2 ^ n) (hs : Sub v c) : tup n c v n = tab n c v := by
  refine Tt.same (tup_lt _ _ _ _) (tab_lt _ _ _) fun k hk => ?_
  unfold tup
  rw [Tt.mk_bit, tab_bit]
  simp only [hk, decide_true, Bool.true_and]
  rw [Bool.eq_iff_iff, inn_iff hs, List.all_eq_true]
  constructor
  · intro h i hi
    have := h i (List.mem_range.2 (bit_lt hc hi))
    rw [hi] at this
    simpa using this
  · intro h i _
    cases hci : c.testBit i
    · rfl
    · rw [h i hci]; simp
end Ic
namespace Go.Proofs.YtahjdmdgkkienaaGreatDoor
open Go.RowKit Go.Shelf

/-- The words of truth's variables. -/
structure St (W : World) : Prop where
  col : ColTab W
  h2 : 2 < W.heap.size
theorem St.next {w W : World} (h : St w) (hb : Below w.heap.size w W) : St W :=
  ⟨colTab_below h.col hb h.h2, Nat.lt_of_lt_of_le h.h2 hb.size⟩
theorem bit_and0 {b : Nat} (k : Nat) (hb : b < 2 ^ 64) : (bits .and .u64 ((b : Int) / 2 ^ k) 1 == 0) = !b.testBit k := by
  have h1 : b / 2 ^ k < 18446744073709551616 := Nat.lt_of_le_of_lt (Nat.div_le_self _ _) (by simpa using hb)
  have e : ((b : Int) / 2 ^ k) = ((b / 2 ^ k : Nat) : Int) := by simp
  have h2 := u64_and_nat (b / 2 ^ k) 1 h1 (by omega)
  rw [e, show (1 : Int) = ((1 : Nat) : Int) from rfl, h2, nat_mask1, ← Tt.bit_one]
  rcases Nat.mod_two_eq_zero_or_one (b / 2 ^ k) with h | h <;> rw [h] <;> rfl
theorem bit_andI {b : Nat} (k : Nat) (hb : b < 2 ^ 64) : bits .and .u64 ((b : Int) / 2 ^ k) 1 = if b.testBit k then 1 else 0 := by
  have h1 : b / 2 ^ k < 18446744073709551616 := Nat.lt_of_le_of_lt (Nat.div_le_self _ _) (by simpa using hb)
  have e : ((b : Int) / 2 ^ k) = ((b / 2 ^ k : Nat) : Int) := by simp
  have h2 := u64_and_nat (b / 2 ^ k) 1 h1 (by omega)
  rw [e, show (1 : Int) = ((1 : Nat) : Int) from rfl, h2, nat_mask1, ← Tt.bit_one]
  rcases Nat.mod_two_eq_zero_or_one (b / 2 ^ k) with h | h <;> rw [h] <;> rfl
theorem TabI.put {W : World} {g : Nat} {n : Int} {b : Nat} (h : TabI W g n b) (m : Int) (c : Nat) : TabI ((W.setCell ⟨g, 0, none⟩ (.int .i64 m)).setCell ⟨g, 1, none⟩ (.int .u64 (c : Int))) g m c := by
  obtain ⟨h0, h1, h2, h3, h4⟩ := h
  have k0 : TabI (W.setCell ⟨g, 0, none⟩ (.int .i64 m)) g m b := ⟨by simpa using h0, World.cell?_setCell_same' _ _ _ (by rw [h1]; rfl), (World.cell?_setCell_other (w := W) (v := .int .i64 m) (a := ⟨g, 0, none⟩) (b := ⟨g, 1, none⟩) (by simp)).trans h2, by rw [World.frozen?_setCell]; exact h3, by rw [World.frozen?_setCell]; exact h4⟩
  exact k0.setBits c
theorem below_put2 {B g : Nat} {w W : World} (h : Below B w W) (hg : B ≤ g) (x y : Value) : Below B w ((W.setCell ⟨g, 0, none⟩ x).setCell ⟨g, 1, none⟩ y) := (h.setCell (p := ⟨g, 0, none⟩) hg x).setCell (p := ⟨g, 1, none⟩) hg y

theorem TabI.step {w w' : World} {g : Nat} {x : Int} {y : Nat} (h : TabI w g x y) (hb : Below w.heap.size w w') : TabI w' g x y := h.below h.1 hb

set_option maxHeartbeats 1000000 in
set_option maxRecDepth 100000 in
theorem iTable_any (n c v : Nat) (w : World) (hn : n ≤ 6) (hc : c < 2 ^ n) (hs : Ic.Sub v c) (hst : St w) :
    Calls Tryz.prog 68 #[.int .i64 n, .agg #[.int .u64 c, .int .u64 v]] w fun e w' => e = .returned (.agg #[.int .i64 n, .int .u64 ((Ic.tab n c v : Nat) : Int)]) ∧ Below w.heap.size w w' := by
  have hv := hs.lt hc
  have hc64 := Ic.w64 hn hc
  have hv64 := Ic.w64 hn hv
  have CC := fun W => Lib.hid (tConst_ok n true W hn)
  rw [← Ic.tup_all hc hs]
  rw [cond_true, ← Ic.tup_zero n c v] at CC
  obtain ⟨P0, L0, z0⟩ := cub1_new w c v 62
  have P1 := (tab1_new (w.alloc (.cells #[.int .u64 (c : Int), .int .u64 (v : Int)] 62)) 0 0 29).1
  have L1 := (tab1_new (w.alloc (.cells #[.int .u64 (c : Int), .int .u64 (v : Int)] 62)) 0 0 29).2.1
  have z1 := (tab1_new (w.alloc (.cells #[.int .u64 (c : Int), .int .u64 (v : Int)] 62)) 0 0 29).2.2
  replace P0 := P0.step L1
  replace L0 := below_nxt L0 L1
  rw [z0] at P1 z1
  clear L1 z0
  generalize hX : (w.alloc (.cells #[.int .u64 (c : Int), .int .u64 (v : Int)] 62)).alloc (.cells #[.int .i64 0, .int .u64 ((0 : Nat) : Int)] 29) = X at *
  change (w.alloc (.cells #[.int .u64 (c : Int), .int .u64 (v : Int)] 62)).alloc (.cells #[.int .i64 0, .int .u64 0] 29) = X at hX
  have HST := Lib.hid hst
  clear hst
  obtain ⟨p0, p1, p2, p3, p4⟩ := id P0
  go_enter Tryz.func68, Tryz.ntmps68
  go_wp2_with fail
  refine ((CC _).out).mono ?_
  rintro e w1 ⟨rfl, hw1⟩
  have S0 := P0.step hw1
  have S1 := P1.step hw1
  have L1 := below_nxt L0 hw1
  obtain ⟨P2, L2, z2⟩ := tab1_new w1 0 0 29
  have T0 := S0.step L2
  have T1 := S1.step L2
  have hsz : w.heap.size + 2 ≤ w1.heap.size := by have := S1.1; omega
  have L3 := below_nxt L1 L2
  generalize hY : w1.alloc (.cells #[.int .i64 0, .int .u64 ((0 : Nat) : Int)] 29) = Y at *
  change w1.alloc (.cells #[.int .i64 0, .int .u64 0] 29) = Y at hY
  have T2 := P2.put n (Ic.tup n c v 0)
  have L4 := below_put2 (g := w1.heap.size) L3 (by omega) (.int .i64 n) (.int .u64 ((Ic.tup n c v 0 : Nat) : Int))
  obtain ⟨y0, y1, y2, y3, y4⟩ := id P2
  clear hw1 L2 S0 S1 P0 P1 P2 L0 L1 p1 p2 p3 p4
  go_wp2
  have HY := Lib.hid hY
  clear hY
  go_loopw [16] (fun s16 wr => ∃ i : Nat, i ≤ n ∧ s16 = .int .i64 i ∧ CubI wr w.heap.size c v ∧ TabI wr (w.heap.size + 1) 0 0 ∧ TabI wr w1.heap.size n (Ic.tup n c v i) ∧ Hid (Below w.heap.size w wr)) (fun s16 _ => n - (intOf s16).toNat)
  case atStart =>
    exact ⟨0, Nat.zero_le _, rfl, (T0.other _ (by omega)).other _ (by omega), (T1.other _ (by omega)).other _ (by omega), T2, Lib.hid L4⟩
  case round =>
    clear T0 T1 T2 L3 L4 y1 y2 y3 y4
    obtain ⟨i, hi, rfl, R0, R1, R2, HW⟩ := hrel
    have HT := Lib.hid (HST.out.next HW.out)
    have hwr : w1.heap.size < wr.heap.size := R2.1
    obtain ⟨r0, r1, r2, r3, r4⟩ := id R0
    obtain ⟨s0, s1, s2, s3, s4⟩ := id R1
    obtain ⟨t0, t1, t2, t3, t4⟩ := id R2
    by_cases hin : i < n
    · have HB := bit_and0 i hc64
      have hVB := bit_and0 i hv64
      have ht64 : Ic.tup n c v i < 2 ^ 2 ^ n := Ic.tup_lt _ _ _ _
      cases hb : c.testBit i
      · rw [hb] at HB
        have HE := Lib.hid (Ic.tup_skip (n := n) (v := v) hb)
        clear hb hVB ht64
        generalize Ic.tup n c v i = t at *
        go_wp2
        go_roundw
        case rel => exact ⟨i + 1, by omega, by go_num, R0, R1, by rw [HE.out]; exact R2, HW⟩
        case measure => simp [intOf]; omega
      · rw [hb] at HB
        have CV := fun W (h : St W) => Lib.hid (tVar_ok n i W hn hin h.col h.h2)
        have CN := fun W => Lib.hid (tNot_ok n (Tt.col i &&& Tt.full n) W hn (Nat.lt_of_le_of_lt Nat.and_le_left (Tt.col_lt i)) (Tt.chk_ok hn (Nat.lt_of_le_of_lt Nat.and_le_right (Ic.full_fits n))))
        cases hvb : v.testBit i
        · rw [hvb] at hVB
          have HE := Ic.tup_off hn hin hb hvb
          have CA := fun W => Lib.hid (tAnd_ok n (Ic.tup n c v i) (Tt.full n &&& (18446744073709551615 - (Tt.col i &&& Tt.full n))) W (Tt.w64 hn ht64) (Tt.w64 hn (Nat.lt_of_le_of_lt Nat.and_le_left (Ic.full_fits n))) (Tt.chk_ok hn ht64) (Tt.chk_ok hn (Nat.lt_of_le_of_lt Nat.and_le_left (Ic.full_fits n))))
          rw [← HE] at CA
          have HEE := Lib.hid HE
          clear HE hb hvb ht64
          obtain ⟨t', ht'⟩ : ∃ t', Ic.tup n c v (i + 1) = t' := ⟨_, rfl⟩
          rw [ht'] at CA
          have HT' := Lib.hid ht'
          clear ht'
          generalize Ic.tup n c v i = t at *
          generalize (Tt.full n &&& (18446744073709551615 - (Tt.col i &&& Tt.full n))) = m2 at *
          generalize (Tt.col i &&& Tt.full n) = m1 at *
          go_wp2_with fail
          refine ((CV _ HT.out).out).mono ?_
          rintro e w2 ⟨rfl, hw2⟩
          have A0 := R0.step hw2
          have A1 := R1.step hw2
          have A2 := R2.step hw2
          have B2 := below_nxt HW.out hw2
          have hw2s := hw2.size
          clear hw2
          obtain ⟨P3, L5, z3⟩ := tab1_new w2 0 0 29
          replace A0 := A0.step L5
          replace A1 := A1.step L5
          replace A2 := A2.step L5
          have B3 := below_nxt B2 L5
          generalize hZ : w2.alloc (.cells #[.int .i64 0, .int .u64 ((0 : Nat) : Int)] 29) = Z at *
          change w2.alloc (.cells #[.int .i64 0, .int .u64 0] 29) = Z at hZ
          have B4 := below_put2 (g := w2.heap.size) B3 (by omega) (.int .i64 n) (.int .u64 (m1 : Int))
          have P4 := P3.put n m1
          replace A0 := (A0.other (g' := w2.heap.size) (j := 0) (.int .i64 n) (by omega)).other (g' := w2.heap.size) (j := 1) (.int .u64 (m1 : Int)) (by omega)
          replace A1 := (A1.other (g' := w2.heap.size) (j := 0) (.int .i64 n) (by omega)).other (g' := w2.heap.size) (j := 1) (.int .u64 (m1 : Int)) (by omega)
          replace A2 := (A2.other (g' := w2.heap.size) (j := 0) (.int .i64 n) (by omega)).other (g' := w2.heap.size) (j := 1) (.int .u64 (m1 : Int)) (by omega)
          obtain ⟨z0, z1, z2, z3, z4⟩ := id P3
          obtain ⟨u0, u1, u2, u3, u4⟩ := id A0
          obtain ⟨v0, v1, v2, v3, v4⟩ := id A2
          obtain ⟨x0, x1, x2, x3, x4⟩ := id P4
          go_wp2_with fail
          refine ((CN _).out).mono ?_
          rintro e w3 ⟨rfl, hw3⟩
          have hw3s := hw3.size
          simp only [World.size_setCell] at hw3s
          replace A0 := A0.step hw3
          replace A1 := A1.step hw3
          replace A2 := A2.step hw3
          have P5 := P4.step hw3
          have B5 := below_nxt B4 hw3
          clear hw3 B4 P4 u1 u2 u3 u4 v1 v2 v3 v4 x1 x2 x3 x4 z1 z2 z3 z4 B3 P3
          obtain ⟨x0', x1, x2, x3, x4⟩ := id P5
          have B4 := below_put2 (g := w2.heap.size) B5 (by omega) (.int .i64 n) (.int .u64 (m2 : Int))
          have P4 := P5.put n m2
          replace A0 := (A0.other (g' := w2.heap.size) (j := 0) (.int .i64 n) (by omega)).other (g' := w2.heap.size) (j := 1) (.int .u64 (m2 : Int)) (by omega)
          replace A1 := (A1.other (g' := w2.heap.size) (j := 0) (.int .i64 n) (by omega)).other (g' := w2.heap.size) (j := 1) (.int .u64 (m2 : Int)) (by omega)
          replace A2 := (A2.other (g' := w2.heap.size) (j := 0) (.int .i64 n) (by omega)).other (g' := w2.heap.size) (j := 1) (.int .u64 (m2 : Int)) (by omega)
          obtain ⟨v0', v1, v2, v3, v4⟩ := id A2
          obtain ⟨w0', w1', w2', w3', w4'⟩ := id P4
          go_wp2_with fail
          refine ((CA _).out).mono ?_
          rintro e w4 ⟨rfl, hw4⟩
          replace A0 := A0.step hw4
          replace A1 := A1.step hw4
          replace A2 := A2.step hw4
          have B6 := below_nxt B4 hw4
          obtain ⟨k0, k1, k2, k3, k4⟩ := id A2
          have B7 := below_put2 (g := w1.heap.size) B6 (by omega) (.int .i64 n) (.int .u64 (t' : Int))
          have A3 := A2.put n t'
          replace A0 := (A0.other (g' := w1.heap.size) (j := 0) (.int .i64 n) (by omega)).other (g' := w1.heap.size) (j := 1) (.int .u64 (t' : Int)) (by omega)
          replace A1 := (A1.other (g' := w1.heap.size) (j := 0) (.int .i64 n) (by omega)).other (g' := w1.heap.size) (j := 1) (.int .u64 (t' : Int)) (by omega)
          go_wp2
          go_roundw
          case rel => exact ⟨i + 1, by omega, by go_num, A0, A1, by rw [HT'.out]; exact A3, Lib.hid B7⟩
          case measure => simp [intOf]; omega
        · rw [hvb] at hVB
          have HE := Ic.tup_on hn hin hb hvb
          have CA := fun W => Lib.hid (tAnd_ok n (Ic.tup n c v i) (Tt.col i &&& Tt.full n) W (Tt.w64 hn ht64) (Tt.w64 hn (Nat.lt_of_le_of_lt Nat.and_le_right (Ic.full_fits n))) (Tt.chk_ok hn ht64) (Tt.chk_ok hn (Nat.lt_of_le_of_lt Nat.and_le_right (Ic.full_fits n))))
          rw [← HE] at CA
          have HEE := Lib.hid HE
          clear HE hb hvb ht64
          obtain ⟨t', ht'⟩ : ∃ t', Ic.tup n c v (i + 1) = t' := ⟨_, rfl⟩
          rw [ht'] at CA
          have HT' := Lib.hid ht'
          clear ht'
          generalize Ic.tup n c v i = t at *
          generalize (Tt.col i &&& Tt.full n) = m1 at *
          go_wp2_with fail
          refine ((CV _ HT.out).out).mono ?_
          rintro e w2 ⟨rfl, hw2⟩
          have A0 := R0.step hw2
          have A1 := R1.step hw2
          have A2 := R2.step hw2
          have B2 := below_nxt HW.out hw2
          have hw2s := hw2.size
          clear hw2
          obtain ⟨P3, L5, z3⟩ := tab1_new w2 0 0 29
          replace A0 := A0.step L5
          replace A1 := A1.step L5
          replace A2 := A2.step L5
          have B3 := below_nxt B2 L5
          generalize hZ : w2.alloc (.cells #[.int .i64 0, .int .u64 ((0 : Nat) : Int)] 29) = Z at *
          change w2.alloc (.cells #[.int .i64 0, .int .u64 0] 29) = Z at hZ
          have B4 := below_put2 (g := w2.heap.size) B3 (by omega) (.int .i64 n) (.int .u64 (m1 : Int))
          have P4 := P3.put n m1
          replace A0 := (A0.other (g' := w2.heap.size) (j := 0) (.int .i64 n) (by omega)).other (g' := w2.heap.size) (j := 1) (.int .u64 (m1 : Int)) (by omega)
          replace A1 := (A1.other (g' := w2.heap.size) (j := 0) (.int .i64 n) (by omega)).other (g' := w2.heap.size) (j := 1) (.int .u64 (m1 : Int)) (by omega)
          replace A2 := (A2.other (g' := w2.heap.size) (j := 0) (.int .i64 n) (by omega)).other (g' := w2.heap.size) (j := 1) (.int .u64 (m1 : Int)) (by omega)
          obtain ⟨z0, z1, z2, z3, z4⟩ := id P3
          obtain ⟨u0, u1, u2, u3, u4⟩ := id A0
          obtain ⟨v0, v1, v2, v3, v4⟩ := id A2
          obtain ⟨x0, x1, x2, x3, x4⟩ := id P4
          go_wp2_with fail
          refine ((CA _).out).mono ?_
          rintro e w4 ⟨rfl, hw4⟩
          replace A0 := A0.step hw4
          replace A1 := A1.step hw4
          replace A2 := A2.step hw4
          have B6 := below_nxt B4 hw4
          obtain ⟨k0, k1, k2, k3, k4⟩ := id A2
          have B7 := below_put2 (g := w1.heap.size) B6 (by omega) (.int .i64 n) (.int .u64 (t' : Int))
          have A3 := A2.put n t'
          replace A0 := (A0.other (g' := w1.heap.size) (j := 0) (.int .i64 n) (by omega)).other (g' := w1.heap.size) (j := 1) (.int .u64 (t' : Int)) (by omega)
          replace A1 := (A1.other (g' := w1.heap.size) (j := 0) (.int .i64 n) (by omega)).other (g' := w1.heap.size) (j := 1) (.int .u64 (t' : Int)) (by omega)
          go_wp2
          go_roundw
          case rel => exact ⟨i + 1, by omega, by go_num, A0, A1, by rw [HT'.out]; exact A3, Lib.hid B7⟩
          case measure => simp [intOf]; omega
    · obtain rfl : i = n := by omega
      obtain ⟨t, ht⟩ : ∃ t, Ic.tup i c v i = t := ⟨_, rfl⟩
      rw [ht] at t2
      have HTT := Lib.hid ht
      clear ht R0 R1 R2
      go_wp2
      exact bodyPost_ret (v := .agg #[.int .i64 i, .int .u64 t]) (by simp [results, Tryz.results68, go_sem, s1, s2]) rfl ⟨by rw [HTT.out], by (repeat' (first | exact HW.out | refine Below.setCell ?_ (by first | exact Nat.le_refl _ | (dsimp only; omega) | (simp; omega)) _ | refine Below.drew ?_))⟩
end Go.Proofs.YtahjdmdgkkienaaGreatDoor

