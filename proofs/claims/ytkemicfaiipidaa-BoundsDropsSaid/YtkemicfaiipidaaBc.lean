/- The small functions of both packages of bounds. -/
import Derived.Test.YtkemicfaiipidaaBb
namespace Bn
/-- Is a number in the range of bounds; is it a bound; is it an index? -/
def num (x : Int) : Bool := decide (-64000000 ≤ x) && decide (x ≤ 64000000)
def isB (x : Int) : Bool := x == -1099511627776 || num x
def idx (f n x : Int) : Bool := decide (f ≤ x) && decide (x ≤ n)
def less (a b : Int) : Bool := decide (a ≠ -1099511627776) && (decide (b = -1099511627776) || decide (a < b))
def opp (x : Int) : Int := if x = -1099511627776 then x else -x
theorem less_mn (a b : Int) : (if less a b then a else b) = mn a b := by unfold less mn; grind
end Bn
namespace Go.Proofs.Ytkemicfaiipidaa
open Go.RowKit

theorem bSum_any (a b : Int) (w : World) (ha : -4000000000000 ≤ a ∧ a ≤ 4000000000000) (hb : -4000000000000 ≤ b ∧ b ≤ 4000000000000) :
    Calls Try.prog 73 #[.int .i64 a, .int .i64 b] w fun e w' => e = .returned (.int .i64 (Bn.sm a b)) ∧ w' = w := by
  obtain ⟨ha1, ha2⟩ := ha
  obtain ⟨hb1, hb2⟩ := hb
  go_enter Try.func73, Try.ntmps73
  go_wp2
  all_goals (go_ret; refine ⟨ret_int ?_, rfl⟩; unfold Bn.sm; go_light; grind)
theorem bNum_any (x : Int) (w : World) : Calls Try.prog 37 #[.int .i64 x] w fun e w' => e = .returned (.bool (Bn.num x)) ∧ w' = w := by
  go_enter Try.func37, Try.ntmps37
  go_wp2
  all_goals (go_ret; refine ⟨ret_bool ?_, rfl⟩; unfold Bn.num; go_light; grind)
theorem rIn_any (x : Int) (w : World) : Calls Try.prog 41 #[.int .i64 x] w fun e w' => e = .returned (.bool (Bn.num x)) ∧ w' = w := by
  go_enter Try.func41, Try.ntmps41
  go_wp2
  all_goals (go_ret; refine ⟨ret_bool ?_, rfl⟩; unfold Bn.num; go_light; grind)
theorem bIsB_any (x : Int) (w : World) : Calls Try.prog 65 #[.int .i64 x] w fun e w' => e = .returned (.bool (Bn.isB x)) ∧ w' = w := by
  have C := Lib.hid (bNum_any x w)
  unfold Bn.isB
  generalize Bn.num x = b at *
  by_cases h : x = -1099511627776
  · subst h
    go_enter Try.func65, Try.ntmps65
    go_wp2
    go_ret
    exact ⟨rfl, rfl⟩
  · have e1 : (x == -1099511627776) = false := by simpa using h
    rw [e1]
    clear e1
    go_enter Try.func65, Try.ntmps65
    go_wp2_with (go_at_call 37; refine (C.out).mono ?_; rintro e w1 ⟨rfl, rfl⟩)
    go_ret
    refine ⟨ret_bool ?_, rfl⟩
    go_light
    grind
theorem bSize_any (x : Int) (w : World) : Calls Try.prog 32 #[.int .i64 x] w fun e w' => e = .returned (.bool (Bn.idx 0 12 x)) ∧ w' = w := by
  go_enter Try.func32, Try.ntmps32
  go_wp2
  all_goals (go_ret; refine ⟨ret_bool ?_, rfl⟩; unfold Bn.idx; go_light; grind)
theorem rLess_any (a b : Int) (w : World) : Calls Try.prog 77 #[.int .i64 a, .int .i64 b] w fun e w' => e = .returned (.bool (Bn.less a b)) ∧ w' = w := by
  go_enter Try.func77, Try.ntmps77
  go_wp2
  all_goals (go_ret; refine ⟨ret_bool ?_, rfl⟩; unfold Bn.less; go_light; grind)
theorem rLesser_any (a b : Int) (w : World) : Calls Try.prog 68 #[.int .i64 a, .int .i64 b] w fun e w' => e = .returned (.int .i64 (Bn.mn a b)) ∧ w' = w := by
  have C := Lib.hid (rLess_any a b w)
  rw [← Bn.less_mn a b]
  generalize Bn.less a b = t at *
  go_enter Try.func68, Try.ntmps68
  go_wp2_with (go_at_call 77; refine (C.out).mono ?_; rintro e w1 ⟨rfl, rfl⟩)
  all_goals (go_ret; refine ⟨ret_int ?_, rfl⟩; grind)
theorem rIdx_any (n x : Int) (ao : Option Addr) (len cap : Nat) (w : World) : Calls Try.prog 40 #[.agg #[.int .i64 n, .slice ao len cap], .int .i64 x] w fun e w' => e = .returned (.bool (Bn.idx 0 n x)) ∧ Below w.heap.size w w' := by
  have hB0 : Below w.heap.size w (w.alloc (.cells #[.int .i64 n, .slice ao len cap] 24)) := (Below.refl _ _).alloc (Nat.le_refl _) _
  go_enter Try.func40, Try.ntmps40
  go_wp2
  all_goals (go_ret; refine ⟨ret_bool ?_, hB0⟩; unfold Bn.idx; go_light; grind)
set_option maxHeartbeats 2000000 in
theorem bLower_any (g i j : Nat) (n x : Int) (m : Bn.Mx) (W : World) (hi : i < 13) (hj : j < 13) (hM : MtxI W g n m) :
    Calls Try.prog 39 #[.pointer (some ⟨g, 0, none⟩), .int .i64 i, .int .i64 j, .int .i64 x] W fun e w' => e = .returned (.tuple #[]) ∧ W.grownBy w' (some g) ∧ MtxI w' g n (Bn.up m i j (Bn.mn (m i j) x)) := by
  have HM := Lib.hid hM
  obtain ⟨m0, m1, m2⟩ := hM
  obtain ⟨m3, m4⟩ := m2 i j hi hj
  have HP : Hid (MtxI (W.setCell ⟨g, 1 + i * 13 + j, none⟩ (.int .i64 x)) g n (Bn.up m i j x)) := Lib.hid (HM.out.put hi hj x)
  have HS : Hid (MtxI W g n (Bn.up m i j (m i j))) := Lib.hid (HM.out.congr (fun a b _ _ => by unfold Bn.up; grind))
  clear m2
  generalize m i j = y at *
  have hcase : (Bn.mn y x = x ∧ (y = -1099511627776 ∨ (x ≠ -1099511627776 ∧ x < y))) ∨ (Bn.mn y x = y ∧ y ≠ -1099511627776 ∧ (x = -1099511627776 ∨ y ≤ x)) := by unfold Bn.mn; grind
  rcases hcase with ⟨e, h | ⟨h1, h2⟩⟩ | ⟨e, h1, h | h⟩ <;> rw [e] <;> clear e
  · subst h
    go_enter Try.func39, Try.ntmps39
    go_wp2
    go_end0
    exact ⟨rfl, grown_set (grown_refl _ _), HP.out⟩
  · by_cases h : y = -1099511627776
    · subst h
      go_enter Try.func39, Try.ntmps39
      go_wp2
      go_end0
      exact ⟨rfl, grown_set (grown_refl _ _), HP.out⟩
    · go_enter Try.func39, Try.ntmps39
      go_wp2
      all_goals first | (go_end0; exact ⟨rfl, grown_set (grown_refl _ _), HP.out⟩) | (exfalso; grind)
  · subst h
    go_enter Try.func39, Try.ntmps39
    go_wp2
    all_goals first | (go_end0; exact ⟨rfl, grown_refl _ _, HS.out⟩) | (exfalso; grind)
  · by_cases h3 : x = -1099511627776
    · subst h3
      go_enter Try.func39, Try.ntmps39
      go_wp2
      all_goals first | (go_end0; exact ⟨rfl, grown_refl _ _, HS.out⟩) | (exfalso; grind)
    · go_enter Try.func39, Try.ntmps39
      go_wp2
      all_goals first | (go_end0; exact ⟨rfl, grown_refl _ _, HS.out⟩) | (exfalso; grind)
theorem bLeast_any (g i : Nat) (n : Int) (m : Bn.Mx) (W : World) (hi : i < 13) (hM : MtxI W g n m) (hb : -4000000000000 ≤ m i 0 ∧ m i 0 ≤ 4000000000000) :
    Calls Try.prog 55 #[.pointer (some ⟨g, 0, none⟩), .int .i64 i] W fun e w' => e = .returned (.int .i64 (Bn.opp (m i 0))) ∧ w' = W := by
  obtain ⟨m3, m4⟩ := hM.2.2 i 0 hi (by omega)
  have m0 := hM.1
  rw [Nat.add_zero] at m3 m4
  clear hM
  generalize m i 0 = y at *
  obtain ⟨hb1, hb2⟩ := hb
  go_enter Try.func55, Try.ntmps55
  go_wp2
  all_goals (go_ret; refine ⟨ret_int ?_, rfl⟩; unfold Bn.opp; go_light; grind)
end Go.Proofs.Ytkemicfaiipidaa

