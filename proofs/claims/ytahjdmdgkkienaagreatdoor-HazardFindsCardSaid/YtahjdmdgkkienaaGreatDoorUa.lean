/- The contracts of package truth and of its reference on numbers of points, words and Check. -/
import Derived.WalkKit
import Derived.Lib.Hide
import Derived.Deep.QuietTactic
import Derived.BigQuiet
import Derived.Deep.RegionWith
import Derived.Deep.Light
import Derived.Deep.LoopGhost
import Derived.Deep.RegionHeld3
import Derived.Test.YtahjdmdgkkienaaGreatDoorProg
import Derived.Test.YtahjdmdgkkienaaGreatDoorUp
namespace Go.Proofs.YtahjdmdgkkienaaGreatDoor
open Go.RowKit

theorem ret_bool {a b : Bool} (h : a = b) : Ending.returned (.bool a) = Ending.returned (.bool b) := by rw [h]
theorem ret_int {k : IntKind} {a b : Int} (h : a = b) : Ending.returned (.int k a) = Ending.returned (.int k b) := by rw [h]
theorem seven {n : Int} (h0 : 0 ≤ n) (h1 : n ≤ 6) : n = 0 ∨ n = 1 ∨ n = 2 ∨ n = 3 ∨ n = 4 ∨ n = 5 ∨ n = 6 := by omega

theorem tSize_any (n : Int) (w : World) (h0 : 0 ≤ n) (h1 : n ≤ 6) : Calls Tryz.prog 87 #[.int .i64 n] w fun e w' => e = .returned (.int .i64 ((2 ^ n.toNat : Nat) : Int)) ∧ w = w' := by
  rcases seven h0 h1 with rfl | rfl | rfl | rfl | rfl | rfl | rfl
  all_goals
    go_enter Tryz.func87, Tryz.ntmps87
    go_wp2
    go_ret
    exact ⟨rfl, rfl⟩
theorem tEvery_any (n : Int) (w : World) (h0 : 0 ≤ n) (h1 : n ≤ 6) : Calls Tryz.prog 67 #[.int .i64 n] w fun e w' => e = .returned (.int .u64 ((Tt.full n.toNat : Nat) : Int)) ∧ w = w' := by
  rcases seven h0 h1 with rfl | rfl | rfl | rfl | rfl | rfl | rfl
  all_goals
    go_enter Tryz.func67, Tryz.ntmps67
    go_wp2
    go_ret
    exact ⟨rfl, rfl⟩
theorem tIsN_any (n : Int) (w : World) : Calls Tryz.prog 66 #[.int .i64 n] w fun e w' => e = .returned (.bool (decide (0 ≤ n ∧ n ≤ 6))) ∧ w = w' := by
  go_enter Tryz.func66, Tryz.ntmps66
  go_wp2
  all_goals (go_ret; refine ⟨ret_bool ?_, rfl⟩; go_light; grind)
theorem tIsBelow_any (i n : Int) (w : World) : Calls Tryz.prog 102 #[.int .i64 i, .int .i64 n] w fun e w' => e = .returned (.bool (decide (0 ≤ i ∧ i < n))) ∧ w = w' := by
  go_enter Tryz.func102, Tryz.ntmps102
  go_wp2
  all_goals (go_ret; refine ⟨ret_bool ?_, rfl⟩; go_light; grind)
theorem rSize_any (n : Int) (w : World) (h0 : 0 ≤ n) (h1 : n ≤ 6) : Calls Tryz.prog 44 #[.int .i64 n] w fun e w' => e = .returned (.int .i64 ((2 ^ n.toNat : Nat) : Int)) ∧ w = w' := by
  rcases seven h0 h1 with rfl | rfl | rfl | rfl | rfl | rfl | rfl
  all_goals
    go_enter Tryz.func44, Tryz.ntmps44
    go_wp2
    go_ret
    exact ⟨rfl, rfl⟩
theorem bit_and {b : Nat} (k : Nat) (hb : b < 2 ^ 64) : (bits .and .u64 ((b : Int) / 2 ^ k) 1 == 1) = b.testBit k := by
  have h1 : b / 2 ^ k < 18446744073709551616 := Nat.lt_of_le_of_lt (Nat.div_le_self _ _) (by simpa using hb)
  have e : ((b : Int) / 2 ^ k) = ((b / 2 ^ k : Nat) : Int) := by simp
  have h2 := u64_and_nat (b / 2 ^ k) 1 h1 (by omega)
  rw [e, show (1 : Int) = ((1 : Nat) : Int) from rfl, h2, nat_mask1, ← Tt.bit_one]
  rcases Nat.mod_two_eq_zero_or_one (b / 2 ^ k) with h | h <;> rw [h] <;> rfl
theorem rAt_any (n : Int) (b k : Nat) (w : World) (hb : b < 2 ^ 64) (hk : k < 64) : Calls Tryz.prog 52 #[.agg #[.int .i64 n, .int .u64 b], .int .i64 k] w fun e w' => e = .returned (.bool (b.testBit k)) ∧ Below w.heap.size w w' := by
  have hB0 : Below w.heap.size w (w.alloc (.cells #[.int .i64 n, .int .u64 b] 29)) := (Below.refl _ _).alloc (Nat.le_refl _) _
  have HB := Lib.hid (bit_and k hb)
  generalize b.testBit k = r at *
  go_enter Tryz.func52, Tryz.ntmps52
  go_wp2
  go_ret
  exact ⟨ret_bool HB.out, hB0⟩

/-- A new variable of a table. -/
def TabI (W : World) (g : Nat) (n : Int) (b : Nat) : Prop :=
  g < W.heap.size ∧ W.cell? ⟨g, 0, none⟩ = some (.int .i64 n) ∧ W.cell? ⟨g, 1, none⟩ = some (.int .u64 b) ∧ W.frozen? ⟨g, 0, none⟩ = false ∧ W.frozen? ⟨g, 1, none⟩ = false
theorem TabI.below {W W' : World} {g : Nat} {n : Int} {b : Nat} (h : TabI W g n b) {B : Nat} (hB : g < B) (hb : Below B W W') : TabI W' g n b := by
  obtain ⟨h0, h1, h2, h3, h4⟩ := h
  exact ⟨Nat.lt_of_lt_of_le h0 hb.size, (hb.cell (p := ⟨g, 0, none⟩) hB).trans h1, (hb.cell (p := ⟨g, 1, none⟩) hB).trans h2, (hb.frozen (p := ⟨g, 0, none⟩) hB).trans h3, (hb.frozen (p := ⟨g, 1, none⟩) hB).trans h4⟩
theorem tabI_new (w : World) (n : Int) (b : Nat) (T : TypeId) : TabI (w.alloc (.cells #[.int .i64 n, .int .u64 b] T)) w.heap.size n b := by
  unfold TabI
  simp
theorem and_not {b m : Nat} (hb : b < 2 ^ 64) (hm : m < 2 ^ 64) : bits .andNot .u64 (b : Int) (m : Int) = ((b &&& (18446744073709551615 - m) : Nat) : Int) := u64_andNot_nat b m (by simpa using hb) (by simpa using hm)
theorem chk_word {n : Int} {b : Nat} (h0 : 0 ≤ n) (h1 : n ≤ 6) (hb : b < 2 ^ 64) : (b &&& (18446744073709551615 - Tt.full n.toNat)) = 0 ↔ Tt.chk n b = 0 := by
  have h2 := Tt.outside (b := b) (k := 2 ^ n.toNat) hb (Tt.size_le (by omega))
  rw [Tt.chk_zero]
  have e : 18446744073709551615 - Tt.full n.toNat = 2 ^ 64 - 1 - (2 ^ 2 ^ n.toNat - 1) := by unfold Tt.full; rfl
  rw [e, h2]
  constructor
  · intro h; exact ⟨h0, h1, h⟩
  · intro h; exact h.2.2
theorem chk_three {n : Int} {b : Nat} (h0 : 0 ≤ n) (h1 : n ≤ 6) (hc : ¬ Tt.chk n b = 0) : Tt.chk n b = 3 := by
  unfold Tt.chk at *
  rw [if_neg (by omega)] at *
  split at hc
  · exact absurd rfl hc
  · rename_i h; rw [if_neg h]

set_option maxRecDepth 100000 in
theorem tCheck_any (n : Int) (b : Nat) (w : World) (hb : b < 2 ^ 64) :
    Calls Tryz.prog 72 #[.agg #[.int .i64 n, .int .u64 b]] w fun e w' => e = .returned (.int .i64 (Tt.chk n b)) ∧ Below w.heap.size w w' := by
  have hB0 : Below w.heap.size w (w.alloc (.cells #[.int .i64 n, .int .u64 b] 29)) := (Below.refl _ _).alloc (Nat.le_refl _) _
  have CI := fun W => Lib.hid (tIsN_any n W)
  by_cases hn : 0 ≤ n ∧ n ≤ 6
  · rw [decide_eq_true hn] at CI
    have CE := fun W => Lib.hid (tEvery_any n W hn.1 hn.2)
    have e1 := and_not hb (Tt.full_lt (n := n.toNat) (by omega))
    have HW := Lib.hid (chk_word hn.1 hn.2 hb)
    have HT := Lib.hid (chk_three (b := b) hn.1 hn.2)
    generalize Tt.full n.toNat = m at *
    generalize (b &&& (18446744073709551615 - m)) = v at *
    generalize Tt.chk n b = c at *
    clear hb hn
    have P := tabI_new w n b 29
    generalize hX : w.alloc (.cells #[.int .i64 n, .int .u64 b] 29) = X at *
    obtain ⟨p0, p1, p2, p3, p4⟩ := id P
    clear P
    go_enter Tryz.func72, Tryz.ntmps72
    go_wp2_with (go_at_call 66; refine ((CI _).out).mono ?_; rintro e w1 ⟨rfl, rfl⟩)
    go_region_held3 (fun W => W.cell? ⟨w.heap.size, 0, none⟩ = some (.int .i64 n) ∧ W.cell? ⟨w.heap.size, 1, none⟩ = some (.int .u64 b))
      (first | (go_split_ands; refine ⟨?_, ?_⟩ <;> assumption) | go_keep)
      (first | (go_at_call 67; (with_reducible refine ((CE _).out).mono ?_); rintro e w2 ⟨rfl, rfl⟩))
    go_wp2
    · rename_i hv
      go_ret
      refine ⟨ret_int ?_, hB0.drew⟩
      have h1 : ¬ v = 0 := by simpa using hv
      exact (HT.out (fun h => h1 (HW.out.2 h))).symm
    · rename_i hv
      go_ret
      refine ⟨ret_int ?_, hB0.drew⟩
      have h1 : v = 0 := by simpa using hv
      exact (HW.out.1 h1).symm
  · rw [decide_eq_false hn] at CI
    have hc : Tt.chk n b = 2 := by unfold Tt.chk; rw [if_pos (by omega)]
    rw [hc]
    clear hc hb hn
    go_enter Tryz.func72, Tryz.ntmps72
    go_wp2_with (go_at_call 66; refine ((CI _).out).mono ?_; rintro e w1 ⟨rfl, rfl⟩)
    go_ret
    exact ⟨rfl, hB0⟩

end Go.Proofs.YtahjdmdgkkienaaGreatDoor

