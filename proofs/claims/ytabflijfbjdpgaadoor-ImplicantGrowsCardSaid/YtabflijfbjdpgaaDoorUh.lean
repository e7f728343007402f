/- The contracts of the reference of tables: Check, given, And, Or, Made. -/
import Derived.Test.YtabflijfbjdpgaaDoorUi
import Derived.Test.YtabflijfbjdpgaaDoorUg
import Derived.StillTailTactics
namespace Tt
/-- The table of the points below m. -/
def upto (p : Nat → Bool) (m : Nat) : Nat := (List.range m).foldl (fun a k => if p k then a ||| 2 ^ k else a) 0
theorem upto_zero (p : Nat → Bool) : upto p 0 = 0 := rfl
theorem upto_succ (p : Nat → Bool) (m : Nat) : upto p (m + 1) = if p m then upto p m ||| 2 ^ m else upto p m := by
  unfold upto
  rw [List.range_succ, List.foldl_append, List.foldl_cons, List.foldl_nil]
theorem upto_all (p : Nat → Bool) (n : Nat) : upto p (2 ^ n) = mk n p := rfl
theorem upto_lt (p : Nat → Bool) (m : Nat) : upto p m < 2 ^ m := Nat.lt_pow_two_of_testBit _ fun i hi => by
  have := fold_bit p m i
  unfold upto
  rw [this]; simp; omega
theorem chk_ok {n : Nat} {b : Nat} (hn : n ≤ 6) (hb : b < 2 ^ 2 ^ n) : chk n b = 0 := chk_zero.2 ⟨by omega, by omega, by simpa using hb⟩
/-- The error of two tables. -/
def giv (n : Int) (b : Nat) (m : Int) (c : Nat) : Int := if chk n b ≠ 0 then chk n b else if chk m c ≠ 0 then chk m c else if n = m then 0 else 8
theorem giv_zero {n : Int} {b : Nat} {m : Int} {c : Nat} : giv n b m c = 0 ↔ chk n b = 0 ∧ chk m c = 0 ∧ n = m := by
  unfold giv
  by_cases h1 : chk n b ≠ 0
  · rw [if_pos h1]; simp [h1]
  · rw [if_neg h1]
    by_cases h2 : chk m c ≠ 0
    · rw [if_pos h2]; simp [h2]
    · rw [if_neg h2]
      by_cases h3 : n = m
      · rw [if_pos h3]; subst h3; simp at h1 h2; simp [h1, h2]
      · rw [if_neg h3]; simp [h3]
end Tt
namespace Go.Proofs.YtabflijfbjdpgaaDoor
open Go.RowKit

set_option maxRecDepth 100000 in
theorem rCheck_any (n : Int) (b : Nat) (w : World) (hb : b < 2 ^ 64) : Calls Tryd.prog 66 #[.agg #[.int .i64 n, .int .u64 b]] w fun e w' => e = .returned (.int .i64 (Tt.chk n b)) ∧ Below w.heap.size w w' := by
  have hB0 : Below w.heap.size w (w.alloc (.cells #[.int .i64 n, .int .u64 b] 32)) := (Below.refl _ _).alloc (Nat.le_refl _) _
  have P := tabI_new w n b 32
  generalize hX : w.alloc (.cells #[.int .i64 n, .int .u64 b] 32) = X at *
  obtain ⟨p0, p1, p2, p3, p4⟩ := P
  by_cases hn : 0 ≤ n ∧ n ≤ 6
  · obtain ⟨n0, n6⟩ := hn
    have hN := Tt.size_le (n := n.toNat) (by omega)
    have CS := fun W => Lib.hid (rSize_any n W n0 n6)
    have HB := Lib.hid (fun k => bit_and k hb)
    have HK : Hid ((b < 2 ^ 2 ^ n.toNat → Tt.chk n b = 0) ∧ (¬ b < 2 ^ 2 ^ n.toNat → Tt.chk n b = 3)) := Lib.hid ⟨fun h => Tt.chk_zero.2 ⟨n0, n6, h⟩, fun h => chk_three n0 n6 (fun g => h (Tt.chk_zero.1 g).2.2)⟩
    have HU := Lib.hid (fun (h : ∀ j, 2 ^ n.toNat ≤ j → j < 64 → b.testBit j = false) => Tt.bits_up (x := b) (m := 2 ^ n.toNat) hb (fun k hk hm => h k hm hk))
    generalize 2 ^ n.toNat = N at *
    generalize Tt.chk n b = c at *
    have HC0 := Lib.hid hb
    clear hb
    go_enter Tryd.func66, Tryd.ntmps66
    go_wp2_with (go_at_call 47; refine ((CS _).out).mono ?_; rintro e w1 ⟨rfl, rfl⟩)
    go_loop [3] (fun t => ∃ k : Nat, N ≤ k ∧ k ≤ 64 ∧ t = .int .i64 k ∧ Hid (∀ j, N ≤ j → j < k → b.testBit j = false)) (fun t => 64 - (intOf t).toNat)
    case atStart => exact ⟨N, Nat.le_refl _, hN, rfl, Lib.hid (fun j h1 h2 => by omega)⟩
    case round =>
      obtain ⟨k, hk1, hk2, rfl, HJ⟩ := hrel
      by_cases hlt : k < 64
      · have ht := HB.out k
        cases hbit : b.testBit k
        · rw [hbit] at ht
          have HJ2 : Hid (∀ j, N ≤ j → j < k + 1 → b.testBit j = false) := Lib.hid (fun j h1 h2 => by
            by_cases h : j = k
            · rw [h]; exact hbit
            · exact HJ.out j h1 (by omega))
          clear hbit
          go_wp2
          go_round
          case rel => exact ⟨k + 1, by omega, by omega, by go_num, HJ2⟩
          case measure => simp [intOf]; omega
        · rw [hbit] at ht
          have hc : c = 3 := HK.out.2 (fun h => by
            rw [Nat.testBit_lt_two_pow (Nat.lt_of_lt_of_le h (Nat.pow_le_pow_right (by omega) hk1))] at hbit; cases hbit)
          subst hc
          clear hbit
          go_wp2
          go_ret
          exact ⟨rfl, hB0⟩
      · obtain rfl : k = 64 := by omega
        have hc : c = 0 := HK.out.1 (HU.out HJ.out)
        subst hc
        go_wp2
        go_ret
        exact ⟨rfl, hB0⟩
  · have hc : Tt.chk n b = 2 := by unfold Tt.chk; rw [if_pos (by omega)]
    rw [hc]
    clear hc hb
    by_cases h0 : n < 0
    · go_enter Tryd.func66, Tryd.ntmps66
      go_wp2
      go_ret
      exact ⟨rfl, hB0⟩
    · have h6 : 6 < n := by omega
      have h7 : 0 ≤ n := by omega
      clear hn
      go_enter Tryd.func66, Tryd.ntmps66
      go_wp2
      go_ret
      exact ⟨rfl, hB0⟩


end Go.Proofs.YtabflijfbjdpgaaDoor

