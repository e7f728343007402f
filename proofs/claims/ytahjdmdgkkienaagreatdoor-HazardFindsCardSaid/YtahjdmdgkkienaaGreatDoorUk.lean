/- The contracts of the reference of tables: Opposite, Not, And, Or. -/
import Derived.Test.YtahjdmdgkkienaaGreatDoorUj
import Derived.OwnWalk
namespace Tt
/-- The points below m that a predicate has. -/
def pts (p : Nat → Bool) (m : Nat) : List Nat := (List.range m).filter p
theorem pts_zero (p : Nat → Bool) : pts p 0 = [] := rfl
theorem pts_succ (p : Nat → Bool) (m : Nat) : pts p (m + 1) = if p m then pts p m ++ [m] else pts p m := by
  unfold pts
  rw [List.range_succ, List.filter_append]
  by_cases h : p m = true
  · simp [h]
  · simp [h]
theorem pts_len (p : Nat → Bool) (m : Nat) : (pts p m).length ≤ m := by
  have := List.length_filter_le p (List.range m)
  rw [List.length_range] at this
  exact this
end Tt
namespace Go.Proofs.YtahjdmdgkkienaaGreatDoor
open Go.RowKit
theorem inB_pts (p : Nat → Bool) (m k : Nat) : inB (Tt.pts p m) k = (decide (k < m) && p k) := by
  unfold inB Tt.pts
  rw [Bool.eq_iff_iff, List.contains_iff_mem, List.mem_filter, List.mem_range]
  simp
theorem mk_pts (n : Nat) (p : Nat → Bool) : Tt.mk n (inB (Tt.pts p (2 ^ n))) = Tt.mk n p := by
  refine Tt.same (Tt.mk_lt n _) (Tt.mk_lt n _) fun k hk => ?_
  rw [Tt.mk_bit, Tt.mk_bit, inB_pts]
  simp [hk]
theorem Tryz.infoI64 : (Tryz.prog.info? 3).map (fun i => (i.zero, i.size, i.bytes)) = some (some (.int .i64 0), 1, 8) := by kernel_rfl

theorem i64_one : ∀ m, m < 64 → bits .and .i64 ((m : Nat) : Int) 1 = ((m % 2 : Nat) : Int) := by decide +kernel
theorem has_bit (k i : Nat) (hk : k < 64) : (bits .and .i64 ((k : Int) / 2 ^ i) 1 == 1) = k.testBit i := by
  have e : ((k : Int) / 2 ^ i) = ((k / 2 ^ i : Nat) : Int) := by simp
  rw [e, i64_one _ (Nat.lt_of_le_of_lt (Nat.div_le_self _ _) hk), ← Tt.bit_one]
  rcases Nat.mod_two_eq_zero_or_one (k / 2 ^ i) with h | h <;> rw [h] <;> rfl
theorem rHas_any (k i : Nat) (w : World) (hk : k < 64) (hi : i < 6) : Calls Tryz.prog 71 #[.int .i64 k, .int .i64 i] w fun e w' => e = .returned (.bool (k.testBit i)) ∧ w = w' := by
  have HB := Lib.hid (has_bit k i hk)
  generalize k.testBit i = r at *
  go_enter Tryz.func71, Tryz.ntmps71
  go_wp2
  go_ret
  exact ⟨ret_bool HB.out, rfl⟩
end Go.Proofs.YtahjdmdgkkienaaGreatDoor

