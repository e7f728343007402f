/- The contracts of package truth: cofactors, values, the connectives. -/
import Derived.Test.YtekeedccgnbkkaaDoorUv
namespace Go.Proofs.YtekeedccgnbkkaaDoor
open Go.RowKit Go.Shelf
theorem six {i : Nat} (h : i < 6) : i = 0 ∨ i = 1 ∨ i = 2 ∨ i = 3 ∨ i = 4 ∨ i = 5 := by omega
theorem spread_up (l q : Nat) (hl : l < 18446744073709551616) : bits .or .u64 (l : Int) (IntKind.u64.wrap ((l : Int) * (q : Int))) = ((l ||| (l * q % 18446744073709551616) : Nat) : Int) := by
  have e : IntKind.u64.wrap ((l : Int) * (q : Int)) = ((l * q % 18446744073709551616 : Nat) : Int) := by
    rw [IntKind.wrap_u64, ← Int.natCast_mul]; omega
  rw [e, u64_or_nat _ _ hl (Nat.mod_lt _ (by omega))]
theorem spread_dn (l q : Nat) (hl : l < 18446744073709551616) : bits .or .u64 (l : Int) ((l : Int) / (q : Int)) = ((l ||| (l / q) : Nat) : Int) := by
  rw [← Int.natCast_ediv, u64_or_nat _ _ hl (Nat.lt_of_le_of_lt (Nat.div_le_self _ _) hl)]
/-- What checkVariable returns. -/
def chkv (n : Int) (b : Nat) (i : Int) : Int := if Tt.chk n b ≠ 0 then Tt.chk n b else if 0 ≤ i ∧ i < n then 0 else 2
theorem chkv_zero {n : Int} {b : Nat} {i : Int} : chkv n b i = 0 ↔ Tt.chk n b = 0 ∧ 0 ≤ i ∧ i < n := by
  unfold chkv
  by_cases h1 : Tt.chk n b ≠ 0
  · rw [if_pos h1]; simp [h1]
  · rw [if_neg h1]
    by_cases h2 : 0 ≤ i ∧ i < n
    · rw [if_pos h2]; simp at h1; simp [h1, h2]
    · rw [if_neg h2]; simp; intro _; omega
set_option maxRecDepth 100000 in
theorem tValue_ok (n b k : Nat) (w : World) (hn : n ≤ 6) (hb : b < 2 ^ 64) (hc : Tt.chk n b = 0) (hk : k < 2 ^ n) : Calls Tryd.prog 11 #[.agg #[.int .i64 n, .int .u64 b], .int .i64 k] w fun e w' => e = .returned (.tuple #[.bool (b.testBit k), .int .i64 0]) ∧ Below w.heap.size w w' := by
  have CC := fun W => Lib.hid (tCheck_any n b W hb)
  rw [hc] at CC
  have CS := fun W => Lib.hid (tSize_any n W (by omega) (by omega))
  rw [Int.toNat_natCast] at CS
  have hN := Tt.size_le hn
  have HB := Lib.hid (bit_and k hb)
  generalize 2 ^ n = N at *
  have CB := fun W => Lib.hid (tIsBelow_any k N W)
  rw [decide_eq_true (by omega)] at CB
  generalize b.testBit k = r at *
  obtain ⟨P0, L0, z0⟩ := tab1_new w n b 29
  generalize hX : w.alloc (.cells #[.int .i64 n, .int .u64 b] 29) = X at *
  obtain ⟨p0, p1, p2, p3, p4⟩ := id P0
  go_enter Tryd.func11, Tryd.ntmps11
  go_wp2_with (first
    | (go_at_call 26; refine ((CC _).out).mono ?_; rintro e w1 ⟨rfl, hw1⟩; have zw1 := hw1.size; have P0w1 := P0.below (by omega) hw1; obtain ⟨p0aw1, p0bw1, p0cw1, p0dw1, p0ew1⟩ := id P0w1; have Lw1 := L0.trans (hw1.mono (by omega)); clear hw1)
    | (go_at_call 28; refine ((CS _).out).mono ?_; rintro e w2 ⟨rfl, rfl⟩)
    | (go_at_call 27; refine ((CB _).out).mono ?_; rintro e w2 ⟨rfl, rfl⟩))
  go_ret2
  refine ⟨?_, Lw1⟩
  rw [HB.out]; rfl
theorem tValue_bad (n : Int) (b : Nat) (k : Int) (w : World) (hb : b < 2 ^ 64) (e0 : Int) (he : (Tt.chk n b ≠ 0 ∧ e0 = Tt.chk n b) ∨ (Tt.chk n b = 0 ∧ ¬ (0 ≤ k ∧ k < ((2 ^ n.toNat : Nat) : Int)) ∧ e0 = 2)) : Calls Tryd.prog 11 #[.agg #[.int .i64 n, .int .u64 b], .int .i64 k] w fun e w' => e = .returned (.tuple #[.bool false, .int .i64 e0]) ∧ Below w.heap.size w w' := by
  have CC := fun W => Lib.hid (tCheck_any n b W hb)
  obtain ⟨P0, L0, z0⟩ := tab1_new w n b 29
  generalize hX : w.alloc (.cells #[.int .i64 n, .int .u64 b] 29) = X at *
  obtain ⟨p0, p1, p2, p3, p4⟩ := id P0
  rcases he with ⟨h1, rfl⟩ | ⟨h1, h2, rfl⟩
  · generalize Tt.chk n b = c at *
    go_enter Tryd.func11, Tryd.ntmps11
    go_wp2_with (go_at_call 26; refine ((CC _).out).mono ?_; rintro e w1 ⟨rfl, hw1⟩; have zw1 := hw1.size; have P0w1 := P0.below (by omega) hw1; obtain ⟨p0aw1, p0bw1, p0cw1, p0dw1, p0ew1⟩ := id P0w1; have Lw1 := L0.trans (hw1.mono (by omega)); clear hw1)
    all_goals (first | (exfalso; rename_i hz; simp at hz; exact h1 hz) | (go_ret2; exact ⟨rfl, Lw1⟩))
  · rw [h1] at CC
    obtain ⟨n0, n6, _⟩ := Tt.chk_zero.1 h1
    have CS := fun W => Lib.hid (tSize_any n W n0 n6)
    generalize 2 ^ n.toNat = N at *
    have CB := fun W => Lib.hid (tIsBelow_any k N W)
    rw [decide_eq_false h2] at CB
    go_enter Tryd.func11, Tryd.ntmps11
    go_wp2_with (first
      | (go_at_call 26; refine ((CC _).out).mono ?_; rintro e w1 ⟨rfl, hw1⟩; have zw1 := hw1.size; have P0w1 := P0.below (by omega) hw1; obtain ⟨p0aw1, p0bw1, p0cw1, p0dw1, p0ew1⟩ := id P0w1; have Lw1 := L0.trans (hw1.mono (by omega)); clear hw1)
      | (go_at_call 28; refine ((CS _).out).mono ?_; rintro e w2 ⟨rfl, rfl⟩)
      | (go_at_call 27; refine ((CB _).out).mono ?_; rintro e w2 ⟨rfl, rfl⟩))
    go_ret2
    exact ⟨rfl, Lw1⟩

end Go.Proofs.YtekeedccgnbkkaaDoor

