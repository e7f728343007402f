/- The contracts of package truth: cofactors, values, the connectives. -/
import Derived.Test.YtmmcakeedejbnaaDoorUv
namespace Go.Proofs.YtmmcakeedejbnaaDoor
open Go.RowKit Go.Shelf
theorem six {i : Nat} (h : i < 6) : i = 0 ∨ i = 1 ∨ i = 2 ∨ i = 3 ∨ i = 4 ∨ i = 5 := by omega
theorem spread_up (l q : Nat) (hl : l < 18446744073709551616) : bits .or .u64 (l : Int) (IntKind.u64.wrap ((l : Int) * (q : Int))) = ((l ||| (l * q % 18446744073709551616) : Nat) : Int) := by
  have e : IntKind.u64.wrap ((l : Int) * (q : Int)) = ((l * q % 18446744073709551616 : Nat) : Int) := by
    rw [IntKind.wrap_u64, ← Int.natCast_mul]; omega
  rw [e, u64_or_nat _ _ hl (Nat.mod_lt _ (by omega))]
theorem spread_dn (l q : Nat) (hl : l < 18446744073709551616) : bits .or .u64 (l : Int) ((l : Int) / (q : Int)) = ((l ||| (l / q) : Nat) : Int) := by
  rw [← Int.natCast_ediv, u64_or_nat _ _ hl (Nat.lt_of_le_of_lt (Nat.div_le_self _ _) hl)]
set_option maxRecDepth 100000 in
set_option maxHeartbeats 1600000 in
theorem tCof_any (n : Int) (b i : Nat) (w : World) (hb : b < 2 ^ 64) (hi : i < 6) (hT : ColTab w) (hg : 0 < w.heap.size) : Calls Tryd.prog 66 #[.agg #[.int .i64 n, .int .u64 b], .int .i64 i] w fun e w' => e = .returned (.tuple #[.int .u64 (Tt.lo b i : Int), .int .u64 (Tt.hi b i : Int)]) ∧ Below w.heap.size w w' := by
  have hc := hT i hi
  obtain ⟨P0, L0, z0⟩ := tab1_new w n b 24
  generalize hX : w.alloc (.cells #[.int .i64 n, .int .u64 b] 24) = X at *
  have hcX : X.cell? ⟨0, i, none⟩ = some (.int .u64 (Tt.col i : Int)) := (L0.cell (p := ⟨0, i, none⟩) hg).trans hc
  have hcl := Tt.col_lt i
  have e1 := and_not hb (m := Tt.col i) (by omega)
  have e2 := u64_and_nat b (Tt.col i) (by omega) hcl
  have EL := spread_up (b &&& (18446744073709551615 - Tt.col i)) (2 ^ 2 ^ i) (Tt.and_lt64 _ (by omega))
  have EH := spread_dn (b &&& Tt.col i) (2 ^ 2 ^ i) (Tt.and_lt64 _ hcl)
  change _ = ((Tt.lo b i : Nat) : Int) at EL
  change _ = ((Tt.hi b i : Nat) : Int) at EH
  generalize Tt.lo b i = x at *
  generalize Tt.hi b i = y at *
  generalize b &&& (18446744073709551615 - Tt.col i) = l at *
  generalize b &&& Tt.col i = h at *
  generalize Tt.col i = c at *
  obtain ⟨p0, p1, p2, p3, p4⟩ := P0
  rcases six hi with rfl | rfl | rfl | rfl | rfl | rfl
  · have el : bits .or .u64 (l : Int) (IntKind.u64.wrap ((l : Int) * 2)) = (x : Int) := EL
    have eh : bits .or .u64 (h : Int) ((h : Int) / 2) = (y : Int) := EH
    clear EL EH hT hc
    go_enter Tryd.func66, Tryd.ntmps66
    go_wp2
    go_region_held3 (fun W => W.cell? ⟨0, 0, none⟩ = some (.int .u64 (c : Int)) ∧ W.cell? ⟨w.heap.size, 1, none⟩ = some (.int .u64 b))
      (first | (go_split_ands; refine ⟨?_, ?_⟩ <;> assumption) | go_keep)
      (first | fail)
    go_wp2
    go_region_held3 (fun W => True) (first | trivial) (first | fail)
    go_wp2
    go_ret2
    exact ⟨rfl, L0.drew.drew⟩
  · have el : bits .or .u64 (l : Int) (IntKind.u64.wrap ((l : Int) * 4)) = (x : Int) := EL
    have eh : bits .or .u64 (h : Int) ((h : Int) / 4) = (y : Int) := EH
    clear EL EH hT hc
    go_enter Tryd.func66, Tryd.ntmps66
    go_wp2
    go_region_held3 (fun W => W.cell? ⟨0, 1, none⟩ = some (.int .u64 (c : Int)) ∧ W.cell? ⟨w.heap.size, 1, none⟩ = some (.int .u64 b))
      (first | (go_split_ands; refine ⟨?_, ?_⟩ <;> assumption) | go_keep)
      (first | fail)
    go_wp2
    go_region_held3 (fun W => True) (first | trivial) (first | fail)
    go_wp2
    go_ret2
    exact ⟨rfl, L0.drew.drew⟩
  · have el : bits .or .u64 (l : Int) (IntKind.u64.wrap ((l : Int) * 16)) = (x : Int) := EL
    have eh : bits .or .u64 (h : Int) ((h : Int) / 16) = (y : Int) := EH
    clear EL EH hT hc
    go_enter Tryd.func66, Tryd.ntmps66
    go_wp2
    go_region_held3 (fun W => W.cell? ⟨0, 2, none⟩ = some (.int .u64 (c : Int)) ∧ W.cell? ⟨w.heap.size, 1, none⟩ = some (.int .u64 b))
      (first | (go_split_ands; refine ⟨?_, ?_⟩ <;> assumption) | go_keep)
      (first | fail)
    go_wp2
    go_region_held3 (fun W => True) (first | trivial) (first | fail)
    go_wp2
    go_ret2
    exact ⟨rfl, L0.drew.drew⟩
  · have el : bits .or .u64 (l : Int) (IntKind.u64.wrap ((l : Int) * 256)) = (x : Int) := EL
    have eh : bits .or .u64 (h : Int) ((h : Int) / 256) = (y : Int) := EH
    clear EL EH hT hc
    go_enter Tryd.func66, Tryd.ntmps66
    go_wp2
    go_region_held3 (fun W => W.cell? ⟨0, 3, none⟩ = some (.int .u64 (c : Int)) ∧ W.cell? ⟨w.heap.size, 1, none⟩ = some (.int .u64 b))
      (first | (go_split_ands; refine ⟨?_, ?_⟩ <;> assumption) | go_keep)
      (first | fail)
    go_wp2
    go_region_held3 (fun W => True) (first | trivial) (first | fail)
    go_wp2
    go_ret2
    exact ⟨rfl, L0.drew.drew⟩
  · have el : bits .or .u64 (l : Int) (IntKind.u64.wrap ((l : Int) * 65536)) = (x : Int) := EL
    have eh : bits .or .u64 (h : Int) ((h : Int) / 65536) = (y : Int) := EH
    clear EL EH hT hc
    go_enter Tryd.func66, Tryd.ntmps66
    go_wp2
    go_region_held3 (fun W => W.cell? ⟨0, 4, none⟩ = some (.int .u64 (c : Int)) ∧ W.cell? ⟨w.heap.size, 1, none⟩ = some (.int .u64 b))
      (first | (go_split_ands; refine ⟨?_, ?_⟩ <;> assumption) | go_keep)
      (first | fail)
    go_wp2
    go_region_held3 (fun W => True) (first | trivial) (first | fail)
    go_wp2
    go_ret2
    exact ⟨rfl, L0.drew.drew⟩
  · have el : bits .or .u64 (l : Int) (IntKind.u64.wrap ((l : Int) * 4294967296)) = (x : Int) := EL
    have eh : bits .or .u64 (h : Int) ((h : Int) / 4294967296) = (y : Int) := EH
    clear EL EH hT hc
    go_enter Tryd.func66, Tryd.ntmps66
    go_wp2
    go_region_held3 (fun W => W.cell? ⟨0, 5, none⟩ = some (.int .u64 (c : Int)) ∧ W.cell? ⟨w.heap.size, 1, none⟩ = some (.int .u64 b))
      (first | (go_split_ands; refine ⟨?_, ?_⟩ <;> assumption) | go_keep)
      (first | fail)
    go_wp2
    go_region_held3 (fun W => True) (first | trivial) (first | fail)
    go_wp2
    go_ret2
    exact ⟨rfl, L0.drew.drew⟩

/-- What checkVariable returns. -/
def chkv (n : Int) (b : Nat) (i : Int) : Int := if Tt.chk n b ≠ 0 then Tt.chk n b else if 0 ≤ i ∧ i < n then 0 else 2
theorem chkv_zero {n : Int} {b : Nat} {i : Int} : chkv n b i = 0 ↔ Tt.chk n b = 0 ∧ 0 ≤ i ∧ i < n := by
  unfold chkv
  by_cases h1 : Tt.chk n b ≠ 0
  · rw [if_pos h1]; simp [h1]
  · rw [if_neg h1]
    by_cases h2 : 0 ≤ i ∧ i < n
    · rw [if_pos h2]; simp at h1; simp [h1, h2]
    · rw [if_neg h2]; simp; intro _; omega
set_option maxRecDepth 100000 in
theorem tChkv_any (n : Int) (b : Nat) (i : Int) (w : World) (hb : b < 2 ^ 64) : Calls Tryd.prog 65 #[.agg #[.int .i64 n, .int .u64 b], .int .i64 i] w fun e w' => e = .returned (.int .i64 (chkv n b i)) ∧ Below w.heap.size w w' := by
  have CC := fun W => Lib.hid (tCheck_any n b W hb)
  have CB := fun W => Lib.hid (tIsBelow_any i n W)
  obtain ⟨P0, L0, z0⟩ := tab1_new w n b 24
  generalize hX : w.alloc (.cells #[.int .i64 n, .int .u64 b] 24) = X at *
  obtain ⟨p0, p1, p2, p3, p4⟩ := id P0
  by_cases hc : Tt.chk n b = 0
  · rw [hc] at CC
    by_cases hi : 0 ≤ i ∧ i < n
    · rw [decide_eq_true hi] at CB
      have hk : chkv n b i = 0 := chkv_zero.2 ⟨hc, hi⟩
      rw [hk]
      go_enter Tryd.func65, Tryd.ntmps65
      go_wp2_with (first
        | (go_at_call 19; refine ((CC _).out).mono ?_; rintro e w1 ⟨rfl, hw1⟩; have zw1 := hw1.size; have P0w1 := P0.below (by omega) hw1; obtain ⟨p0aw1, p0bw1, p0cw1, p0dw1, p0ew1⟩ := id P0w1; have Lw1 := L0.trans (hw1.mono (by omega)); clear hw1)
        | (go_at_call 49; refine ((CB _).out).mono ?_; rintro e w2 ⟨rfl, rfl⟩))
      go_ret
      exact ⟨rfl, Lw1⟩
    · rw [decide_eq_false hi] at CB
      have hk : chkv n b i = 2 := by unfold chkv; rw [if_neg (by omega), if_neg hi]
      rw [hk]
      go_enter Tryd.func65, Tryd.ntmps65
      go_wp2_with (first
        | (go_at_call 19; refine ((CC _).out).mono ?_; rintro e w1 ⟨rfl, hw1⟩; have zw1 := hw1.size; have P0w1 := P0.below (by omega) hw1; obtain ⟨p0aw1, p0bw1, p0cw1, p0dw1, p0ew1⟩ := id P0w1; have Lw1 := L0.trans (hw1.mono (by omega)); clear hw1)
        | (go_at_call 49; refine ((CB _).out).mono ?_; rintro e w2 ⟨rfl, rfl⟩))
      go_ret
      exact ⟨rfl, Lw1⟩
  · have hk : chkv n b i = Tt.chk n b := by unfold chkv; rw [if_pos hc]
    rw [hk]
    generalize Tt.chk n b = k at *
    go_enter Tryd.func65, Tryd.ntmps65
    go_wp2_with (go_at_call 19; refine ((CC _).out).mono ?_; rintro e w1 ⟨rfl, hw1⟩; have zw1 := hw1.size; have P0w1 := P0.below (by omega) hw1; obtain ⟨p0aw1, p0bw1, p0cw1, p0dw1, p0ew1⟩ := id P0w1; have Lw1 := L0.trans (hw1.mono (by omega)); clear hw1)
    all_goals (first | (exfalso; rename_i hz; simp at hz; exact hc hz) | (go_ret; exact ⟨rfl, Lw1⟩))
set_option maxRecDepth 100000 in
theorem tValue_ok (n b k : Nat) (w : World) (hn : n ≤ 6) (hb : b < 2 ^ 64) (hc : Tt.chk n b = 0) (hk : k < 2 ^ n) : Calls Tryd.prog 15 #[.agg #[.int .i64 n, .int .u64 b], .int .i64 k] w fun e w' => e = .returned (.tuple #[.bool (b.testBit k), .int .i64 0]) ∧ Below w.heap.size w w' := by
  have CC := fun W => Lib.hid (tCheck_any n b W hb)
  rw [hc] at CC
  have CS := fun W => Lib.hid (tSize_any n W (by omega) (by omega))
  rw [Int.toNat_natCast] at CS
  have hN := Tt.size_le hn
  have HB := Lib.hid (bit_and k hb)
  generalize 2 ^ n = N at *
  have CB := fun W => Lib.hid (tIsBelow_any k N W)
  rw [decide_eq_true (by omega)] at CB
  generalize b.testBit k = r at *
  obtain ⟨P0, L0, z0⟩ := tab1_new w n b 24
  generalize hX : w.alloc (.cells #[.int .i64 n, .int .u64 b] 24) = X at *
  obtain ⟨p0, p1, p2, p3, p4⟩ := id P0
  go_enter Tryd.func15, Tryd.ntmps15
  go_wp2_with (first
    | (go_at_call 19; refine ((CC _).out).mono ?_; rintro e w1 ⟨rfl, hw1⟩; have zw1 := hw1.size; have P0w1 := P0.below (by omega) hw1; obtain ⟨p0aw1, p0bw1, p0cw1, p0dw1, p0ew1⟩ := id P0w1; have Lw1 := L0.trans (hw1.mono (by omega)); clear hw1)
    | (go_at_call 51; refine ((CS _).out).mono ?_; rintro e w2 ⟨rfl, rfl⟩)
    | (go_at_call 49; refine ((CB _).out).mono ?_; rintro e w2 ⟨rfl, rfl⟩))
  go_ret2
  refine ⟨?_, Lw1⟩
  rw [HB.out]; rfl
theorem tValue_bad (n : Int) (b : Nat) (k : Int) (w : World) (hb : b < 2 ^ 64) (e0 : Int) (he : (Tt.chk n b ≠ 0 ∧ e0 = Tt.chk n b) ∨ (Tt.chk n b = 0 ∧ ¬ (0 ≤ k ∧ k < ((2 ^ n.toNat : Nat) : Int)) ∧ e0 = 2)) : Calls Tryd.prog 15 #[.agg #[.int .i64 n, .int .u64 b], .int .i64 k] w fun e w' => e = .returned (.tuple #[.bool false, .int .i64 e0]) ∧ Below w.heap.size w w' := by
  have CC := fun W => Lib.hid (tCheck_any n b W hb)
  obtain ⟨P0, L0, z0⟩ := tab1_new w n b 24
  generalize hX : w.alloc (.cells #[.int .i64 n, .int .u64 b] 24) = X at *
  obtain ⟨p0, p1, p2, p3, p4⟩ := id P0
  rcases he with ⟨h1, rfl⟩ | ⟨h1, h2, rfl⟩
  · generalize Tt.chk n b = c at *
    go_enter Tryd.func15, Tryd.ntmps15
    go_wp2_with (go_at_call 19; refine ((CC _).out).mono ?_; rintro e w1 ⟨rfl, hw1⟩; have zw1 := hw1.size; have P0w1 := P0.below (by omega) hw1; obtain ⟨p0aw1, p0bw1, p0cw1, p0dw1, p0ew1⟩ := id P0w1; have Lw1 := L0.trans (hw1.mono (by omega)); clear hw1)
    all_goals (first | (exfalso; rename_i hz; simp at hz; exact h1 hz) | (go_ret2; exact ⟨rfl, Lw1⟩))
  · rw [h1] at CC
    obtain ⟨n0, n6, _⟩ := Tt.chk_zero.1 h1
    have CS := fun W => Lib.hid (tSize_any n W n0 n6)
    generalize 2 ^ n.toNat = N at *
    have CB := fun W => Lib.hid (tIsBelow_any k N W)
    rw [decide_eq_false h2] at CB
    go_enter Tryd.func15, Tryd.ntmps15
    go_wp2_with (first
      | (go_at_call 19; refine ((CC _).out).mono ?_; rintro e w1 ⟨rfl, hw1⟩; have zw1 := hw1.size; have P0w1 := P0.below (by omega) hw1; obtain ⟨p0aw1, p0bw1, p0cw1, p0dw1, p0ew1⟩ := id P0w1; have Lw1 := L0.trans (hw1.mono (by omega)); clear hw1)
      | (go_at_call 51; refine ((CS _).out).mono ?_; rintro e w2 ⟨rfl, rfl⟩)
      | (go_at_call 49; refine ((CB _).out).mono ?_; rintro e w2 ⟨rfl, rfl⟩))
    go_ret2
    exact ⟨rfl, Lw1⟩

end Go.Proofs.YtmmcakeedejbnaaDoor
