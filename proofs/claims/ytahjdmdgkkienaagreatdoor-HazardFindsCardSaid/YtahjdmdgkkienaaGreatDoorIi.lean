/- The iterator over all cubes: its contract, by induction on the number of variables. -/
import Derived.Test.YtahjdmdgkkienaaGreatDoorIh
import Derived.Shelf.RegionOpen
namespace Ic
theorem flat_snoc (z : Nat) (l : List (Nat × Nat)) (x : Nat × Nat) : (l ++ [x]).flatMap (three z) = l.flatMap (three z) ++ three z x := by simp
end Ic
namespace Go.Proofs.YtahjdmdgkkienaaGreatDoor
open Go.RowKit Go.Shelf
attribute [local go_sem] Oper.semAt_some

theorem idx3_0 (a b c d e f : Value) (w : World) : Sem.run Tryz.prog (Instr.index 133 (.agg #[a, b, c, d, e, f]) (.int .i64 0)) w = .ok (.agg #[a, b]) w := by
  have h : Tryz.prog.underlying 133 = some (.array 3 62) := by kernel_rfl
  simp [Instr.index, run_underlying h, asIntOf, go_sem, Tryz.sizeOf62, Tryz.isAgg62]
theorem idx3_1 (a b c d e f : Value) (w : World) : Sem.run Tryz.prog (Instr.index 133 (.agg #[a, b, c, d, e, f]) (.int .i64 1)) w = .ok (.agg #[c, d]) w := by
  have h : Tryz.prog.underlying 133 = some (.array 3 62) := by kernel_rfl
  simp [Instr.index, run_underlying h, asIntOf, go_sem, Tryz.sizeOf62, Tryz.isAgg62]
theorem idx3_2 (a b c d e f : Value) (w : World) : Sem.run Tryz.prog (Instr.index 133 (.agg #[a, b, c, d, e, f]) (.int .i64 2)) w = .ok (.agg #[e, f]) w := by
  have h : Tryz.prog.underlying 133 = some (.array 3 62) := by kernel_rfl
  simp [Instr.index, run_underlying h, asIntOf, go_sem, Tryz.sizeOf62, Tryz.isAgg62]
attribute [local go_sem] idx3_0 idx3_1 idx3_2

set_option maxRecDepth 100000 in
theorem cubes_zero : CubesIn 0 := by
  intro l B J E0 pre0 W hJ hY hB h0
  refine (callsIn_wide (n := 9)).1 ?_
  refine callsIn_of_wp Tryz.func93 rfl trivial ?_ rfl
  simp only [Tryz.ntmps93, List.size_toArray, List.length_cons, List.length_nil, Nat.reduceAdd, Nat.reduceSub, Array.replicate_succ, Array.replicate_zero, List.push_toArray, List.append_toArray, List.nil_append, List.cons_append]
  obtain ⟨W1, hW1⟩ : ∃ W1, W.alloc (.cells #[.func (.yield l) #[] #[]] 77) = W1 := ⟨_, rfl⟩
  have hb1 : Below W.heap.size W W1 := by rw [← hW1]; exact (Below.refl _ _).alloc (Nat.le_refl _) _
  have hc1 : W1.cell? ⟨W.heap.size, 0, none⟩ = some (.func (.yield l) #[] #[]) := by rw [← hW1]; simp
  have hB1 := (hb1.cell (p := ⟨B, 0, none⟩) (World.block_lt_of_cell? W ⟨B, 0, none⟩ hB)).trans hB
  obtain ⟨fn, tmps, assign, body, hy, hR⟩ := hY 8 pre0 (0, 0) _ W1 (hJ.on hb1 h0) Ic.Fits.zero ⟨[], rfl⟩
  dsimp only [Int.natCast_zero] at hy hR
  gi_wp2
  refine hR.mono ?_
  rintro e W' ⟨rfl, hJ', hl⟩
  gi_wp2
  (try simp only [Exit.inBlock, Exit.then])
  refine bodyPost_ret (results_none rfl _ _ _) rfl ?_
  exact ⟨⟨_, rfl⟩, hJ'⟩

set_option maxHeartbeats 1000000 in
set_option maxRecDepth 100000 in
theorem cubes_succ {k : Nat} (hk : k < 6) (ih : CubesIn k) : CubesIn (k + 1) := by
  intro l B J E0 pre0 W hJ hY hB h0
  refine (callsIn_wide (n := 9)).1 ?_
  refine callsIn_of_wp_marks Tryz.func93 rfl trivial ?_ rfl
  simp only [Tryz.ntmps93, List.size_toArray, List.length_cons, List.length_nil, Nat.reduceAdd, Nat.reduceSub, Array.replicate_succ, Array.replicate_zero, List.push_toArray, List.append_toArray, List.nil_append, List.cons_append]
  have hz64 : 2 ^ k < 64 := Nat.pow_lt_pow_right (a := 2) (n := 6) (by omega) hk
  have hw2 : IntKind.u64.wrap (2 ^ k) = ((2 ^ k : Nat) : Int) := by
    rw [IntKind.wrap_u64]
    rcases (show k = 0 ∨ k = 1 ∨ k = 2 ∨ k = 3 ∨ k = 4 ∨ k = 5 by omega) with rfl | rfl | rfl | rfl | rfl | rfl <;> rfl
  have hkk : ((k + 1 : Nat) : Int) - 1 = (k : Int) := by omega
  have hk0 : (((k + 1 : Nat) : Int) == 0) = false := by simp; omega
  obtain ⟨W1, hW1⟩ : ∃ W1, W.alloc (.cells #[.func (.yield l) #[] #[]] 77) = W1 := ⟨_, rfl⟩
  have hb1 : Below W.heap.size W W1 := by rw [← hW1]; exact (Below.refl _ _).alloc (Nat.le_refl _) _
  have hc1 : W1.cell? ⟨W.heap.size, 0, none⟩ = some (.func (.yield l) #[] #[]) := by rw [← hW1]; simp
  have hz1 : W1.heap.size = W.heap.size + 1 := by rw [← hW1]; simp
  have hB1 := (hb1.cell (p := ⟨B, 0, none⟩) (World.block_lt_of_cell? W ⟨B, 0, none⟩ hB)).trans hB
  obtain ⟨W2, hW2⟩ : ∃ W2, (W1.alloc (.cells #[.int .u64 0] 60)).setCell ⟨W1.heap.size, 0, none⟩ (.int .u64 ((2 ^ k : Nat) : Int)) = W2 := ⟨_, rfl⟩
  have hb2 : Below W1.heap.size W1 W2 := by rw [← hW2]; exact ((Below.refl _ _).alloc (Nat.le_refl _) _).setCell (p := ⟨W1.heap.size, 0, none⟩) (Nat.le_refl _) _
  have hc2 : W2.cell? ⟨W1.heap.size, 0, none⟩ = some (.int .u64 ((2 ^ k : Nat) : Int)) := by rw [← hW2]; exact World.cell?_setCell_same' _ _ _ (by simp)
  have hz2 : W2.heap.size = W.heap.size + 2 := by rw [← hW2]; simp; omega
  rw [hz1] at hW2 hc2
  have hB2 : W2.cell? ⟨B, 0, none⟩ = some (.int .i64 ((k : Int) + 1)) := by
    have := (hb2.cell (p := ⟨B, 0, none⟩) (by have := World.block_lt_of_cell? W ⟨B, 0, none⟩ hB; simp only at this ⊢; omega)).trans hB1
    rw [this]; simp
  have hs2 : W2.cell? ⟨W.heap.size, 0, none⟩ = some (.func (.yield l) #[] #[]) := (hb2.cell (p := ⟨W.heap.size, 0, none⟩) (by simp only; omega)).trans hc1
  have hb02 : Below W.heap.size W W2 := hb1.trans (hb2.mono (by omega))
  have hJ2 := hJ.grow _ _ _ _ hb02 h0
  have hLK := Lib.hid (show Ic.cubesL (k + 1) = (Ic.cubesL k).flatMap (Ic.three (2 ^ k)) from rfl)
  have hFz := Lib.hid (fun (x : Nat × Nat) (h : Ic.Fits k x) (y : Nat × Nat) (hy : y ∈ Ic.three (2 ^ k) x) => (show Ic.Fits (k + 1) y by
    simp only [Ic.three, List.mem_cons, List.not_mem_nil, or_false] at hy
    rcases hy with rfl | rfl | rfl
    · exact h.one
    · exact h.two
    · exact h.tri))
  generalize hZ : (2 ^ k : Nat) = z at *
  gi_wp2_with (refine ⟨trivial, ?_⟩; gi_at_call 79; refine (callsIn_wide.2 (iCubes_any k _)).mono ?_; rintro e w' ⟨rfl, rfl⟩)
  have hB3 : (W2.alloc (.cells #[.int .i64 (k : Int)] 3)).cell? ⟨W.heap.size + 2, 0, none⟩ = some (.int .i64 (k : Int)) := by rw [← hz2]; simp
  have hb3 : Below W2.heap.size W2 (W2.alloc (.cells #[.int .i64 (k : Int)] 3)) := (Below.refl _ _).alloc (Nat.le_refl _) _
  have hz3 : (W2.alloc (.cells #[.int .i64 (k : Int)] 3)).heap.size = W.heap.size + 3 := by simp; omega
  generalize (W2.alloc (.cells #[.int .i64 (k : Int)] 3)) = W3 at *
  have hs3 := (hb3.cell (p := ⟨W.heap.size, 0, none⟩) (by simp only; omega)).trans hs2
  have hc3 := (hb3.cell (p := ⟨W.heap.size + 1, 0, none⟩) (by simp only; omega)).trans hc2
  have hJ3 := hJ.on hb3 hJ2
  refine range_cubes ih 9 (W.heap.size + 2) rfl hB3 (fun p E V => J (pre0 ++ p.flatMap (Ic.three z)) (fun b => E b ∨ b = W.heap.size ∨ b = W.heap.size + 1) V ∧ V.cell? ⟨W.heap.size, 0, none⟩ = some (.func (.yield l) #[] #[]) ∧ V.cell? ⟨W.heap.size + 1, 0, none⟩ = some (.int .u64 (z : Int))) ?bears E0 [] ⟨?start, hs3, hc3⟩
    (fun x Bx => { tmps := #[.func (.yield l) #[] #[], .pointer (some ⟨B, 0, none⟩), .pointer (some ⟨W.heap.size, 0, none⟩), .pointer (some ⟨W.heap.size + 1, 0, none⟩), .pointer (some ⟨Bx, 0, none⟩), undef, undef, .int .i64 ((k : Int) + 1), .bool false, undef, undef, undef, .int .i64 ((k : Int) + 1), .int .i64 (k : Int), .int .u64 (z : Int), .int .i64 ((k : Int) + 1), .int .i64 (k : Int), .func (.func 93) #[] #[.pointer (some ⟨W.heap.size + 2, 0, none⟩)], .agg #[.int .u64 (x.1 : Int), .int .u64 (x.2 : Int)], undef, undef, undef, undef, undef, undef, undef, undef, undef, undef, undef, undef, undef, undef, undef, undef, undef], defers := [] }) ?assign ?body ?done
  case bears =>
    refine ⟨?_, ?_, ?_⟩
    · rintro p E V V' hb ⟨hj, h1, h2⟩
      refine ⟨hJ.less _ _ _ _ (fun b hb => ?_) (hJ.grow _ _ _ _ hb hj), (hb.cell (p := ⟨W.heap.size, 0, none⟩) (World.block_lt_of_cell? V ⟨W.heap.size, 0, none⟩ h1)).trans h1, (hb.cell (p := ⟨W.heap.size + 1, 0, none⟩) (World.block_lt_of_cell? V ⟨W.heap.size + 1, 0, none⟩ h2)).trans h2⟩
      rcases hb with (h | h) | h
      · exact .inl (.inl h)
      · exact .inr h
      · exact .inl (.inr h)
    · rintro p E V l' o o' hN hl hc ⟨hj, h1, h2⟩
      refine ⟨hJ.put _ _ _ _ _ _ (by omega) hl hc hj, (World.cell?_of_block (w := V) (World.putObj_heap_other (by simp only; omega))).trans h1, (World.cell?_of_block (w := V) (World.putObj_heap_other (by simp only; omega))).trans h2⟩
    · rintro p E E' V hs ⟨hj, h1, h2⟩
      refine ⟨hJ.less _ _ _ _ (fun b hb => ?_) hj, h1, h2⟩
      rcases hb with h | h
      · exact .inl (hs b h)
      · exact .inr h
  case start =>
    rw [List.flatMap_nil, List.append_nil]
    refine hJ.less _ _ _ _ (fun b hb => ?_) hJ3
    rcases hb with h | h | h
    · exact .inl h
    · exact .inr (by omega)
    · exact .inr (by omega)
  case assign =>
    intro l' x V K hK
    gi_wp2
    exact hK _ (cub1_new V x.1 x.2 62).2.1 (cub1_new V x.1 x.2 62).1
  case body =>
    rintro l' p x E Bx V ⟨hj, h1, h2⟩ hx hE hcub hlt hpre
    obtain ⟨c0, c1, c2, c3, c4⟩ := id hcub
    clear hB2 hs2 hc2 hJ2 hb02 hB3 hb3 hs3 hc3 hJ3 hb1 hc1 hB1 hW1 hW2 hb2 hB h0
    gi_wp2
    have hx64 : x.1 < 2 ^ 64 ∧ x.2 < 2 ^ 64 := by
      have h1 := hx.1
      have h2 : (2 : Nat) ^ k ≤ 2 ^ 64 := Nat.pow_le_pow_right (by omega) (by omega)
      exact ⟨Nat.lt_of_lt_of_le h1 h2, Ic.Sub.lt hx.2 (Nat.lt_of_lt_of_le h1 h2)⟩
    have HJ := Lib.hid hJ
    have hPRE := Lib.hid hpre
    clear hpre
    have HY := Lib.hid hY
    have HLie := Lib.hid (show Lies (fun b => E b ∨ b = W.heap.size ∨ b = W.heap.size + 1) V V from Lies.refl _ _)
    have hj0 : J (pre0 ++ p.flatMap (Ic.three z) ++ (Ic.three z x).take 0) (fun b => E b ∨ b = W.heap.size ∨ b = W.heap.size + 1) V := by simpa using hj
    have HF := Lib.hid (hFz.out x hx)
    clear hj hJ hY hFz
    gi_loopw [26] (fun s26 wr => ∃ i : Nat, i ≤ 3 ∧ s26 = .int .i64 i ∧ J (pre0 ++ p.flatMap (Ic.three z) ++ (Ic.three z x).take i) (fun b => E b ∨ b = W.heap.size ∨ b = W.heap.size + 1) wr ∧ Lies (fun b => E b ∨ b = W.heap.size ∨ b = W.heap.size + 1) V wr) (fun s26 _ => match s26 with | .int _ n => 3 - n.toNat | _ => 0)
    case atStart => exact ⟨0, by omega, rfl, hj0, HLie.out⟩
    case round =>
      obtain ⟨i, hi3, rfl, hji, hlie⟩ := hrel
      have hsel : i < 3 → ∃ d u : Nat, (∀ w, Sem.run Tryz.prog (Instr.index 133 (.agg #[.int .u64 0, .int .u64 0, .int .u64 (z : Int), .int .u64 0, .int .u64 (z : Int), .int .u64 (z : Int)]) (.int .i64 (i : Int))) w = .ok (.agg #[.int .u64 (d : Int), .int .u64 (u : Int)]) w) ∧ d < 2 ^ 64 ∧ u < 2 ^ 64 ∧ ((Ic.three z x).take (i + 1) = (Ic.three z x).take i ++ [(x.1 ||| d, x.2 ||| u)] ∧ ∃ r, Ic.three z x = (Ic.three z x).take i ++ (x.1 ||| d, x.2 ||| u) :: r) ∧ Ic.Fits (k + 1) (x.1 ||| d, x.2 ||| u) := fun h => by
        rcases (show i = 0 ∨ i = 1 ∨ i = 2 by omega) with rfl | rfl | rfl
        · exact ⟨0, 0, fun w => idx3_0 _ _ _ _ _ _ w, by omega, by omega, ⟨by simp [Ic.three], _, by simp [Ic.three]; rfl⟩, HF.out _ (by simp [Ic.three])⟩
        · exact ⟨z, 0, fun w => idx3_1 _ _ _ _ _ _ w, by omega, by omega, ⟨by simp [Ic.three], _, by simp [Ic.three]; rfl⟩, HF.out _ (by simp [Ic.three])⟩
        · exact ⟨z, z, fun w => idx3_2 _ _ _ _ _ _ w, by omega, by omega, ⟨by simp [Ic.three], _, by simp [Ic.three]; rfl⟩, HF.out _ (by simp [Ic.three])⟩
      have g1 := (hlie.cell (p := ⟨W.heap.size, 0, none⟩) (.inr (.inl rfl)) (by simp only; omega)).trans h1
      have g0 := (hlie.cell (p := ⟨W.heap.size + 1, 0, none⟩) (.inr (.inr rfl)) (by simp only; omega)).trans h2
      have hcubR := hlie.cub (.inl hE) hcub
      have hzw := hlie.1
      clear hj0 h1 h2 hcub c0 c1 c2 c3 c4
      rcases Nat.lt_or_ge i 3 with hi | hi
      · obtain ⟨d, u, hidx, hd64, hu64, ⟨htk, r3, hr3⟩, hfit⟩ := hsel hi
        clear hi3
        have hnext : ∃ rest, pre0 ++ Ic.cubesL (k + 1) = (pre0 ++ p.flatMap (Ic.three z) ++ (Ic.three z x).take i) ++ (x.1 ||| d, x.2 ||| u) :: rest := by
          obtain ⟨rest, hrest⟩ := hPRE.out
          refine ⟨r3 ++ rest.flatMap (Ic.three z), ?_⟩
          rw [List.nil_append] at hrest
          rw [hLK.out, hrest, List.flatMap_append, List.flatMap_cons]
          conv => lhs; rw [hr3]
          simp only [List.append_assoc, List.cons_append]
        clear hr3
        gi_wp2
        obtain ⟨qX, hbX, _⟩ := cub1_new wr d u 62
        generalize (wr.alloc (.cells #[.int .u64 (d : Int), .int .u64 (u : Int)] 62)) = X at *
        have HK := Lib.hid (fun (Y : World) (hY : Below X.heap.size X Y) => (show Y.cell? ⟨W.heap.size, 0, none⟩ = some (.func (.yield l) #[] #[]) ∧ YieldAt Fence.wide 6 Tryz.prog l #[.agg #[.int .u64 ((x.1 ||| d : Nat) : Int), .int .u64 ((x.2 ||| u : Nat) : Int)]] Y fun e W' => e = .returned (.bool true) ∧ J (pre0 ++ p.flatMap (Ic.three z) ++ (Ic.three z x).take (i + 1)) (fun b => E b ∨ b = W.heap.size ∨ b = W.heap.size + 1) W' ∧ Lies (fun b => E b ∨ b = W.heap.size ∨ b = W.heap.size + 1) V W' by
          have hWY : Below wr.heap.size wr Y := hbX.trans (hY.mono hbX.size)
          refine ⟨(hWY.cell (p := ⟨W.heap.size, 0, none⟩) (by simp only; omega)).trans g1, ?_⟩
          refine YieldAt.mono (HY.out 6 _ (x.1 ||| d, x.2 ||| u) _ Y (HJ.out.on hWY hji) hfit hnext) ?_
          rintro e W' ⟨h1, h2, h3⟩
          refine ⟨h1, ?_, (hlie.trans (Lies.below hWY)).trans h3⟩
          rw [htk, ← List.append_assoc]
          exact h2))
        have gX := (hbX.cell (p := ⟨W.heap.size, 0, none⟩) (by simp only; omega)).trans g1
        obtain ⟨c0, c1, c2, c3, c4⟩ := hcubR.step hbX
        obtain ⟨d0, d1, d2, d3, d4⟩ := id qX
        have hmix : Tryz.prog.follows .mixedOrders = true := by kernel_rfl
        have HI := Lib.hid hi
        clear hcubR qX hji hlie g1 hbX hsel htk hidx
        gi_region_with_o (first | (refine ⟨trivial, ?_⟩; gi_at_call 94; refine (CallsIn.inRound l' (callsIn_wide.2 (iJoin_any x.1 x.2 d u _ hx64.1 hx64.2 hd64 hu64))).mono ?_; rintro e Y ⟨rfl, hbY⟩; obtain ⟨g2, fn2, tmps2, assign2, body2, hy, hR⟩ := HK.out Y ((Below.refl _ X).drew.trans hbY)) | (refine RoundIn.mono (show RoundIn (Fence.wide.inRound l') _ _ _ _ _ _ _ _ _ from hR) ?_; rintro e W' ⟨rfl, hJ', hl'⟩))
        all_goals gi_wp2
        all_goals exact ⟨⟨i + 1, HI.out, rfl, hJ', hl'⟩, by have := HI.out; simp only; omega⟩
      · obtain rfl : i = 3 := by omega
        simp only [Int.cast_ofNat_Int]
        gi_wp2
        refine ⟨⟨?_, g1, g0⟩, hlie.less (fun b h => .inl h)⟩
        rw [List.append_assoc] at hji
        simpa [Ic.three] using hji
  case done =>
    rintro V hlt ⟨hj, h1, h2⟩ hK
    gi_wp2
    refine ⟨by simp, .inl ⟨_, _, rfl, run_takeDeferred hK, ?_⟩⟩
    refine ⟨_, results_none rfl _ _ _, ⟨_, rfl⟩, ?_⟩
    rw [hLK.out]
    rw [List.nil_append] at hj
    exact hJ.less _ _ _ _ (fun b hb => .inl hb) (hJ.put _ _ _ _ _ _ (by omega) hK rfl hj)


theorem cubes_any {k : Nat} (hk : k ≤ 6) : CubesIn k := by
  induction k with
  | zero => exact cubes_zero
  | succ k ih => exact cubes_succ (by omega) (ih (by omega))
end Go.Proofs.YtahjdmdgkkienaaGreatDoor

