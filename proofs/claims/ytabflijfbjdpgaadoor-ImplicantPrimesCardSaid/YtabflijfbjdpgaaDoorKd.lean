/- All of the reference. -/
import Derived.Test.YtabflijfbjdpgaaDoorKc
import Derived.Test.YtabflijfbjdpgaaDoorIv
import Derived.Test.YtabflijfbjdpgaaDoorJr
import Derived.Test.YtabflijfbjdpgaaDoorJq
namespace Ic
theorem rowR_mem {c k : Nat} {x : Nat × Nat} : x ∈ rowR c k ↔ x.1 = c ∧ x.2 < k ∧ x.2 &&& c = x.2 := by
  obtain ⟨a, b⟩ := x
  unfold rowR
  simp only [List.mem_map, List.mem_filter, List.mem_range, Prod.mk.injEq, beq_iff_eq]
  constructor
  · rintro ⟨v, ⟨h1, h2⟩, rfl, rfl⟩; exact ⟨rfl, h1, h2⟩
  · rintro ⟨rfl, h1, h2⟩; exact ⟨b, ⟨h1, h2⟩, rfl, rfl⟩
theorem cubR_mem {m : Nat} {x : Nat × Nat} : x ∈ cubR m ↔ x.1 < m ∧ x.2 ≤ x.1 ∧ x.2 &&& x.1 = x.2 := by
  unfold cubR
  simp only [List.mem_flatMap, List.mem_range, rowR_mem]
  constructor
  · rintro ⟨c, h1, rfl, h2, h3⟩; exact ⟨h1, by omega, h3⟩
  · rintro ⟨h1, h2, h3⟩; exact ⟨x.1, h1, rfl, by omega, h3⟩
theorem prime_ref {n on fr c v : Nat} (hn : n ≤ 6) (ho : on < 2 ^ 64) (hf : fr < 2 ^ 64) : (tch n on c v && (good n on fr c v && tight n on fr c v n)) = prime n on fr c v := by
  rw [good_imp hn ho hf, Bool.eq_iff_iff, prime_iff, Bool.and_eq_true, Bool.and_eq_true, tch_iff]
/-- The prime implicants in the reference's order. -/
def primesR (n on fr : Nat) : List (Nat × Nat) := (cubR (2 ^ n)).filter fun x => prime n on fr x.1 x.2
theorem filter_take {α : Type} (p : α → Bool) (l : List α) (d : α) {i : Nat} (h : i < l.length) : (l.take (i + 1)).filter p = if p (l.getD i d) then (l.take i).filter p ++ [l.getD i d] else (l.take i).filter p := by
  rw [List.take_add_one, List.getElem?_eq_getElem h, Option.toList_some, List.filter_append, List.getD_eq_getElem?_getD, List.getElem?_eq_getElem h, Option.getD_some]
  by_cases hp : p l[i] = true
  · rw [if_pos hp, List.filter_cons_of_pos hp]; rfl
  · rw [if_neg hp, List.filter_cons_of_neg hp]; simp
end Ic
namespace Go.Proofs.YtabflijfbjdpgaaDoor
open Go.RowKit Go.Shelf

theorem RowC.mono {B B' : Nat} {e : TypeId} {w : World} {v : Value} {l : List (Nat × Nat)} (h : RowC B e w v l) (hb : B' ≤ B) : RowC B' e w v l := by
  rcases h with ⟨h0, h | ⟨g, cap, cur, h1, h2, h3⟩⟩
  · exact ⟨h0, .inl h⟩
  · exact ⟨h0, .inr ⟨g, cap, cur, h1, by omega, h3⟩⟩
theorem RowC.sees {B : Nat} {e : TypeId} {w : World} {v : Value} {l : List (Nat × Nat)} (h : RowC B e w v l) : SeesC w v l := by
  have hc := fun g hg => World.ownsRow.cells h (g := g) hg
  have hlt := World.ownsRow.lt h
  rcases h with ⟨h0, ⟨rfl, h2⟩ | ⟨g, cap, cur, rfl, h1, h2, h3⟩⟩
  · exact .inl ⟨rfl, List.eq_nil_of_length_eq_zero h2⟩
  · have hk := hc g rfl
    refine .inr ⟨g, cap, rfl, by omega, by omega, (hlt g rfl).2, fun i hi => ⟨?_, ?_⟩⟩
    · have := hk (i * 2) (.int .u64 ((l.getD i (0, 0)).1 : Int)) ((Ic.flat_get l i 0 hi (by omega)).trans rfl)
      rwa [addr_add] at this
    · have := hk (i * 2 + 1) (.int .u64 ((l.getD i (0, 0)).2 : Int)) ((Ic.flat_get l i 1 hi (by omega)).trans rfl)
      rwa [addr_add] at this

set_option maxHeartbeats 4000000 in
set_option maxRecDepth 100000 in
theorem rcAll_any (n on : Nat) (m : Int) (fr : Nat) (w : World) (hn : n ≤ 6) (ho : on < 2 ^ 64) (hf : fr < 2 ^ 64) :
    Calls Tryd.prog 71 #[.agg #[.int .i64 n, .int .u64 on, .int .i64 m, .int .u64 fr]] w fun e w' => ∃ v, e = .returned v ∧ RowC w.heap.size 24 w' v (Ic.primesR n on fr) ∧ Below w.heap.size w w' := by
  obtain ⟨i0, hi0, hz0, hz1, hz2⟩ := info_cube
  have CC := fun W => Lib.hid (rcCubes_any n W hn)
  have hlen : (Ic.cubR (2 ^ n)).length ≤ 4096 := Nat.le_trans (Ic.cubR_len _) (Nat.mul_le_mul (Tt.size_le hn) (Tt.size_le hn))
  have HM := Lib.hid (fun i (hi : i < (Ic.cubR (2 ^ n)).length) => show ((Ic.cubR (2 ^ n)).getD i (0, 0)).1 < 2 ^ 64 ∧ ((Ic.cubR (2 ^ n)).getD i (0, 0)).2 < 2 ^ 64 by
    have h := Ic.cubR_mem.1 (Ic.getD_mem hi)
    have hs := Tt.size_le hn
    exact ⟨by omega, by omega⟩)
  have HG := Lib.hid (show Ic.primesR n on fr = (Ic.cubR (2 ^ n)).filter (fun x => Ic.prime n on fr x.1 x.2) from rfl)
  generalize Ic.primesR n on fr = res at *
  generalize Ic.cubR (2 ^ n) = l at *
  have HS := Lib.hid (fun i (hi : i < l.length) => Ic.filter_take (fun x => Ic.prime n on fr x.1 x.2) l (0, 0) hi)
  have HE : Hid ((l.take l.length).filter (fun x => Ic.prime n on fr x.1 x.2) = res) := Lib.hid (by rw [List.take_length, HG.out])
  have HL := Lib.hid (fun i => Nat.le_trans (List.length_filter_le (fun x => Ic.prime n on fr x.1 x.2) (l.take i)) (by rw [List.length_take]; exact Nat.min_le_right _ _))
  have CT := fun i (hi : i < l.length) W => Lib.hid (rcTch_any n on m fr (l.getD i (0, 0)).1 (l.getD i (0, 0)).2 W hn ho (HM.out i hi).1)
  have CG := fun i (hi : i < l.length) W => Lib.hid (rcGood_any n on m fr (l.getD i (0, 0)).1 (l.getD i (0, 0)).2 W hn ho hf (HM.out i hi).1)
  have CW := fun i (hi : i < l.length) W => Lib.hid (rcGrows_any n on m fr (l.getD i (0, 0)).1 (l.getD i (0, 0)).2 W hn ho hf (HM.out i hi).1 (HM.out i hi).2)
  have HP := Lib.hid (fun c v => Ic.prime_ref (c := c) (v := v) hn ho hf)
  have H0 : Hid ((l.take 0).filter (fun x => Ic.prime n on fr x.1 x.2) = []) := Lib.hid (by simp)
  obtain ⟨P0, L0, z0⟩ := task_new w n on m fr 61
  generalize hX : w.alloc (.cells #[.int .i64 n, .int .u64 (on : Int), .int .i64 m, .int .u64 (fr : Int)] 61) = X at *
  have HX0 := Lib.hid L0
  obtain ⟨p0, p1, p2, p3, p4⟩ := id P0
  clear L0 ho hf
  go_enter Tryd.func71, Tryd.ntmps71
  go_wp2_with (go_at_call 91; refine ((CC _).out).mono ?_; rintro e w1 ⟨cv, rfl, hrc, hb⟩; have HB1 := Lib.hid hb; clear hb)
  obtain ⟨ao, cap, rfl, hcap1, hcap2, hcells⟩ := hrc.sees.opened
  have HC := Lib.hid hcells
  clear hrc hcells
  have HP1 := Lib.hid (P0.step HB1.out)
  have HBW := Lib.hid (below_nxt HX0.out HB1.out)
  have hw1 := HB1.out.size
  have hw0 : w.heap.size < w1.heap.size := by omega
  clear p0 p1 p2 p3 p4 P0
  go_loopw [4, 5] (fun s4 s5 wr => ∃ i : Nat, i ≤ l.length ∧ s5 = .int .i64 i ∧ RowC w1.heap.size 24 wr s4 ((l.take i).filter (fun x => Ic.prime n on fr x.1 x.2)) ∧ TaskI wr w.heap.size n on m fr ∧ Hid (Below w1.heap.size w1 wr)) (fun _ s5 _ => l.length - (intOf s5).toNat)
  case atStart => exact ⟨0, Nat.zero_le _, rfl, by rw [H0.out]; exact RowC.nil _ _ _, HP1.out, Lib.hid (Below.refl _ _)⟩
  case round =>
    obtain ⟨i, hi, rfl, hrow, R, HB⟩ := hrel
    by_cases hil : i < l.length
    · obtain ⟨g, rfl, hg, c1, c2⟩ := HC.out.at HB.out hil
      have CTi := CT i hil
      have CGi := CG i hil
      have CWi := CW i hil
      have HSi := Lib.hid (HS.out i hil)
      have hli := HL.out i
      have HPi := Lib.hid (HP.out (l.getD i (0, 0)).1 (l.getD i (0, 0)).2)
      clear HS HL HP CT CG CW H0 HM
      generalize (l.take i).filter (fun x => Ic.prime n on fr x.1 x.2) = q at *
      generalize l.getD i (0, 0) = y at *
      have hq : q.length ≤ 4096 := by omega
      have hwr := HB.out.size
      obtain ⟨r0, r1, r2, r3, r4⟩ := id R
      go_wp2_with (fail)
      obtain ⟨N0, LN, zN⟩ := cub1_new wr y.1 y.2 24
      have R2 := Lib.hid (R.step LN)
      have X2 := Lib.hid N0
      have HB2 := Lib.hid (below_nxt HB.out LN)
      have RW2 := Lib.hid (hrow.below LN (Nat.le_refl _))
      clear R hrow LN N0 r1 r2 r3 r4
      generalize wr.alloc (.cells #[.int .u64 (y.1 : Int), .int .u64 (y.2 : Int)] 24) = V at *
      obtain ⟨r0'', r1, r2, r3, r4⟩ := R2.out
      obtain ⟨x0, x1, x2, x3, x4⟩ := X2.out
      generalize Ic.tch n on y.1 y.2 = q1 at *
      generalize Ic.good n on fr y.1 y.2 = q2 at *
      generalize Ic.tight n on fr y.1 y.2 n = q3 at *
      cases q1 with
      | false =>
        have HF : Hid ((l.take (i + 1)).filter (fun x => Ic.prime n on fr x.1 x.2) = q) := Lib.hid (by rw [HSi.out, ← HPi.out]; rfl)
        clear HSi HPi
        go_wp2_with (first | (go_at_call 92; (with_reducible refine ((CTi _).out).mono ?_); rintro e w3 ⟨rfl, hb⟩; have R3 := Lib.hid (R2.out.step hb); have X3 := Lib.hid (X2.out.step hb); have HB3 := Lib.hid (below_nxt HB2.out hb); have RW3 := Lib.hid (RW2.out.below hb (Nat.le_refl _)); have hz3 := HB3.out.size; clear hb r1 r2 r3 r4 x1 x2 x3 x4; obtain ⟨r0', r1, r2, r3, r4⟩ := R3.out; obtain ⟨x0', x1, x2, x3, x4⟩ := X3.out) | (go_at_call 64; (with_reducible refine ((CGi _).out).mono ?_); rintro e w4 ⟨rfl, hb⟩; have R4 := Lib.hid (R3.out.step hb); have X4 := Lib.hid (X3.out.step hb); have HB4 := Lib.hid (below_nxt HB3.out hb); have RW4 := Lib.hid (RW3.out.below hb (Nat.le_refl _)); have hz4 := HB4.out.size; clear hb r1 r2 r3 r4 x1 x2 x3 x4; obtain ⟨r0', r1, r2, r3, r4⟩ := R4.out; obtain ⟨x0', x1, x2, x3, x4⟩ := X4.out) | (go_at_call 93; (with_reducible refine ((CWi _).out).mono ?_); rintro e w5 ⟨rfl, hb⟩; have R5 := Lib.hid (R4.out.step hb); have X5 := Lib.hid (X4.out.step hb); have HB5 := Lib.hid (below_nxt HB4.out hb); have RW5 := Lib.hid (RW4.out.below hb (Nat.le_refl _)); have hz5 := HB5.out.size; clear hb r1 r2 r3 r4 x1 x2 x3 x4; obtain ⟨r0', r1, r2, r3, r4⟩ := R5.out; obtain ⟨x0', x1, x2, x3, x4⟩ := X5.out) | (at_builtin; refine wpList_append_cub rfl _ _ 66 rfl 24 i0 Tryd.underlying66 hi0 hz0 hz1 hz2 _ q y w5.heap.size rfl rfl w1.heap.size (RW5.out.below ((Below.refl _ _).alloc (Nat.le_refl _) _) (Nat.le_refl _)) (by simp) (by simp) (by omega) (by simp; omega) ?_; intro v5 w6 hr5 hb5))
        exact ⟨⟨i + 1, by omega, rfl, by rw [HF.out]; exact RW3.out, R3.out, HB3⟩, by simp [intOf]; omega⟩
      | true =>
        cases q2 with
        | false =>
          have HF : Hid ((l.take (i + 1)).filter (fun x => Ic.prime n on fr x.1 x.2) = q) := Lib.hid (by rw [HSi.out, ← HPi.out]; rfl)
          clear HSi HPi
          go_wp2_with (first | (go_at_call 92; (with_reducible refine ((CTi _).out).mono ?_); rintro e w3 ⟨rfl, hb⟩; have R3 := Lib.hid (R2.out.step hb); have X3 := Lib.hid (X2.out.step hb); have HB3 := Lib.hid (below_nxt HB2.out hb); have RW3 := Lib.hid (RW2.out.below hb (Nat.le_refl _)); have hz3 := HB3.out.size; clear hb r1 r2 r3 r4 x1 x2 x3 x4; obtain ⟨r0', r1, r2, r3, r4⟩ := R3.out; obtain ⟨x0', x1, x2, x3, x4⟩ := X3.out) | (go_at_call 64; (with_reducible refine ((CGi _).out).mono ?_); rintro e w4 ⟨rfl, hb⟩; have R4 := Lib.hid (R3.out.step hb); have X4 := Lib.hid (X3.out.step hb); have HB4 := Lib.hid (below_nxt HB3.out hb); have RW4 := Lib.hid (RW3.out.below hb (Nat.le_refl _)); have hz4 := HB4.out.size; clear hb r1 r2 r3 r4 x1 x2 x3 x4; obtain ⟨r0', r1, r2, r3, r4⟩ := R4.out; obtain ⟨x0', x1, x2, x3, x4⟩ := X4.out) | (go_at_call 93; (with_reducible refine ((CWi _).out).mono ?_); rintro e w5 ⟨rfl, hb⟩; have R5 := Lib.hid (R4.out.step hb); have X5 := Lib.hid (X4.out.step hb); have HB5 := Lib.hid (below_nxt HB4.out hb); have RW5 := Lib.hid (RW4.out.below hb (Nat.le_refl _)); have hz5 := HB5.out.size; clear hb r1 r2 r3 r4 x1 x2 x3 x4; obtain ⟨r0', r1, r2, r3, r4⟩ := R5.out; obtain ⟨x0', x1, x2, x3, x4⟩ := X5.out) | (at_builtin; refine wpList_append_cub rfl _ _ 66 rfl 24 i0 Tryd.underlying66 hi0 hz0 hz1 hz2 _ q y w5.heap.size rfl rfl w1.heap.size (RW5.out.below ((Below.refl _ _).alloc (Nat.le_refl _) _) (Nat.le_refl _)) (by simp) (by simp) (by omega) (by simp; omega) ?_; intro v5 w6 hr5 hb5))
          exact ⟨⟨i + 1, by omega, rfl, by rw [HF.out]; exact RW4.out, R4.out, HB4⟩, by simp [intOf]; omega⟩
        | true =>
          cases q3 with
          | false =>
            have HF : Hid ((l.take (i + 1)).filter (fun x => Ic.prime n on fr x.1 x.2) = q) := Lib.hid (by rw [HSi.out, ← HPi.out]; rfl)
            clear HSi HPi
            go_wp2_with (first | (go_at_call 92; (with_reducible refine ((CTi _).out).mono ?_); rintro e w3 ⟨rfl, hb⟩; have R3 := Lib.hid (R2.out.step hb); have X3 := Lib.hid (X2.out.step hb); have HB3 := Lib.hid (below_nxt HB2.out hb); have RW3 := Lib.hid (RW2.out.below hb (Nat.le_refl _)); have hz3 := HB3.out.size; clear hb r1 r2 r3 r4 x1 x2 x3 x4; obtain ⟨r0', r1, r2, r3, r4⟩ := R3.out; obtain ⟨x0', x1, x2, x3, x4⟩ := X3.out) | (go_at_call 64; (with_reducible refine ((CGi _).out).mono ?_); rintro e w4 ⟨rfl, hb⟩; have R4 := Lib.hid (R3.out.step hb); have X4 := Lib.hid (X3.out.step hb); have HB4 := Lib.hid (below_nxt HB3.out hb); have RW4 := Lib.hid (RW3.out.below hb (Nat.le_refl _)); have hz4 := HB4.out.size; clear hb r1 r2 r3 r4 x1 x2 x3 x4; obtain ⟨r0', r1, r2, r3, r4⟩ := R4.out; obtain ⟨x0', x1, x2, x3, x4⟩ := X4.out) | (go_at_call 93; (with_reducible refine ((CWi _).out).mono ?_); rintro e w5 ⟨rfl, hb⟩; have R5 := Lib.hid (R4.out.step hb); have X5 := Lib.hid (X4.out.step hb); have HB5 := Lib.hid (below_nxt HB4.out hb); have RW5 := Lib.hid (RW4.out.below hb (Nat.le_refl _)); have hz5 := HB5.out.size; clear hb r1 r2 r3 r4 x1 x2 x3 x4; obtain ⟨r0', r1, r2, r3, r4⟩ := R5.out; obtain ⟨x0', x1, x2, x3, x4⟩ := X5.out) | (at_builtin; refine wpList_append_cub rfl _ _ 66 rfl 24 i0 Tryd.underlying66 hi0 hz0 hz1 hz2 _ q y w5.heap.size rfl rfl w1.heap.size (RW5.out.below ((Below.refl _ _).alloc (Nat.le_refl _) _) (Nat.le_refl _)) (by simp) (by simp) (by omega) (by simp; omega) ?_; intro v5 w6 hr5 hb5))
            exact ⟨⟨i + 1, by omega, rfl, by rw [HF.out]; exact RW5.out, R5.out, HB5⟩, by simp [intOf]; omega⟩
          | true =>
            have HF : Hid ((l.take (i + 1)).filter (fun x => Ic.prime n on fr x.1 x.2) = q ++ [y]) := Lib.hid (by rw [HSi.out, ← HPi.out]; rfl)
            clear HSi HPi
            go_wp2_with (first | (go_at_call 92; (with_reducible refine ((CTi _).out).mono ?_); rintro e w3 ⟨rfl, hb⟩; have R3 := Lib.hid (R2.out.step hb); have X3 := Lib.hid (X2.out.step hb); have HB3 := Lib.hid (below_nxt HB2.out hb); have RW3 := Lib.hid (RW2.out.below hb (Nat.le_refl _)); have hz3 := HB3.out.size; clear hb r1 r2 r3 r4 x1 x2 x3 x4; obtain ⟨r0', r1, r2, r3, r4⟩ := R3.out; obtain ⟨x0', x1, x2, x3, x4⟩ := X3.out) | (go_at_call 64; (with_reducible refine ((CGi _).out).mono ?_); rintro e w4 ⟨rfl, hb⟩; have R4 := Lib.hid (R3.out.step hb); have X4 := Lib.hid (X3.out.step hb); have HB4 := Lib.hid (below_nxt HB3.out hb); have RW4 := Lib.hid (RW3.out.below hb (Nat.le_refl _)); have hz4 := HB4.out.size; clear hb r1 r2 r3 r4 x1 x2 x3 x4; obtain ⟨r0', r1, r2, r3, r4⟩ := R4.out; obtain ⟨x0', x1, x2, x3, x4⟩ := X4.out) | (go_at_call 93; (with_reducible refine ((CWi _).out).mono ?_); rintro e w5 ⟨rfl, hb⟩; have R5 := Lib.hid (R4.out.step hb); have X5 := Lib.hid (X4.out.step hb); have HB5 := Lib.hid (below_nxt HB4.out hb); have RW5 := Lib.hid (RW4.out.below hb (Nat.le_refl _)); have hz5 := HB5.out.size; clear hb r1 r2 r3 r4 x1 x2 x3 x4; obtain ⟨r0', r1, r2, r3, r4⟩ := R5.out; obtain ⟨x0', x1, x2, x3, x4⟩ := X5.out) | (at_builtin; refine wpList_append_cub rfl _ _ 66 rfl 24 i0 Tryd.underlying66 hi0 hz0 hz1 hz2 _ q y w5.heap.size rfl rfl w1.heap.size (RW5.out.below ((Below.refl _ _).alloc (Nat.le_refl _) _) (Nat.le_refl _)) (by simp) (by simp) (by omega) (by simp; omega) ?_; intro v5 w6 hr5 hb5))
            exact ⟨⟨i + 1, by omega, rfl, by rw [HF.out]; exact hr5, (R5.out.step ((Below.refl _ _).alloc (Nat.le_refl _) _)).below hw0 hb5, Lib.hid ((below_nxt HB5.out ((Below.refl _ _).alloc (Nat.le_refl _) _)).trans hb5)⟩, by simp [intOf]; omega⟩
    · obtain rfl : i = l.length := by omega
      rw [HE.out] at hrow
      go_wp2
      exact bodyPost_ret (by simp [results, Tryd.results71, go_sem]) rfl ⟨_, rfl, RowC.mono hrow (by omega), HBW.out.trans (HB.out.mono (by omega))⟩
end Go.Proofs.YtabflijfbjdpgaaDoor
