/- What a form has while variables change: literal, product and sum of package hazard. What a form has while variables change: sum of package hazard. -/
import Derived.Test.YtahjdmdgkkienaaGreatDoorHA
namespace Go.Proofs.YtahjdmdgkkienaaGreatDoor
open Go.RowKit Go.Shelf

/-- The tables of products and sums. -/
structure Tabs (W : World) : Prop where
  bo : ∀ x y, x ≤ 2 → y ≤ 2 → W.cell? ⟨1, x * 3 + y, none⟩ = some (.int .i64 (Hz.both x y : Nat))
  ei : ∀ x y, x ≤ 2 → y ≤ 2 → W.cell? ⟨0, x * 3 + y, none⟩ = some (.int .i64 (Hz.either x y : Nat))
  h1 : 1 < W.heap.size
  h2 : 0 < W.heap.size
theorem Tabs.next {w W : World} (h : Tabs w) (hb : Below w.heap.size w W) : Tabs W :=
  ⟨fun x y hx hy => (hb.cell (p := ⟨1, x * 3 + y, none⟩) h.h1).trans (h.bo x y hx hy), fun x y hx hy => (hb.cell (p := ⟨0, x * 3 + y, none⟩) h.h2).trans (h.ei x y hx hy), Nat.lt_of_lt_of_le h.h1 hb.size, Nat.lt_of_lt_of_le h.h2 hb.size⟩

theorem bit_i {b : Nat} (k : Nat) (hb : b < 64) : bits .and .i64 ((b : Int) / 2 ^ k) 1 = if b.testBit k then 1 else 0 := by
  have h := has_bit b k hb
  have e : ((b : Int) / 2 ^ k) = ((b / 2 ^ k : Nat) : Int) := by simp
  rw [e] at h ⊢
  rw [i64_one _ (Nat.lt_of_le_of_lt (Nat.div_le_self _ _) hb)] at h ⊢
  cases hk : b.testBit k
  · rw [hk] at h; have := of_decide_eq_false (p := _ = _) h
    rcases Nat.mod_two_eq_zero_or_one (b / 2 ^ k) with h' | h'
    · rw [h']; rfl
    · rw [h'] at this; exact absurd rfl this
  · rw [hk, beq_iff_eq] at h; rw [h]; rfl
/-- A change, laid in a block. -/
def ChI (W : World) (g : Nat) (a b : Int) : Prop :=
  g < W.heap.size ∧ W.cell? ⟨g, 0, none⟩ = some (.int .i64 a) ∧ W.cell? ⟨g, 1, none⟩ = some (.int .i64 b)
theorem ChI.below {W W' : World} {g : Nat} {a b : Int} (h : ChI W g a b) {B : Nat} (hB : g < B) (hb : Below B W W') : ChI W' g a b :=
  ⟨Nat.lt_of_lt_of_le h.1 hb.size, (hb.cell (p := ⟨g, 0, none⟩) hB).trans h.2.1, (hb.cell (p := ⟨g, 1, none⟩) hB).trans h.2.2⟩
theorem ChI.step {W W' : World} {g : Nat} {a b : Int} (h : ChI W g a b) (hb : Below W.heap.size W W') : ChI W' g a b := h.below h.1 hb
theorem chI_new (w : World) (a b : Int) (T : TypeId) : ChI (w.alloc (.cells #[.int .i64 a, .int .i64 b] T)) w.heap.size a b ∧ Below w.heap.size w (w.alloc (.cells #[.int .i64 a, .int .i64 b] T)) ∧ (w.alloc (.cells #[.int .i64 a, .int .i64 b] T)).heap.size = w.heap.size + 1 :=
  ⟨by unfold ChI; simp, (Below.refl _ w).alloc (Nat.le_refl _) _, by simp⟩

set_option maxHeartbeats 4000000 in
set_option maxRecDepth 100000 in
theorem hLit_any (i c v a b : Nat) (w : World) (hi : i < 6) (hv : v < 64) (ha : a < 64) (hb : b < 64) :
    Calls Tryz.prog 70 #[.int .i64 i, .agg #[.int .u64 c, .int .u64 v], .agg #[.int .i64 a, .int .i64 b]] w fun e w' => e = .returned (.int .i64 (Hz.lit v a b i : Nat)) ∧ Below w.heap.size w w' := by
  have e1 := bit_i i ha
  have e2 := bit_i i hb
  have e3 := bit_andI i (b := v) (by omega)
  unfold Hz.lit
  obtain ⟨P0, L0, z0⟩ := cub1_new w c v 62
  generalize hX : w.alloc (.cells #[.int .u64 (c : Int), .int .u64 (v : Int)] 62) = X at *
  obtain ⟨P1, L1, z1⟩ := chI_new X a b 24
  replace P0 := P0.step L1
  replace L0 := Lib.hid (below_nxt L0 L1)
  rw [z0] at P1
  generalize hY : X.alloc (.cells #[.int .i64 (a : Int), .int .i64 (b : Int)] 24) = Y at *
  clear L1 z1
  obtain ⟨p0, p1, p2, -, -⟩ := P0
  obtain ⟨q0, q1, q2⟩ := P1
  clear hv ha hb
  cases hva : v.testBit i <;> cases haa : a.testBit i <;> cases hba : b.testBit i <;> rw [hva] at e3 <;> rw [haa] at e1 <;> rw [hba] at e2 <;> clear hva haa hba
  all_goals
    simp only [Bool.false_eq_true, if_true, if_false] at e1 e2 e3
    go_enter Tryz.func70, Tryz.ntmps70
    go_wp2
    go_quiet (fail)
    go_wp2
    all_goals (go_ret; exact ⟨rfl, L0.out.trans (below_drewN _ _)⟩)

set_option maxHeartbeats 4000000 in
set_option maxRecDepth 100000 in
theorem hProd_any (n c v a b : Nat) (w : World) (hn : n ≤ 6) (hc : c < 2 ^ n) (hv : v < 64) (ha : a < 64) (hb : b < 64) (ht : Tabs w) :
    Calls Tryz.prog 47 #[.int .i64 n, .agg #[.int .u64 c, .int .u64 v], .agg #[.int .i64 a, .int .i64 b]] w fun e w' => e = .returned (.int .i64 (Hz.pr c v a b n : Nat)) ∧ Below w.heap.size w w' := by
  have CL := fun i (hi : i < n) W => Lib.hid (hLit_any i c v a b W (by omega) hv ha hb)
  have hc64 := Ic.w64 hn hc
  obtain ⟨P0, L0, z0⟩ := cub1_new w c v 62
  generalize hX : w.alloc (.cells #[.int .u64 (c : Int), .int .u64 (v : Int)] 62) = X at *
  obtain ⟨P1, L1, z1⟩ := chI_new X a b 24
  replace P0 := P0.step L1
  replace L0 := Lib.hid (below_nxt L0 L1)
  rw [z0] at P1
  generalize hY : X.alloc (.cells #[.int .i64 (a : Int), .int .i64 (b : Int)] 24) = Y at *
  have HT := Lib.hid (ht.next L0.out)
  clear L1 z1 ht hv ha hb hc
  go_enter Tryz.func47, Tryz.ntmps47
  go_wp2
  have hmix : Tryz.prog.follows .mixedOrders = true := by kernel_rfl
  go_loopw [7, 10] (fun s7 s10 wr => ∃ i : Nat, i ≤ n ∧ s10 = .int .i64 i ∧ s7 = .int .i64 (Hz.pr c v a b i : Nat) ∧ Hid (Below Y.heap.size Y wr)) (fun _ s10 _ => n - (intOf s10).toNat)
  case atStart => exact ⟨0, Nat.zero_le _, rfl, rfl, Lib.hid (Below.refl _ _)⟩
  case round =>
    obtain ⟨i, hi, rfl, rfl, HB⟩ := hrel
    obtain ⟨p0, p1, p2, -, -⟩ := P0.step HB.out
    obtain ⟨q0, q1, q2⟩ := P1.step HB.out
    have HTW := HT.out.next HB.out
    by_cases hin : i < n
    · have CLi := CL i hin
      have hle := Hz.pr_le c v a b i
      have hll := Hz.lit_le v a b i
      have hbit := bit_and0 i hc64
      have hS : Hz.pr c v a b (i + 1) = if c.testBit i then Hz.both (Hz.pr c v a b i) (Hz.lit v a b i) else Hz.pr c v a b i := rfl
      have hbit1 : (bits .and .u64 ((c : Int) / 2 ^ i) 1 == 1) = c.testBit i := by
        rw [bit_andI i hc64]; cases c.testBit i <;> rfl
      clear CL
      cases hcb : c.testBit i
      · rw [hcb] at hS hbit1
        have HS := Lib.hid hS
        clear hS hbit hcb
        generalize Hz.pr c v a b i = q at *
        go_wp2
        exact ⟨⟨i + 1, by omega, rfl, by rw [HS.out]; simp, HB⟩, by simp [intOf]; omega⟩
      · rw [hcb] at hS hbit1
        have htab := HTW.bo _ _ hle hll
        have HS := Lib.hid hS
        clear hS hbit hcb
        generalize Hz.pr c v a b i = q at *
        generalize Hz.lit v a b i = x at *
        obtain ⟨y, hy⟩ : ∃ y, Hz.both q x = y := ⟨_, rfl⟩
        rw [hy] at htab
        have HY := Lib.hid hy
        clear hy
        rcases (show q = 0 ∨ q = 1 ∨ q = 2 by omega) with rfl | rfl | rfl <;> rcases (show x = 0 ∨ x = 1 ∨ x = 2 by omega) with rfl | rfl | rfl
        · replace htab : wr.cell? ⟨1, 0, none⟩ = some (.int .i64 (y : Int)) := htab
          go_wp2
          have HD := Lib.hid ((Below.refl wr.heap.size wr).drew)
          have g1 : wr.drew.cell? ⟨w.heap.size, 0, none⟩ = some (.int .u64 (c : Int)) := p1
          have g2 : wr.drew.cell? ⟨w.heap.size, 1, none⟩ = some (.int .u64 (v : Int)) := p2
          have g3 : wr.drew.cell? ⟨w.heap.size + 1, 0, none⟩ = some (.int .i64 (a : Int)) := q1
          have g4 : wr.drew.cell? ⟨w.heap.size + 1, 1, none⟩ = some (.int .i64 (b : Int)) := q2
          have g5 : wr.drew.cell? ⟨1, 0, none⟩ = some (.int .i64 (y : Int)) := htab
          have hg := HTW.h1
          go_region_held3 (fun W => ((W.cell? ⟨w.heap.size, 0, none⟩ = some (.int .u64 (c : Int)) ∧ W.cell? ⟨w.heap.size, 1, none⟩ = some (.int .u64 (v : Int))) ∧ (W.cell? ⟨w.heap.size + 1, 0, none⟩ = some (.int .i64 (a : Int)) ∧ W.cell? ⟨w.heap.size + 1, 1, none⟩ = some (.int .i64 (b : Int)))) ∧ W.cell? ⟨1, 0, none⟩ = some (.int .i64 (y : Int)) ∧ Hid (Below wr.heap.size wr W))
            (first | (refine ⟨⟨⟨?_, ?_⟩, ⟨?_, ?_⟩⟩, ?_, ?_⟩ <;> with_reducible assumption) | (go_split_ands; refine ⟨⟨⟨?_, ?_⟩, ⟨?_, ?_⟩⟩, ?_, ?_⟩ <;> with_reducible assumption))
            (first | (go_at_call 70; (with_reducible refine ((CLi _).out).mono ?_); rintro e w2 ⟨rfl, hw2⟩; have hb2 := below_nxt HD.out hw2; have HB2 := Lib.hid hb2; have k1 := (hb2.cell (p := ⟨w.heap.size, 0, none⟩) p0).trans p1; have k2 := (hb2.cell (p := ⟨w.heap.size, 1, none⟩) p0).trans p2; have k3 := (hb2.cell (p := ⟨w.heap.size + 1, 0, none⟩) q0).trans q1; have k4 := (hb2.cell (p := ⟨w.heap.size + 1, 1, none⟩) q0).trans q2; have k5 := (hb2.cell (p := ⟨1, 0, none⟩) hg).trans htab; clear hb2 hw2))
          go_wp2
          exact ⟨⟨i + 1, by omega, rfl, by rw [HS.out, if_pos trivial, HY.out], Lib.hid (HB.out.trans (HB2.out.mono HB.out.size))⟩, by simp [intOf]; omega⟩
        · replace htab : wr.cell? ⟨1, 1, none⟩ = some (.int .i64 (y : Int)) := htab
          go_wp2
          have HD := Lib.hid ((Below.refl wr.heap.size wr).drew)
          have g1 : wr.drew.cell? ⟨w.heap.size, 0, none⟩ = some (.int .u64 (c : Int)) := p1
          have g2 : wr.drew.cell? ⟨w.heap.size, 1, none⟩ = some (.int .u64 (v : Int)) := p2
          have g3 : wr.drew.cell? ⟨w.heap.size + 1, 0, none⟩ = some (.int .i64 (a : Int)) := q1
          have g4 : wr.drew.cell? ⟨w.heap.size + 1, 1, none⟩ = some (.int .i64 (b : Int)) := q2
          have g5 : wr.drew.cell? ⟨1, 1, none⟩ = some (.int .i64 (y : Int)) := htab
          have hg := HTW.h1
          go_region_held3 (fun W => ((W.cell? ⟨w.heap.size, 0, none⟩ = some (.int .u64 (c : Int)) ∧ W.cell? ⟨w.heap.size, 1, none⟩ = some (.int .u64 (v : Int))) ∧ (W.cell? ⟨w.heap.size + 1, 0, none⟩ = some (.int .i64 (a : Int)) ∧ W.cell? ⟨w.heap.size + 1, 1, none⟩ = some (.int .i64 (b : Int)))) ∧ W.cell? ⟨1, 1, none⟩ = some (.int .i64 (y : Int)) ∧ Hid (Below wr.heap.size wr W))
            (first | (refine ⟨⟨⟨?_, ?_⟩, ⟨?_, ?_⟩⟩, ?_, ?_⟩ <;> with_reducible assumption) | (go_split_ands; refine ⟨⟨⟨?_, ?_⟩, ⟨?_, ?_⟩⟩, ?_, ?_⟩ <;> with_reducible assumption))
            (first | (go_at_call 70; (with_reducible refine ((CLi _).out).mono ?_); rintro e w2 ⟨rfl, hw2⟩; have hb2 := below_nxt HD.out hw2; have HB2 := Lib.hid hb2; have k1 := (hb2.cell (p := ⟨w.heap.size, 0, none⟩) p0).trans p1; have k2 := (hb2.cell (p := ⟨w.heap.size, 1, none⟩) p0).trans p2; have k3 := (hb2.cell (p := ⟨w.heap.size + 1, 0, none⟩) q0).trans q1; have k4 := (hb2.cell (p := ⟨w.heap.size + 1, 1, none⟩) q0).trans q2; have k5 := (hb2.cell (p := ⟨1, 1, none⟩) hg).trans htab; clear hb2 hw2))
          go_wp2
          exact ⟨⟨i + 1, by omega, rfl, by rw [HS.out, if_pos trivial, HY.out], Lib.hid (HB.out.trans (HB2.out.mono HB.out.size))⟩, by simp [intOf]; omega⟩
        · replace htab : wr.cell? ⟨1, 2, none⟩ = some (.int .i64 (y : Int)) := htab
          go_wp2
          have HD := Lib.hid ((Below.refl wr.heap.size wr).drew)
          have g1 : wr.drew.cell? ⟨w.heap.size, 0, none⟩ = some (.int .u64 (c : Int)) := p1
          have g2 : wr.drew.cell? ⟨w.heap.size, 1, none⟩ = some (.int .u64 (v : Int)) := p2
          have g3 : wr.drew.cell? ⟨w.heap.size + 1, 0, none⟩ = some (.int .i64 (a : Int)) := q1
          have g4 : wr.drew.cell? ⟨w.heap.size + 1, 1, none⟩ = some (.int .i64 (b : Int)) := q2
          have g5 : wr.drew.cell? ⟨1, 2, none⟩ = some (.int .i64 (y : Int)) := htab
          have hg := HTW.h1
          go_region_held3 (fun W => ((W.cell? ⟨w.heap.size, 0, none⟩ = some (.int .u64 (c : Int)) ∧ W.cell? ⟨w.heap.size, 1, none⟩ = some (.int .u64 (v : Int))) ∧ (W.cell? ⟨w.heap.size + 1, 0, none⟩ = some (.int .i64 (a : Int)) ∧ W.cell? ⟨w.heap.size + 1, 1, none⟩ = some (.int .i64 (b : Int)))) ∧ W.cell? ⟨1, 2, none⟩ = some (.int .i64 (y : Int)) ∧ Hid (Below wr.heap.size wr W))
            (first | (refine ⟨⟨⟨?_, ?_⟩, ⟨?_, ?_⟩⟩, ?_, ?_⟩ <;> with_reducible assumption) | (go_split_ands; refine ⟨⟨⟨?_, ?_⟩, ⟨?_, ?_⟩⟩, ?_, ?_⟩ <;> with_reducible assumption))
            (first | (go_at_call 70; (with_reducible refine ((CLi _).out).mono ?_); rintro e w2 ⟨rfl, hw2⟩; have hb2 := below_nxt HD.out hw2; have HB2 := Lib.hid hb2; have k1 := (hb2.cell (p := ⟨w.heap.size, 0, none⟩) p0).trans p1; have k2 := (hb2.cell (p := ⟨w.heap.size, 1, none⟩) p0).trans p2; have k3 := (hb2.cell (p := ⟨w.heap.size + 1, 0, none⟩) q0).trans q1; have k4 := (hb2.cell (p := ⟨w.heap.size + 1, 1, none⟩) q0).trans q2; have k5 := (hb2.cell (p := ⟨1, 2, none⟩) hg).trans htab; clear hb2 hw2))
          go_wp2
          exact ⟨⟨i + 1, by omega, rfl, by rw [HS.out, if_pos trivial, HY.out], Lib.hid (HB.out.trans (HB2.out.mono HB.out.size))⟩, by simp [intOf]; omega⟩
        · replace htab : wr.cell? ⟨1, 3, none⟩ = some (.int .i64 (y : Int)) := htab
          go_wp2
          have HD := Lib.hid ((Below.refl wr.heap.size wr).drew)
          have g1 : wr.drew.cell? ⟨w.heap.size, 0, none⟩ = some (.int .u64 (c : Int)) := p1
          have g2 : wr.drew.cell? ⟨w.heap.size, 1, none⟩ = some (.int .u64 (v : Int)) := p2
          have g3 : wr.drew.cell? ⟨w.heap.size + 1, 0, none⟩ = some (.int .i64 (a : Int)) := q1
          have g4 : wr.drew.cell? ⟨w.heap.size + 1, 1, none⟩ = some (.int .i64 (b : Int)) := q2
          have g5 : wr.drew.cell? ⟨1, 3, none⟩ = some (.int .i64 (y : Int)) := htab
          have hg := HTW.h1
          go_region_held3 (fun W => ((W.cell? ⟨w.heap.size, 0, none⟩ = some (.int .u64 (c : Int)) ∧ W.cell? ⟨w.heap.size, 1, none⟩ = some (.int .u64 (v : Int))) ∧ (W.cell? ⟨w.heap.size + 1, 0, none⟩ = some (.int .i64 (a : Int)) ∧ W.cell? ⟨w.heap.size + 1, 1, none⟩ = some (.int .i64 (b : Int)))) ∧ W.cell? ⟨1, 3, none⟩ = some (.int .i64 (y : Int)) ∧ Hid (Below wr.heap.size wr W))
            (first | (refine ⟨⟨⟨?_, ?_⟩, ⟨?_, ?_⟩⟩, ?_, ?_⟩ <;> with_reducible assumption) | (go_split_ands; refine ⟨⟨⟨?_, ?_⟩, ⟨?_, ?_⟩⟩, ?_, ?_⟩ <;> with_reducible assumption))
            (first | (go_at_call 70; (with_reducible refine ((CLi _).out).mono ?_); rintro e w2 ⟨rfl, hw2⟩; have hb2 := below_nxt HD.out hw2; have HB2 := Lib.hid hb2; have k1 := (hb2.cell (p := ⟨w.heap.size, 0, none⟩) p0).trans p1; have k2 := (hb2.cell (p := ⟨w.heap.size, 1, none⟩) p0).trans p2; have k3 := (hb2.cell (p := ⟨w.heap.size + 1, 0, none⟩) q0).trans q1; have k4 := (hb2.cell (p := ⟨w.heap.size + 1, 1, none⟩) q0).trans q2; have k5 := (hb2.cell (p := ⟨1, 3, none⟩) hg).trans htab; clear hb2 hw2))
          go_wp2
          exact ⟨⟨i + 1, by omega, rfl, by rw [HS.out, if_pos trivial, HY.out], Lib.hid (HB.out.trans (HB2.out.mono HB.out.size))⟩, by simp [intOf]; omega⟩
        · replace htab : wr.cell? ⟨1, 4, none⟩ = some (.int .i64 (y : Int)) := htab
          go_wp2
          have HD := Lib.hid ((Below.refl wr.heap.size wr).drew)
          have g1 : wr.drew.cell? ⟨w.heap.size, 0, none⟩ = some (.int .u64 (c : Int)) := p1
          have g2 : wr.drew.cell? ⟨w.heap.size, 1, none⟩ = some (.int .u64 (v : Int)) := p2
          have g3 : wr.drew.cell? ⟨w.heap.size + 1, 0, none⟩ = some (.int .i64 (a : Int)) := q1
          have g4 : wr.drew.cell? ⟨w.heap.size + 1, 1, none⟩ = some (.int .i64 (b : Int)) := q2
          have g5 : wr.drew.cell? ⟨1, 4, none⟩ = some (.int .i64 (y : Int)) := htab
          have hg := HTW.h1
          go_region_held3 (fun W => ((W.cell? ⟨w.heap.size, 0, none⟩ = some (.int .u64 (c : Int)) ∧ W.cell? ⟨w.heap.size, 1, none⟩ = some (.int .u64 (v : Int))) ∧ (W.cell? ⟨w.heap.size + 1, 0, none⟩ = some (.int .i64 (a : Int)) ∧ W.cell? ⟨w.heap.size + 1, 1, none⟩ = some (.int .i64 (b : Int)))) ∧ W.cell? ⟨1, 4, none⟩ = some (.int .i64 (y : Int)) ∧ Hid (Below wr.heap.size wr W))
            (first | (refine ⟨⟨⟨?_, ?_⟩, ⟨?_, ?_⟩⟩, ?_, ?_⟩ <;> with_reducible assumption) | (go_split_ands; refine ⟨⟨⟨?_, ?_⟩, ⟨?_, ?_⟩⟩, ?_, ?_⟩ <;> with_reducible assumption))
            (first | (go_at_call 70; (with_reducible refine ((CLi _).out).mono ?_); rintro e w2 ⟨rfl, hw2⟩; have hb2 := below_nxt HD.out hw2; have HB2 := Lib.hid hb2; have k1 := (hb2.cell (p := ⟨w.heap.size, 0, none⟩) p0).trans p1; have k2 := (hb2.cell (p := ⟨w.heap.size, 1, none⟩) p0).trans p2; have k3 := (hb2.cell (p := ⟨w.heap.size + 1, 0, none⟩) q0).trans q1; have k4 := (hb2.cell (p := ⟨w.heap.size + 1, 1, none⟩) q0).trans q2; have k5 := (hb2.cell (p := ⟨1, 4, none⟩) hg).trans htab; clear hb2 hw2))
          go_wp2
          exact ⟨⟨i + 1, by omega, rfl, by rw [HS.out, if_pos trivial, HY.out], Lib.hid (HB.out.trans (HB2.out.mono HB.out.size))⟩, by simp [intOf]; omega⟩
        · replace htab : wr.cell? ⟨1, 5, none⟩ = some (.int .i64 (y : Int)) := htab
          go_wp2
          have HD := Lib.hid ((Below.refl wr.heap.size wr).drew)
          have g1 : wr.drew.cell? ⟨w.heap.size, 0, none⟩ = some (.int .u64 (c : Int)) := p1
          have g2 : wr.drew.cell? ⟨w.heap.size, 1, none⟩ = some (.int .u64 (v : Int)) := p2
          have g3 : wr.drew.cell? ⟨w.heap.size + 1, 0, none⟩ = some (.int .i64 (a : Int)) := q1
          have g4 : wr.drew.cell? ⟨w.heap.size + 1, 1, none⟩ = some (.int .i64 (b : Int)) := q2
          have g5 : wr.drew.cell? ⟨1, 5, none⟩ = some (.int .i64 (y : Int)) := htab
          have hg := HTW.h1
          go_region_held3 (fun W => ((W.cell? ⟨w.heap.size, 0, none⟩ = some (.int .u64 (c : Int)) ∧ W.cell? ⟨w.heap.size, 1, none⟩ = some (.int .u64 (v : Int))) ∧ (W.cell? ⟨w.heap.size + 1, 0, none⟩ = some (.int .i64 (a : Int)) ∧ W.cell? ⟨w.heap.size + 1, 1, none⟩ = some (.int .i64 (b : Int)))) ∧ W.cell? ⟨1, 5, none⟩ = some (.int .i64 (y : Int)) ∧ Hid (Below wr.heap.size wr W))
            (first | (refine ⟨⟨⟨?_, ?_⟩, ⟨?_, ?_⟩⟩, ?_, ?_⟩ <;> with_reducible assumption) | (go_split_ands; refine ⟨⟨⟨?_, ?_⟩, ⟨?_, ?_⟩⟩, ?_, ?_⟩ <;> with_reducible assumption))
            (first | (go_at_call 70; (with_reducible refine ((CLi _).out).mono ?_); rintro e w2 ⟨rfl, hw2⟩; have hb2 := below_nxt HD.out hw2; have HB2 := Lib.hid hb2; have k1 := (hb2.cell (p := ⟨w.heap.size, 0, none⟩) p0).trans p1; have k2 := (hb2.cell (p := ⟨w.heap.size, 1, none⟩) p0).trans p2; have k3 := (hb2.cell (p := ⟨w.heap.size + 1, 0, none⟩) q0).trans q1; have k4 := (hb2.cell (p := ⟨w.heap.size + 1, 1, none⟩) q0).trans q2; have k5 := (hb2.cell (p := ⟨1, 5, none⟩) hg).trans htab; clear hb2 hw2))
          go_wp2
          exact ⟨⟨i + 1, by omega, rfl, by rw [HS.out, if_pos trivial, HY.out], Lib.hid (HB.out.trans (HB2.out.mono HB.out.size))⟩, by simp [intOf]; omega⟩
        · replace htab : wr.cell? ⟨1, 6, none⟩ = some (.int .i64 (y : Int)) := htab
          go_wp2
          have HD := Lib.hid ((Below.refl wr.heap.size wr).drew)
          have g1 : wr.drew.cell? ⟨w.heap.size, 0, none⟩ = some (.int .u64 (c : Int)) := p1
          have g2 : wr.drew.cell? ⟨w.heap.size, 1, none⟩ = some (.int .u64 (v : Int)) := p2
          have g3 : wr.drew.cell? ⟨w.heap.size + 1, 0, none⟩ = some (.int .i64 (a : Int)) := q1
          have g4 : wr.drew.cell? ⟨w.heap.size + 1, 1, none⟩ = some (.int .i64 (b : Int)) := q2
          have g5 : wr.drew.cell? ⟨1, 6, none⟩ = some (.int .i64 (y : Int)) := htab
          have hg := HTW.h1
          go_region_held3 (fun W => ((W.cell? ⟨w.heap.size, 0, none⟩ = some (.int .u64 (c : Int)) ∧ W.cell? ⟨w.heap.size, 1, none⟩ = some (.int .u64 (v : Int))) ∧ (W.cell? ⟨w.heap.size + 1, 0, none⟩ = some (.int .i64 (a : Int)) ∧ W.cell? ⟨w.heap.size + 1, 1, none⟩ = some (.int .i64 (b : Int)))) ∧ W.cell? ⟨1, 6, none⟩ = some (.int .i64 (y : Int)) ∧ Hid (Below wr.heap.size wr W))
            (first | (refine ⟨⟨⟨?_, ?_⟩, ⟨?_, ?_⟩⟩, ?_, ?_⟩ <;> with_reducible assumption) | (go_split_ands; refine ⟨⟨⟨?_, ?_⟩, ⟨?_, ?_⟩⟩, ?_, ?_⟩ <;> with_reducible assumption))
            (first | (go_at_call 70; (with_reducible refine ((CLi _).out).mono ?_); rintro e w2 ⟨rfl, hw2⟩; have hb2 := below_nxt HD.out hw2; have HB2 := Lib.hid hb2; have k1 := (hb2.cell (p := ⟨w.heap.size, 0, none⟩) p0).trans p1; have k2 := (hb2.cell (p := ⟨w.heap.size, 1, none⟩) p0).trans p2; have k3 := (hb2.cell (p := ⟨w.heap.size + 1, 0, none⟩) q0).trans q1; have k4 := (hb2.cell (p := ⟨w.heap.size + 1, 1, none⟩) q0).trans q2; have k5 := (hb2.cell (p := ⟨1, 6, none⟩) hg).trans htab; clear hb2 hw2))
          go_wp2
          exact ⟨⟨i + 1, by omega, rfl, by rw [HS.out, if_pos trivial, HY.out], Lib.hid (HB.out.trans (HB2.out.mono HB.out.size))⟩, by simp [intOf]; omega⟩
        · replace htab : wr.cell? ⟨1, 7, none⟩ = some (.int .i64 (y : Int)) := htab
          go_wp2
          have HD := Lib.hid ((Below.refl wr.heap.size wr).drew)
          have g1 : wr.drew.cell? ⟨w.heap.size, 0, none⟩ = some (.int .u64 (c : Int)) := p1
          have g2 : wr.drew.cell? ⟨w.heap.size, 1, none⟩ = some (.int .u64 (v : Int)) := p2
          have g3 : wr.drew.cell? ⟨w.heap.size + 1, 0, none⟩ = some (.int .i64 (a : Int)) := q1
          have g4 : wr.drew.cell? ⟨w.heap.size + 1, 1, none⟩ = some (.int .i64 (b : Int)) := q2
          have g5 : wr.drew.cell? ⟨1, 7, none⟩ = some (.int .i64 (y : Int)) := htab
          have hg := HTW.h1
          go_region_held3 (fun W => ((W.cell? ⟨w.heap.size, 0, none⟩ = some (.int .u64 (c : Int)) ∧ W.cell? ⟨w.heap.size, 1, none⟩ = some (.int .u64 (v : Int))) ∧ (W.cell? ⟨w.heap.size + 1, 0, none⟩ = some (.int .i64 (a : Int)) ∧ W.cell? ⟨w.heap.size + 1, 1, none⟩ = some (.int .i64 (b : Int)))) ∧ W.cell? ⟨1, 7, none⟩ = some (.int .i64 (y : Int)) ∧ Hid (Below wr.heap.size wr W))
            (first | (refine ⟨⟨⟨?_, ?_⟩, ⟨?_, ?_⟩⟩, ?_, ?_⟩ <;> with_reducible assumption) | (go_split_ands; refine ⟨⟨⟨?_, ?_⟩, ⟨?_, ?_⟩⟩, ?_, ?_⟩ <;> with_reducible assumption))
            (first | (go_at_call 70; (with_reducible refine ((CLi _).out).mono ?_); rintro e w2 ⟨rfl, hw2⟩; have hb2 := below_nxt HD.out hw2; have HB2 := Lib.hid hb2; have k1 := (hb2.cell (p := ⟨w.heap.size, 0, none⟩) p0).trans p1; have k2 := (hb2.cell (p := ⟨w.heap.size, 1, none⟩) p0).trans p2; have k3 := (hb2.cell (p := ⟨w.heap.size + 1, 0, none⟩) q0).trans q1; have k4 := (hb2.cell (p := ⟨w.heap.size + 1, 1, none⟩) q0).trans q2; have k5 := (hb2.cell (p := ⟨1, 7, none⟩) hg).trans htab; clear hb2 hw2))
          go_wp2
          exact ⟨⟨i + 1, by omega, rfl, by rw [HS.out, if_pos trivial, HY.out], Lib.hid (HB.out.trans (HB2.out.mono HB.out.size))⟩, by simp [intOf]; omega⟩
        · replace htab : wr.cell? ⟨1, 8, none⟩ = some (.int .i64 (y : Int)) := htab
          go_wp2
          have HD := Lib.hid ((Below.refl wr.heap.size wr).drew)
          have g1 : wr.drew.cell? ⟨w.heap.size, 0, none⟩ = some (.int .u64 (c : Int)) := p1
          have g2 : wr.drew.cell? ⟨w.heap.size, 1, none⟩ = some (.int .u64 (v : Int)) := p2
          have g3 : wr.drew.cell? ⟨w.heap.size + 1, 0, none⟩ = some (.int .i64 (a : Int)) := q1
          have g4 : wr.drew.cell? ⟨w.heap.size + 1, 1, none⟩ = some (.int .i64 (b : Int)) := q2
          have g5 : wr.drew.cell? ⟨1, 8, none⟩ = some (.int .i64 (y : Int)) := htab
          have hg := HTW.h1
          go_region_held3 (fun W => ((W.cell? ⟨w.heap.size, 0, none⟩ = some (.int .u64 (c : Int)) ∧ W.cell? ⟨w.heap.size, 1, none⟩ = some (.int .u64 (v : Int))) ∧ (W.cell? ⟨w.heap.size + 1, 0, none⟩ = some (.int .i64 (a : Int)) ∧ W.cell? ⟨w.heap.size + 1, 1, none⟩ = some (.int .i64 (b : Int)))) ∧ W.cell? ⟨1, 8, none⟩ = some (.int .i64 (y : Int)) ∧ Hid (Below wr.heap.size wr W))
            (first | (refine ⟨⟨⟨?_, ?_⟩, ⟨?_, ?_⟩⟩, ?_, ?_⟩ <;> with_reducible assumption) | (go_split_ands; refine ⟨⟨⟨?_, ?_⟩, ⟨?_, ?_⟩⟩, ?_, ?_⟩ <;> with_reducible assumption))
            (first | (go_at_call 70; (with_reducible refine ((CLi _).out).mono ?_); rintro e w2 ⟨rfl, hw2⟩; have hb2 := below_nxt HD.out hw2; have HB2 := Lib.hid hb2; have k1 := (hb2.cell (p := ⟨w.heap.size, 0, none⟩) p0).trans p1; have k2 := (hb2.cell (p := ⟨w.heap.size, 1, none⟩) p0).trans p2; have k3 := (hb2.cell (p := ⟨w.heap.size + 1, 0, none⟩) q0).trans q1; have k4 := (hb2.cell (p := ⟨w.heap.size + 1, 1, none⟩) q0).trans q2; have k5 := (hb2.cell (p := ⟨1, 8, none⟩) hg).trans htab; clear hb2 hw2))
          go_wp2
          exact ⟨⟨i + 1, by omega, rfl, by rw [HS.out, if_pos trivial, HY.out], Lib.hid (HB.out.trans (HB2.out.mono HB.out.size))⟩, by simp [intOf]; omega⟩
    · obtain rfl : i = n := by omega
      go_wp2
      exact bodyPost_ret (by simp [results, Tryz.results47, go_sem]) rfl ⟨rfl, L0.out.trans (HB.out.mono L0.out.size)⟩
end Go.Proofs.YtahjdmdgkkienaaGreatDoor

namespace Hz
theorem sm_at {n a b : Nat} {l : List (Nat × Nat)} {i : Nat} (h : i < l.length) : sm n a b (l.take (i + 1)) = either (sm n a b (l.take i)) (pr (l.getD i (0, 0)).1 (l.getD i (0, 0)).2 a b n) := by
  rw [take_at h, sm_snoc]
end Hz
namespace Go.Proofs.YtahjdmdgkkienaaGreatDoor
open Go.RowKit Go.Shelf

set_option maxHeartbeats 4000000 in
set_option maxRecDepth 100000 in
theorem hSum_any (n : Nat) (l : List (Nat × Nat)) (sv : Value) (a b : Nat) (w : World) (hn : n ≤ 6) (ho : Hz.Ok n l) (hs : SeesO w sv l) (ha : a < 64) (hb : b < 64) (ht : Tabs w) :
    Calls Tryz.prog 25 #[.int .i64 n, sv, .agg #[.int .i64 a, .int .i64 b]] w fun e w' => e = .returned (.int .i64 (Hz.sm n a b l : Nat)) ∧ Below w.heap.size w w' := by
  obtain ⟨ao, cap, rfl, hcap1, hcap2, hcells⟩ := hs.opened
  have HC := Lib.hid hcells
  have CP := fun i (hi : i < l.length) W h => Lib.hid (hProd_any n (l.getD i (0, 0)).1 (l.getD i (0, 0)).2 a b W hn (ho _ (Hz.getD_mem hi)).1 (Ic.p64 hn ((ho _ (Hz.getD_mem hi)).2.lt (ho _ (Hz.getD_mem hi)).1)) ha hb h)
  have HS := Lib.hid (fun i (hi : i < l.length) => Hz.sm_at (n := n) (a := a) (b := b) hi)
  have HE : Hid (Hz.sm n a b (l.take l.length) = Hz.sm n a b l) := Lib.hid (by rw [List.take_length])
  have HL := Lib.hid (fun i => Hz.sm_le n a b (l.take i))
  obtain ⟨P1, L1, z1⟩ := chI_new w a b 24
  generalize hY : w.alloc (.cells #[.int .i64 (a : Int), .int .i64 (b : Int)] 24) = Y at *
  have L0 := Lib.hid L1
  have HT := Lib.hid (ht.next L1)
  clear L1 z1 ht ha hb hs hcells ho
  have hmix : Tryz.prog.follows .mixedOrders = true := by kernel_rfl
  go_enter Tryz.func25, Tryz.ntmps25
  go_wp2
  go_loopw [7, 12] (fun s7 s12 wr => ∃ i : Nat, i ≤ l.length ∧ s12 = .int .i64 i ∧ s7 = .int .i64 (Hz.sm n a b (l.take i) : Nat) ∧ Hid (Below Y.heap.size Y wr)) (fun _ s12 _ => l.length - (intOf s12).toNat)
  case atStart => exact ⟨0, Nat.zero_le _, rfl, rfl, Lib.hid (Below.refl _ _)⟩
  case round =>
    obtain ⟨i, hi, rfl, rfl, HB⟩ := hrel
    by_cases hil : i < l.length
    · obtain ⟨g, off, rfl, hg, d1, d2⟩ := HC.out.at (L0.out.trans (HB.out.mono L0.out.size)) hil
      have CPi := CP i hil
      have hS := HS.out i hil
      have hle := HL.out i
      have hll := Hz.pr_le (l.getD i (0, 0)).1 (l.getD i (0, 0)).2 a b n
      clear CP HS HL
      generalize Hz.sm n a b (l.take i) = q at *
      generalize Hz.pr (l.getD i (0, 0)).1 (l.getD i (0, 0)).2 a b n = x at *
      generalize l.getD i (0, 0) = r at *
      obtain ⟨P2, L2, z2⟩ := cub1_new wr r.1 r.2 62
      obtain ⟨q0, q1, q2⟩ := (P1.step HB.out).step L2
      have HTW := (HT.out.next HB.out).next L2
      have HB1 := Lib.hid (below_nxt HB.out L2)
      obtain ⟨p0, p1, p2, -, -⟩ := P2
      have htab := HTW.ei _ _ hle hll
      have HS := Lib.hid hS
      obtain ⟨y, hy⟩ : ∃ y, Hz.either q x = y := ⟨_, rfl⟩
      rw [hy] at htab
      have HY := Lib.hid hy
      have HTV := Lib.hid HTW
      clear hy hS L2
      go_wp2
      generalize hV : wr.alloc (.cells #[.int .u64 (r.1 : Int), .int .u64 (r.2 : Int)] 62) = V at *
      rcases (show q = 0 ∨ q = 1 ∨ q = 2 by omega) with rfl | rfl | rfl <;> rcases (show x = 0 ∨ x = 1 ∨ x = 2 by omega) with rfl | rfl | rfl
      · replace htab : V.cell? ⟨0, 0, none⟩ = some (.int .i64 (y : Int)) := htab
        have HD := Lib.hid ((Below.refl V.heap.size V).drew)
        have g1 : V.drew.cell? ⟨wr.heap.size, 0, none⟩ = some (.int .u64 (r.1 : Int)) := p1
        have g2 : V.drew.cell? ⟨wr.heap.size, 1, none⟩ = some (.int .u64 (r.2 : Int)) := p2
        have g3 : V.drew.cell? ⟨w.heap.size, 0, none⟩ = some (.int .i64 (a : Int)) := q1
        have g4 : V.drew.cell? ⟨w.heap.size, 1, none⟩ = some (.int .i64 (b : Int)) := q2
        have g5 : V.drew.cell? ⟨0, 0, none⟩ = some (.int .i64 (y : Int)) := htab
        have hg := HTW.h2
        go_region_held3 (fun W => ((W.cell? ⟨wr.heap.size, 0, none⟩ = some (.int .u64 (r.1 : Int)) ∧ W.cell? ⟨wr.heap.size, 1, none⟩ = some (.int .u64 (r.2 : Int))) ∧ (W.cell? ⟨w.heap.size, 0, none⟩ = some (.int .i64 (a : Int)) ∧ W.cell? ⟨w.heap.size, 1, none⟩ = some (.int .i64 (b : Int)))) ∧ W.cell? ⟨0, 0, none⟩ = some (.int .i64 (y : Int)) ∧ Hid (Below V.heap.size V W))
          (first | (refine ⟨⟨⟨?_, ?_⟩, ⟨?_, ?_⟩⟩, ?_, ?_⟩ <;> with_reducible assumption) | (go_split_ands; refine ⟨⟨⟨?_, ?_⟩, ⟨?_, ?_⟩⟩, ?_, ?_⟩ <;> with_reducible assumption))
          (first | (go_at_call 47; (with_reducible refine ((CPi _ (HTV.out.next HD.out)).out).mono ?_); rintro e w2 ⟨rfl, hw2⟩; have hb2 := below_nxt HD.out hw2; have HB2 := Lib.hid hb2; have k1 := (hb2.cell (p := ⟨wr.heap.size, 0, none⟩) p0).trans p1; have k2 := (hb2.cell (p := ⟨wr.heap.size, 1, none⟩) p0).trans p2; have k3 := (hb2.cell (p := ⟨w.heap.size, 0, none⟩) q0).trans q1; have k4 := (hb2.cell (p := ⟨w.heap.size, 1, none⟩) q0).trans q2; have k5 := (hb2.cell (p := ⟨0, 0, none⟩) hg).trans htab; clear hb2 hw2))
        go_wp2
        exact ⟨⟨i + 1, by omega, rfl, by rw [HS.out, HY.out], Lib.hid (HB1.out.trans (HB2.out.mono HB1.out.size))⟩, by simp [intOf]; omega⟩
      · replace htab : V.cell? ⟨0, 1, none⟩ = some (.int .i64 (y : Int)) := htab
        have HD := Lib.hid ((Below.refl V.heap.size V).drew)
        have g1 : V.drew.cell? ⟨wr.heap.size, 0, none⟩ = some (.int .u64 (r.1 : Int)) := p1
        have g2 : V.drew.cell? ⟨wr.heap.size, 1, none⟩ = some (.int .u64 (r.2 : Int)) := p2
        have g3 : V.drew.cell? ⟨w.heap.size, 0, none⟩ = some (.int .i64 (a : Int)) := q1
        have g4 : V.drew.cell? ⟨w.heap.size, 1, none⟩ = some (.int .i64 (b : Int)) := q2
        have g5 : V.drew.cell? ⟨0, 1, none⟩ = some (.int .i64 (y : Int)) := htab
        have hg := HTW.h2
        go_region_held3 (fun W => ((W.cell? ⟨wr.heap.size, 0, none⟩ = some (.int .u64 (r.1 : Int)) ∧ W.cell? ⟨wr.heap.size, 1, none⟩ = some (.int .u64 (r.2 : Int))) ∧ (W.cell? ⟨w.heap.size, 0, none⟩ = some (.int .i64 (a : Int)) ∧ W.cell? ⟨w.heap.size, 1, none⟩ = some (.int .i64 (b : Int)))) ∧ W.cell? ⟨0, 1, none⟩ = some (.int .i64 (y : Int)) ∧ Hid (Below V.heap.size V W))
          (first | (refine ⟨⟨⟨?_, ?_⟩, ⟨?_, ?_⟩⟩, ?_, ?_⟩ <;> with_reducible assumption) | (go_split_ands; refine ⟨⟨⟨?_, ?_⟩, ⟨?_, ?_⟩⟩, ?_, ?_⟩ <;> with_reducible assumption))
          (first | (go_at_call 47; (with_reducible refine ((CPi _ (HTV.out.next HD.out)).out).mono ?_); rintro e w2 ⟨rfl, hw2⟩; have hb2 := below_nxt HD.out hw2; have HB2 := Lib.hid hb2; have k1 := (hb2.cell (p := ⟨wr.heap.size, 0, none⟩) p0).trans p1; have k2 := (hb2.cell (p := ⟨wr.heap.size, 1, none⟩) p0).trans p2; have k3 := (hb2.cell (p := ⟨w.heap.size, 0, none⟩) q0).trans q1; have k4 := (hb2.cell (p := ⟨w.heap.size, 1, none⟩) q0).trans q2; have k5 := (hb2.cell (p := ⟨0, 1, none⟩) hg).trans htab; clear hb2 hw2))
        go_wp2
        exact ⟨⟨i + 1, by omega, rfl, by rw [HS.out, HY.out], Lib.hid (HB1.out.trans (HB2.out.mono HB1.out.size))⟩, by simp [intOf]; omega⟩
      · replace htab : V.cell? ⟨0, 2, none⟩ = some (.int .i64 (y : Int)) := htab
        have HD := Lib.hid ((Below.refl V.heap.size V).drew)
        have g1 : V.drew.cell? ⟨wr.heap.size, 0, none⟩ = some (.int .u64 (r.1 : Int)) := p1
        have g2 : V.drew.cell? ⟨wr.heap.size, 1, none⟩ = some (.int .u64 (r.2 : Int)) := p2
        have g3 : V.drew.cell? ⟨w.heap.size, 0, none⟩ = some (.int .i64 (a : Int)) := q1
        have g4 : V.drew.cell? ⟨w.heap.size, 1, none⟩ = some (.int .i64 (b : Int)) := q2
        have g5 : V.drew.cell? ⟨0, 2, none⟩ = some (.int .i64 (y : Int)) := htab
        have hg := HTW.h2
        go_region_held3 (fun W => ((W.cell? ⟨wr.heap.size, 0, none⟩ = some (.int .u64 (r.1 : Int)) ∧ W.cell? ⟨wr.heap.size, 1, none⟩ = some (.int .u64 (r.2 : Int))) ∧ (W.cell? ⟨w.heap.size, 0, none⟩ = some (.int .i64 (a : Int)) ∧ W.cell? ⟨w.heap.size, 1, none⟩ = some (.int .i64 (b : Int)))) ∧ W.cell? ⟨0, 2, none⟩ = some (.int .i64 (y : Int)) ∧ Hid (Below V.heap.size V W))
          (first | (refine ⟨⟨⟨?_, ?_⟩, ⟨?_, ?_⟩⟩, ?_, ?_⟩ <;> with_reducible assumption) | (go_split_ands; refine ⟨⟨⟨?_, ?_⟩, ⟨?_, ?_⟩⟩, ?_, ?_⟩ <;> with_reducible assumption))
          (first | (go_at_call 47; (with_reducible refine ((CPi _ (HTV.out.next HD.out)).out).mono ?_); rintro e w2 ⟨rfl, hw2⟩; have hb2 := below_nxt HD.out hw2; have HB2 := Lib.hid hb2; have k1 := (hb2.cell (p := ⟨wr.heap.size, 0, none⟩) p0).trans p1; have k2 := (hb2.cell (p := ⟨wr.heap.size, 1, none⟩) p0).trans p2; have k3 := (hb2.cell (p := ⟨w.heap.size, 0, none⟩) q0).trans q1; have k4 := (hb2.cell (p := ⟨w.heap.size, 1, none⟩) q0).trans q2; have k5 := (hb2.cell (p := ⟨0, 2, none⟩) hg).trans htab; clear hb2 hw2))
        go_wp2
        exact ⟨⟨i + 1, by omega, rfl, by rw [HS.out, HY.out], Lib.hid (HB1.out.trans (HB2.out.mono HB1.out.size))⟩, by simp [intOf]; omega⟩
      · replace htab : V.cell? ⟨0, 3, none⟩ = some (.int .i64 (y : Int)) := htab
        have HD := Lib.hid ((Below.refl V.heap.size V).drew)
        have g1 : V.drew.cell? ⟨wr.heap.size, 0, none⟩ = some (.int .u64 (r.1 : Int)) := p1
        have g2 : V.drew.cell? ⟨wr.heap.size, 1, none⟩ = some (.int .u64 (r.2 : Int)) := p2
        have g3 : V.drew.cell? ⟨w.heap.size, 0, none⟩ = some (.int .i64 (a : Int)) := q1
        have g4 : V.drew.cell? ⟨w.heap.size, 1, none⟩ = some (.int .i64 (b : Int)) := q2
        have g5 : V.drew.cell? ⟨0, 3, none⟩ = some (.int .i64 (y : Int)) := htab
        have hg := HTW.h2
        go_region_held3 (fun W => ((W.cell? ⟨wr.heap.size, 0, none⟩ = some (.int .u64 (r.1 : Int)) ∧ W.cell? ⟨wr.heap.size, 1, none⟩ = some (.int .u64 (r.2 : Int))) ∧ (W.cell? ⟨w.heap.size, 0, none⟩ = some (.int .i64 (a : Int)) ∧ W.cell? ⟨w.heap.size, 1, none⟩ = some (.int .i64 (b : Int)))) ∧ W.cell? ⟨0, 3, none⟩ = some (.int .i64 (y : Int)) ∧ Hid (Below V.heap.size V W))
          (first | (refine ⟨⟨⟨?_, ?_⟩, ⟨?_, ?_⟩⟩, ?_, ?_⟩ <;> with_reducible assumption) | (go_split_ands; refine ⟨⟨⟨?_, ?_⟩, ⟨?_, ?_⟩⟩, ?_, ?_⟩ <;> with_reducible assumption))
          (first | (go_at_call 47; (with_reducible refine ((CPi _ (HTV.out.next HD.out)).out).mono ?_); rintro e w2 ⟨rfl, hw2⟩; have hb2 := below_nxt HD.out hw2; have HB2 := Lib.hid hb2; have k1 := (hb2.cell (p := ⟨wr.heap.size, 0, none⟩) p0).trans p1; have k2 := (hb2.cell (p := ⟨wr.heap.size, 1, none⟩) p0).trans p2; have k3 := (hb2.cell (p := ⟨w.heap.size, 0, none⟩) q0).trans q1; have k4 := (hb2.cell (p := ⟨w.heap.size, 1, none⟩) q0).trans q2; have k5 := (hb2.cell (p := ⟨0, 3, none⟩) hg).trans htab; clear hb2 hw2))
        go_wp2
        exact ⟨⟨i + 1, by omega, rfl, by rw [HS.out, HY.out], Lib.hid (HB1.out.trans (HB2.out.mono HB1.out.size))⟩, by simp [intOf]; omega⟩
      · replace htab : V.cell? ⟨0, 4, none⟩ = some (.int .i64 (y : Int)) := htab
        have HD := Lib.hid ((Below.refl V.heap.size V).drew)
        have g1 : V.drew.cell? ⟨wr.heap.size, 0, none⟩ = some (.int .u64 (r.1 : Int)) := p1
        have g2 : V.drew.cell? ⟨wr.heap.size, 1, none⟩ = some (.int .u64 (r.2 : Int)) := p2
        have g3 : V.drew.cell? ⟨w.heap.size, 0, none⟩ = some (.int .i64 (a : Int)) := q1
        have g4 : V.drew.cell? ⟨w.heap.size, 1, none⟩ = some (.int .i64 (b : Int)) := q2
        have g5 : V.drew.cell? ⟨0, 4, none⟩ = some (.int .i64 (y : Int)) := htab
        have hg := HTW.h2
        go_region_held3 (fun W => ((W.cell? ⟨wr.heap.size, 0, none⟩ = some (.int .u64 (r.1 : Int)) ∧ W.cell? ⟨wr.heap.size, 1, none⟩ = some (.int .u64 (r.2 : Int))) ∧ (W.cell? ⟨w.heap.size, 0, none⟩ = some (.int .i64 (a : Int)) ∧ W.cell? ⟨w.heap.size, 1, none⟩ = some (.int .i64 (b : Int)))) ∧ W.cell? ⟨0, 4, none⟩ = some (.int .i64 (y : Int)) ∧ Hid (Below V.heap.size V W))
          (first | (refine ⟨⟨⟨?_, ?_⟩, ⟨?_, ?_⟩⟩, ?_, ?_⟩ <;> with_reducible assumption) | (go_split_ands; refine ⟨⟨⟨?_, ?_⟩, ⟨?_, ?_⟩⟩, ?_, ?_⟩ <;> with_reducible assumption))
          (first | (go_at_call 47; (with_reducible refine ((CPi _ (HTV.out.next HD.out)).out).mono ?_); rintro e w2 ⟨rfl, hw2⟩; have hb2 := below_nxt HD.out hw2; have HB2 := Lib.hid hb2; have k1 := (hb2.cell (p := ⟨wr.heap.size, 0, none⟩) p0).trans p1; have k2 := (hb2.cell (p := ⟨wr.heap.size, 1, none⟩) p0).trans p2; have k3 := (hb2.cell (p := ⟨w.heap.size, 0, none⟩) q0).trans q1; have k4 := (hb2.cell (p := ⟨w.heap.size, 1, none⟩) q0).trans q2; have k5 := (hb2.cell (p := ⟨0, 4, none⟩) hg).trans htab; clear hb2 hw2))
        go_wp2
        exact ⟨⟨i + 1, by omega, rfl, by rw [HS.out, HY.out], Lib.hid (HB1.out.trans (HB2.out.mono HB1.out.size))⟩, by simp [intOf]; omega⟩
      · replace htab : V.cell? ⟨0, 5, none⟩ = some (.int .i64 (y : Int)) := htab
        have HD := Lib.hid ((Below.refl V.heap.size V).drew)
        have g1 : V.drew.cell? ⟨wr.heap.size, 0, none⟩ = some (.int .u64 (r.1 : Int)) := p1
        have g2 : V.drew.cell? ⟨wr.heap.size, 1, none⟩ = some (.int .u64 (r.2 : Int)) := p2
        have g3 : V.drew.cell? ⟨w.heap.size, 0, none⟩ = some (.int .i64 (a : Int)) := q1
        have g4 : V.drew.cell? ⟨w.heap.size, 1, none⟩ = some (.int .i64 (b : Int)) := q2
        have g5 : V.drew.cell? ⟨0, 5, none⟩ = some (.int .i64 (y : Int)) := htab
        have hg := HTW.h2
        go_region_held3 (fun W => ((W.cell? ⟨wr.heap.size, 0, none⟩ = some (.int .u64 (r.1 : Int)) ∧ W.cell? ⟨wr.heap.size, 1, none⟩ = some (.int .u64 (r.2 : Int))) ∧ (W.cell? ⟨w.heap.size, 0, none⟩ = some (.int .i64 (a : Int)) ∧ W.cell? ⟨w.heap.size, 1, none⟩ = some (.int .i64 (b : Int)))) ∧ W.cell? ⟨0, 5, none⟩ = some (.int .i64 (y : Int)) ∧ Hid (Below V.heap.size V W))
          (first | (refine ⟨⟨⟨?_, ?_⟩, ⟨?_, ?_⟩⟩, ?_, ?_⟩ <;> with_reducible assumption) | (go_split_ands; refine ⟨⟨⟨?_, ?_⟩, ⟨?_, ?_⟩⟩, ?_, ?_⟩ <;> with_reducible assumption))
          (first | (go_at_call 47; (with_reducible refine ((CPi _ (HTV.out.next HD.out)).out).mono ?_); rintro e w2 ⟨rfl, hw2⟩; have hb2 := below_nxt HD.out hw2; have HB2 := Lib.hid hb2; have k1 := (hb2.cell (p := ⟨wr.heap.size, 0, none⟩) p0).trans p1; have k2 := (hb2.cell (p := ⟨wr.heap.size, 1, none⟩) p0).trans p2; have k3 := (hb2.cell (p := ⟨w.heap.size, 0, none⟩) q0).trans q1; have k4 := (hb2.cell (p := ⟨w.heap.size, 1, none⟩) q0).trans q2; have k5 := (hb2.cell (p := ⟨0, 5, none⟩) hg).trans htab; clear hb2 hw2))
        go_wp2
        exact ⟨⟨i + 1, by omega, rfl, by rw [HS.out, HY.out], Lib.hid (HB1.out.trans (HB2.out.mono HB1.out.size))⟩, by simp [intOf]; omega⟩
      · replace htab : V.cell? ⟨0, 6, none⟩ = some (.int .i64 (y : Int)) := htab
        have HD := Lib.hid ((Below.refl V.heap.size V).drew)
        have g1 : V.drew.cell? ⟨wr.heap.size, 0, none⟩ = some (.int .u64 (r.1 : Int)) := p1
        have g2 : V.drew.cell? ⟨wr.heap.size, 1, none⟩ = some (.int .u64 (r.2 : Int)) := p2
        have g3 : V.drew.cell? ⟨w.heap.size, 0, none⟩ = some (.int .i64 (a : Int)) := q1
        have g4 : V.drew.cell? ⟨w.heap.size, 1, none⟩ = some (.int .i64 (b : Int)) := q2
        have g5 : V.drew.cell? ⟨0, 6, none⟩ = some (.int .i64 (y : Int)) := htab
        have hg := HTW.h2
        go_region_held3 (fun W => ((W.cell? ⟨wr.heap.size, 0, none⟩ = some (.int .u64 (r.1 : Int)) ∧ W.cell? ⟨wr.heap.size, 1, none⟩ = some (.int .u64 (r.2 : Int))) ∧ (W.cell? ⟨w.heap.size, 0, none⟩ = some (.int .i64 (a : Int)) ∧ W.cell? ⟨w.heap.size, 1, none⟩ = some (.int .i64 (b : Int)))) ∧ W.cell? ⟨0, 6, none⟩ = some (.int .i64 (y : Int)) ∧ Hid (Below V.heap.size V W))
          (first | (refine ⟨⟨⟨?_, ?_⟩, ⟨?_, ?_⟩⟩, ?_, ?_⟩ <;> with_reducible assumption) | (go_split_ands; refine ⟨⟨⟨?_, ?_⟩, ⟨?_, ?_⟩⟩, ?_, ?_⟩ <;> with_reducible assumption))
          (first | (go_at_call 47; (with_reducible refine ((CPi _ (HTV.out.next HD.out)).out).mono ?_); rintro e w2 ⟨rfl, hw2⟩; have hb2 := below_nxt HD.out hw2; have HB2 := Lib.hid hb2; have k1 := (hb2.cell (p := ⟨wr.heap.size, 0, none⟩) p0).trans p1; have k2 := (hb2.cell (p := ⟨wr.heap.size, 1, none⟩) p0).trans p2; have k3 := (hb2.cell (p := ⟨w.heap.size, 0, none⟩) q0).trans q1; have k4 := (hb2.cell (p := ⟨w.heap.size, 1, none⟩) q0).trans q2; have k5 := (hb2.cell (p := ⟨0, 6, none⟩) hg).trans htab; clear hb2 hw2))
        go_wp2
        exact ⟨⟨i + 1, by omega, rfl, by rw [HS.out, HY.out], Lib.hid (HB1.out.trans (HB2.out.mono HB1.out.size))⟩, by simp [intOf]; omega⟩
      · replace htab : V.cell? ⟨0, 7, none⟩ = some (.int .i64 (y : Int)) := htab
        have HD := Lib.hid ((Below.refl V.heap.size V).drew)
        have g1 : V.drew.cell? ⟨wr.heap.size, 0, none⟩ = some (.int .u64 (r.1 : Int)) := p1
        have g2 : V.drew.cell? ⟨wr.heap.size, 1, none⟩ = some (.int .u64 (r.2 : Int)) := p2
        have g3 : V.drew.cell? ⟨w.heap.size, 0, none⟩ = some (.int .i64 (a : Int)) := q1
        have g4 : V.drew.cell? ⟨w.heap.size, 1, none⟩ = some (.int .i64 (b : Int)) := q2
        have g5 : V.drew.cell? ⟨0, 7, none⟩ = some (.int .i64 (y : Int)) := htab
        have hg := HTW.h2
        go_region_held3 (fun W => ((W.cell? ⟨wr.heap.size, 0, none⟩ = some (.int .u64 (r.1 : Int)) ∧ W.cell? ⟨wr.heap.size, 1, none⟩ = some (.int .u64 (r.2 : Int))) ∧ (W.cell? ⟨w.heap.size, 0, none⟩ = some (.int .i64 (a : Int)) ∧ W.cell? ⟨w.heap.size, 1, none⟩ = some (.int .i64 (b : Int)))) ∧ W.cell? ⟨0, 7, none⟩ = some (.int .i64 (y : Int)) ∧ Hid (Below V.heap.size V W))
          (first | (refine ⟨⟨⟨?_, ?_⟩, ⟨?_, ?_⟩⟩, ?_, ?_⟩ <;> with_reducible assumption) | (go_split_ands; refine ⟨⟨⟨?_, ?_⟩, ⟨?_, ?_⟩⟩, ?_, ?_⟩ <;> with_reducible assumption))
          (first | (go_at_call 47; (with_reducible refine ((CPi _ (HTV.out.next HD.out)).out).mono ?_); rintro e w2 ⟨rfl, hw2⟩; have hb2 := below_nxt HD.out hw2; have HB2 := Lib.hid hb2; have k1 := (hb2.cell (p := ⟨wr.heap.size, 0, none⟩) p0).trans p1; have k2 := (hb2.cell (p := ⟨wr.heap.size, 1, none⟩) p0).trans p2; have k3 := (hb2.cell (p := ⟨w.heap.size, 0, none⟩) q0).trans q1; have k4 := (hb2.cell (p := ⟨w.heap.size, 1, none⟩) q0).trans q2; have k5 := (hb2.cell (p := ⟨0, 7, none⟩) hg).trans htab; clear hb2 hw2))
        go_wp2
        exact ⟨⟨i + 1, by omega, rfl, by rw [HS.out, HY.out], Lib.hid (HB1.out.trans (HB2.out.mono HB1.out.size))⟩, by simp [intOf]; omega⟩
      · replace htab : V.cell? ⟨0, 8, none⟩ = some (.int .i64 (y : Int)) := htab
        have HD := Lib.hid ((Below.refl V.heap.size V).drew)
        have g1 : V.drew.cell? ⟨wr.heap.size, 0, none⟩ = some (.int .u64 (r.1 : Int)) := p1
        have g2 : V.drew.cell? ⟨wr.heap.size, 1, none⟩ = some (.int .u64 (r.2 : Int)) := p2
        have g3 : V.drew.cell? ⟨w.heap.size, 0, none⟩ = some (.int .i64 (a : Int)) := q1
        have g4 : V.drew.cell? ⟨w.heap.size, 1, none⟩ = some (.int .i64 (b : Int)) := q2
        have g5 : V.drew.cell? ⟨0, 8, none⟩ = some (.int .i64 (y : Int)) := htab
        have hg := HTW.h2
        go_region_held3 (fun W => ((W.cell? ⟨wr.heap.size, 0, none⟩ = some (.int .u64 (r.1 : Int)) ∧ W.cell? ⟨wr.heap.size, 1, none⟩ = some (.int .u64 (r.2 : Int))) ∧ (W.cell? ⟨w.heap.size, 0, none⟩ = some (.int .i64 (a : Int)) ∧ W.cell? ⟨w.heap.size, 1, none⟩ = some (.int .i64 (b : Int)))) ∧ W.cell? ⟨0, 8, none⟩ = some (.int .i64 (y : Int)) ∧ Hid (Below V.heap.size V W))
          (first | (refine ⟨⟨⟨?_, ?_⟩, ⟨?_, ?_⟩⟩, ?_, ?_⟩ <;> with_reducible assumption) | (go_split_ands; refine ⟨⟨⟨?_, ?_⟩, ⟨?_, ?_⟩⟩, ?_, ?_⟩ <;> with_reducible assumption))
          (first | (go_at_call 47; (with_reducible refine ((CPi _ (HTV.out.next HD.out)).out).mono ?_); rintro e w2 ⟨rfl, hw2⟩; have hb2 := below_nxt HD.out hw2; have HB2 := Lib.hid hb2; have k1 := (hb2.cell (p := ⟨wr.heap.size, 0, none⟩) p0).trans p1; have k2 := (hb2.cell (p := ⟨wr.heap.size, 1, none⟩) p0).trans p2; have k3 := (hb2.cell (p := ⟨w.heap.size, 0, none⟩) q0).trans q1; have k4 := (hb2.cell (p := ⟨w.heap.size, 1, none⟩) q0).trans q2; have k5 := (hb2.cell (p := ⟨0, 8, none⟩) hg).trans htab; clear hb2 hw2))
        go_wp2
        exact ⟨⟨i + 1, by omega, rfl, by rw [HS.out, HY.out], Lib.hid (HB1.out.trans (HB2.out.mono HB1.out.size))⟩, by simp [intOf]; omega⟩
    · obtain rfl : i = l.length := by omega
      go_wp2
      exact bodyPost_ret (v := .int .i64 (Hz.sm n a b (l.take l.length) : Nat)) (by simp [results, Tryz.results25, go_sem]) rfl ⟨by rw [HE.out], L0.out.trans (HB.out.mono L0.out.size)⟩
end Go.Proofs.YtahjdmdgkkienaaGreatDoor

