/- Tasks: CheckTask, and whether a cube is an implicant of a right task. -/
import Derived.Test.YtahjdmdgkkienaaGreatDoorIe
import Derived.Test.YtahjdmdgkkienaaGreatDoorUo
namespace Ic
/-- What CheckTask returns. -/
def tchk (n : Int) (on : Nat) (m : Int) (fr : Nat) : Int := if Tt.giv n on m fr ≠ 0 then Tt.giv n on m fr else if on &&& fr ≠ 0 then 16 else 0
theorem tchk_zero {n m : Int} {on fr : Nat} : tchk n on m fr = 0 ↔ Tt.chk n on = 0 ∧ Tt.chk m fr = 0 ∧ n = m ∧ on &&& fr = 0 := by
  unfold tchk
  by_cases h : Tt.giv n on m fr = 0
  · rw [if_neg (by simp [h])]
    have h' := Tt.giv_zero.1 h
    by_cases h2 : on &&& fr = 0
    · rw [if_neg (by simp [h2])]; exact ⟨fun _ => ⟨h'.1, h'.2.1, h'.2.2, h2⟩, fun _ => rfl⟩
    · simp [h2]
  · rw [if_pos h]
    constructor
    · intro h2; exact absurd h2 h
    · intro ⟨a, b, c, _⟩; exact absurd (Tt.giv_zero.2 ⟨a, b, c⟩) h
/-- Is a cube an implicant? -/
def imp (n on fr c v : Nat) : Bool := tab n c v &&& (18446744073709551615 - (on ||| fr)) == 0
end Ic
namespace Go.Proofs.YtahjdmdgkkienaaGreatDoor
open Go.RowKit Go.Shelf

theorem field_bits (a b : Value) (w : World) : Sem.run Tryz.prog (Instr.field 29 (.agg #[a, b]) 1) w = .ok b w := by
  simp [Instr.field, go_sem, asAgg]
/-- The cells of a task. -/
def TaskI (W : World) (g : Nat) (n : Int) (on : Nat) (m : Int) (fr : Nat) : Prop :=
  g < W.heap.size ∧ W.cell? ⟨g, 0, none⟩ = some (.int .i64 n) ∧ W.cell? ⟨g, 1, none⟩ = some (.int .u64 (on : Int)) ∧ W.cell? ⟨g, 2, none⟩ = some (.int .i64 m) ∧ W.cell? ⟨g, 3, none⟩ = some (.int .u64 (fr : Int))
theorem TaskI.below {W W' : World} {g : Nat} {n : Int} {on : Nat} {m : Int} {fr : Nat} (h : TaskI W g n on m fr) {B : Nat} (hB : g < B) (hb : Below B W W') : TaskI W' g n on m fr := by
  obtain ⟨h0, h1, h2, h3, h4⟩ := h
  exact ⟨Nat.lt_of_lt_of_le h0 hb.size, (hb.cell (p := ⟨g, 0, none⟩) hB).trans h1, (hb.cell (p := ⟨g, 1, none⟩) hB).trans h2, (hb.cell (p := ⟨g, 2, none⟩) hB).trans h3, (hb.cell (p := ⟨g, 3, none⟩) hB).trans h4⟩
theorem TaskI.step {W W' : World} {g : Nat} {n : Int} {on : Nat} {m : Int} {fr : Nat} (h : TaskI W g n on m fr) (hb : Below W.heap.size W W') : TaskI W' g n on m fr := h.below h.1 hb
theorem TaskI.other {W : World} {g g' j : Nat} {n : Int} {on : Nat} {m : Int} {fr : Nat} (x : Value) (h : TaskI W g n on m fr) (hne : g' ≠ g) : TaskI (W.setCell ⟨g', j, none⟩ x) g n on m fr := by
  obtain ⟨h0, h1, h2, h3, h4⟩ := h
  exact ⟨by simpa using h0, (World.cell?_setCell_other (w := W) (v := x) (a := ⟨g', j, none⟩) (b := ⟨g, 0, none⟩) (fun e => hne (congrArg Addr.block e))).trans h1,
    (World.cell?_setCell_other (w := W) (v := x) (a := ⟨g', j, none⟩) (b := ⟨g, 1, none⟩) (fun e => hne (congrArg Addr.block e))).trans h2,
    (World.cell?_setCell_other (w := W) (v := x) (a := ⟨g', j, none⟩) (b := ⟨g, 2, none⟩) (fun e => hne (congrArg Addr.block e))).trans h3,
    (World.cell?_setCell_other (w := W) (v := x) (a := ⟨g', j, none⟩) (b := ⟨g, 3, none⟩) (fun e => hne (congrArg Addr.block e))).trans h4⟩
theorem task_new (w : World) (n : Int) (on : Nat) (m : Int) (fr : Nat) (T : TypeId) : TaskI (w.alloc (.cells #[.int .i64 n, .int .u64 (on : Int), .int .i64 m, .int .u64 (fr : Int)] T)) w.heap.size n on m fr ∧ Below w.heap.size w (w.alloc (.cells #[.int .i64 n, .int .u64 (on : Int), .int .i64 m, .int .u64 (fr : Int)] T)) ∧ (w.alloc (.cells #[.int .i64 n, .int .u64 (on : Int), .int .i64 m, .int .u64 (fr : Int)] T)).heap.size = w.heap.size + 1 := by
  refine ⟨?_, (Below.refl _ w).alloc (Nat.le_refl _) _, by simp⟩
  unfold TaskI
  simp

set_option maxRecDepth 100000 in
theorem iCheckTask_any (n : Int) (on : Nat) (m : Int) (fr : Nat) (w : World) (ho : on < 2 ^ 64) (hf : fr < 2 ^ 64) :
    Calls Tryz.prog 78 #[.agg #[.int .i64 n, .int .u64 on, .int .i64 m, .int .u64 fr]] w fun e w' => e = .returned (.int .i64 (Ic.tchk n on m fr)) ∧ Below w.heap.size w w' := by
  have CA := fun W => Lib.hid (tAnd_any n on m fr W ho hf)
  have HR : Hid ((Tt.giv n on m fr = 0 → Tt.andV n on m fr = ((n, on &&& fr), 0)) ∧ (Tt.giv n on m fr ≠ 0 → Tt.andV n on m fr = ((0, 0), Tt.giv n on m fr))) := Lib.hid (by unfold Tt.andV; exact ⟨fun h => if_pos h, fun h => if_neg h⟩)
  unfold Ic.tchk
  generalize Tt.andV n on m fr = r at *
  obtain ⟨q, hq⟩ : ∃ q, (if Tt.giv n on m fr ≠ 0 then Tt.giv n on m fr else if on &&& fr ≠ 0 then 16 else 0) = q := ⟨_, rfl⟩
  rw [hq]
  have HQ := Lib.hid hq
  clear hq
  generalize Tt.giv n on m fr = g at *
  generalize on &&& fr = x at *
  obtain ⟨P0, L0, z0⟩ := task_new w n on m fr 104
  generalize hX : w.alloc (.cells #[.int .i64 n, .int .u64 (on : Int), .int .i64 m, .int .u64 (fr : Int)] 104) = X at *
  obtain ⟨p0, p1, p2, p3, p4⟩ := id P0
  clear ho hf
  go_enter Tryz.func78, Tryz.ntmps78
  go_wp2_with fail
  refine ((CA _).out).mono ?_
  rintro e w1 ⟨rfl, hw1⟩
  have L1 := below_nxt L0 hw1
  obtain ⟨P1, L2, z1⟩ := tab1_new w1 0 0 29
  generalize hY : w1.alloc (.cells #[.int .i64 0, .int .u64 ((0 : Nat) : Int)] 29) = Y at *
  change w1.alloc (.cells #[.int .i64 0, .int .u64 0] 29) = Y at hY
  have hw1s := hw1.size
  have L3 := below_put2 (g := w1.heap.size) (below_nxt L1 L2) (by omega) (.int .i64 r.1.1) (.int .u64 (r.1.2 : Nat))
  have P2 := P1.put r.1.1 r.1.2
  clear hw1
  obtain ⟨q0, q1, q2, q3, q4⟩ := id P1
  obtain ⟨s0, s1, s2, s3, s4⟩ := id P2
  by_cases hg : g = 0
  · subst hg
    obtain rfl : r = ((n, x), 0) := by have := HR.out; simpa using this
    by_cases hx : x = 0
    · subst hx
      obtain rfl : q = 0 := by have := HQ.out; simpa using this.symm
      go_wp2
      go_ret
      exact ⟨rfl, L3⟩
    · have hx' : ((x : Int) != 0) = true := by simp; omega
      obtain rfl : q = 16 := by have := HQ.out; simpa [hx] using this.symm
      go_wp2
      go_ret
      exact ⟨rfl, L3⟩
  · have hg' : (g != 0) = true := by simpa using hg
    obtain rfl : r = ((0, 0), g) := by have := HR.out.2; exact this hg
    obtain rfl : q = g := by have := HQ.out; simpa [hg] using this.symm
    go_wp2
    go_ret
    exact ⟨rfl, L3⟩
set_option maxHeartbeats 1000000 in
set_option maxRecDepth 100000 in
theorem iImp_any (n on : Nat) (m : Int) (fr c v : Nat) (w : World) (hn : n ≤ 6) (ho : on < 2 ^ 64) (hf : fr < 2 ^ 64) (hc : c < 2 ^ n) (hs : Ic.Sub v c) (hst : St w) :
    Calls Tryz.prog 95 #[.agg #[.int .i64 n, .int .u64 on, .int .i64 m, .int .u64 fr], .agg #[.int .u64 c, .int .u64 v]] w fun e w' => e = .returned (.bool (Ic.imp n on fr c v)) ∧ Below w.heap.size w w' := by
  have CT := fun W h => Lib.hid (iTable_any n c v W hn hc hs h)
  have e1 := u64_or_nat on fr (by simpa using ho) (by simpa using hf)
  have hor := Nat.or_lt_two_pow ho hf
  have e2 := and_not (Tt.w64 hn (Ic.tab_lt n c v)) hor
  obtain ⟨q, hq⟩ : ∃ q, Ic.imp n on fr c v = q := ⟨_, rfl⟩
  rw [hq]
  unfold Ic.imp at hq
  have HQ := Lib.hid hq
  clear hq hor
  generalize (Ic.tab n c v &&& (18446744073709551615 - (on ||| fr))) = x at *
  generalize on ||| fr = y at *
  generalize Ic.tab n c v = t at *
  obtain ⟨P0, L0, z0⟩ := task_new w n on m fr 104
  obtain ⟨P1, L1, z1⟩ := cub1_new (w.alloc (.cells #[.int .i64 n, .int .u64 (on : Int), .int .i64 m, .int .u64 (fr : Int)] 104)) c v 62
  replace P0 := P0.step L1
  replace L0 := below_nxt L0 L1
  rw [z0] at P1 z1
  clear L1 z0
  generalize hX : (w.alloc (.cells #[.int .i64 n, .int .u64 (on : Int), .int .i64 m, .int .u64 (fr : Int)] 104)).alloc (.cells #[.int .u64 (c : Int), .int .u64 (v : Int)] 62) = X at *
  have HST := Lib.hid (hst.next L0)
  obtain ⟨p0, p1, p2, p3, p4⟩ := id P0
  obtain ⟨q0, q1, q2, q3, q4⟩ := id P1
  have HL0 := Lib.hid L0
  have HB := Lib.hid ((Below.refl X.heap.size X).drew)
  have hfld := field_bits
  have g1 : X.drew.cell? ⟨w.heap.size, 0, none⟩ = some (.int .i64 n) := p1
  have g2 : X.drew.cell? ⟨w.heap.size, 1, none⟩ = some (.int .u64 (on : Int)) := p2
  have g3 : X.drew.cell? ⟨w.heap.size, 3, none⟩ = some (.int .u64 (fr : Int)) := p4
  have g4 : X.drew.cell? ⟨w.heap.size + 1, 0, none⟩ = some (.int .u64 (c : Int)) := q1
  have g5 : X.drew.cell? ⟨w.heap.size + 1, 1, none⟩ = some (.int .u64 (v : Int)) := q2
  clear hst ho hf hc hs P0 P1 L0
  go_enter Tryz.func95, Tryz.ntmps95
  go_wp2
  go_region_held3 (fun W => (W.cell? ⟨w.heap.size, 0, none⟩ = some (.int .i64 n) ∧ W.cell? ⟨w.heap.size, 1, none⟩ = some (.int .u64 (on : Int)) ∧ W.cell? ⟨w.heap.size, 3, none⟩ = some (.int .u64 (fr : Int))) ∧ (W.cell? ⟨w.heap.size + 1, 0, none⟩ = some (.int .u64 (c : Int)) ∧ W.cell? ⟨w.heap.size + 1, 1, none⟩ = some (.int .u64 (v : Int))) ∧ Hid (Below X.heap.size X W))
    (first | (refine ⟨⟨?_, ?_, ?_⟩, ⟨?_, ?_⟩, ?_⟩ <;> assumption) | (go_split_ands; refine ⟨⟨?_, ?_, ?_⟩, ⟨?_, ?_⟩, ?_⟩ <;> assumption))
    (first | (go_at_call 68; (with_reducible refine ((CT _ (HST.out.next HB.out)).out).mono ?_); rintro e w2 ⟨rfl, hw2⟩; have hb2 := below_nxt HB.out hw2; have HB2 := Lib.hid hb2; have k1 := (hb2.cell (p := ⟨w.heap.size, 0, none⟩) p0).trans p1; have k2 := (hb2.cell (p := ⟨w.heap.size, 1, none⟩) p0).trans p2; have k3 := (hb2.cell (p := ⟨w.heap.size, 3, none⟩) p0).trans p4; have k4 := (hb2.cell (p := ⟨w.heap.size + 1, 0, none⟩) q0).trans q1; have k5 := (hb2.cell (p := ⟨w.heap.size + 1, 1, none⟩) q0).trans q2; clear hb2 hw2))
  go_wp2
  refine bodyPost_ret (v := .bool ((x : Int) == 0)) (by simp [results, Tryz.results95, go_sem]) rfl ⟨ret_bool ?_, below_nxt HL0.out HB2.out⟩
  rw [← HQ.out, Bool.eq_iff_iff, beq_iff_eq, beq_iff_eq]
  exact Int.natCast_eq_zero
end Go.Proofs.YtahjdmdgkkienaaGreatDoor

