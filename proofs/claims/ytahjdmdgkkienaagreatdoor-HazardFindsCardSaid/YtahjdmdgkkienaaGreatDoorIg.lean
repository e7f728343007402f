/- Is a cube a prime implicant: isPrime. -/
import Derived.Test.YtahjdmdgkkienaaGreatDoorIf
namespace Ic
theorem clr_same {c i : Nat} (hc : c < 2 ^ 64) (hi : i < 64) (h : c.testBit i = false) : c &&& (18446744073709551615 - 2 ^ i) = c := by
  apply Nat.eq_of_testBit_eq
  intro j
  rw [Nat.testBit_and]
  cases hj : c.testBit j
  · simp
  · rw [not_bit (Nat.pow_lt_pow_right (by omega) hi) (bit_lt hc hj), Nat.testBit_two_pow]
    have : i ≠ j := fun e => by subst e; rw [h] at hj; cases hj
    simp [this]
theorem clr_ne {c i : Nat} (hi : i < 64) (h : c.testBit i = true) : c &&& (18446744073709551615 - 2 ^ i) ≠ c := fun e => by
  have h1 : (c &&& (18446744073709551615 - 2 ^ i)).testBit i = true := by rw [e]; exact h
  rw [Nat.testBit_and, not_bit (Nat.pow_lt_pow_right (by omega) hi) hi, Nat.testBit_two_pow] at h1
  simp at h1
theorem clr_lt {c x m : Nat} (hc : c < 2 ^ m) : c &&& x < 2 ^ m := Nat.lt_of_le_of_lt Nat.and_le_left hc
theorem clr_sub {c v x : Nat} (h : Sub v c) : Sub (v &&& x) (c &&& x) := fun i hi => by
  rw [Nat.testBit_and] at *
  simp at hi
  simp [h i hi.1, hi.2]
theorem two64 {i : Nat} (hi : i < 6) : (2 : Nat) ^ i < 2 ^ 64 := Nat.pow_lt_pow_right (by omega) (by omega)
/-- Is it in no wider implicant that lacks one of its conditions below m? -/
def tight (n on fr c v m : Nat) : Bool := (List.range m).all fun i => !(c.testBit i && imp n on fr (c &&& (18446744073709551615 - 2 ^ i)) (v &&& (18446744073709551615 - 2 ^ i)))
theorem tight_succ (n on fr c v m : Nat) : tight n on fr c v (m + 1) = (tight n on fr c v m && !(c.testBit m && imp n on fr (c &&& (18446744073709551615 - 2 ^ m)) (v &&& (18446744073709551615 - 2 ^ m)))) := all_succ _ _
/-- Is a cube prime? -/
def prime (n on fr c v : Nat) : Bool := !(tab n c v &&& on == 0) && (imp n on fr c v && tight n on fr c v n)
end Ic
namespace Go.Proofs.YtahjdmdgkkienaaGreatDoor
open Go.RowKit Go.Shelf

set_option linter.unusedSimpArgs false in
set_option maxHeartbeats 2000000 in
set_option maxRecDepth 100000 in
theorem iPrime_any (n on : Nat) (m : Int) (fr c v : Nat) (w : World) (hn : n ≤ 6) (ho : on < 2 ^ 64) (hf : fr < 2 ^ 64) (hc : c < 2 ^ n) (hs : Ic.Sub v c) (hst : St w) :
    Calls Tryz.prog 80 #[.agg #[.int .i64 n, .int .u64 on, .int .i64 m, .int .u64 fr], .agg #[.int .u64 c, .int .u64 v]] w fun e w' => e = .returned (.bool (Ic.prime n on fr c v)) ∧ Below w.heap.size w w' := by
  have CT := fun W h => Lib.hid (iTable_any n c v W hn hc hs h)
  have CI := fun W h => Lib.hid (iImp_any n on m fr c v W hn ho hf hc hs h)
  have e2 := u64_and_nat (Ic.tab n c v) on (Tt.w64 hn (Ic.tab_lt n c v)) (by simpa using ho)
  have hc64 := Ic.w64 hn hc
  have hv64 := Ic.w64 hn (hs.lt hc)
  have CW := fun i (hi : i < 6) W => Lib.hid (iWithout_any c v (2 ^ i) W hc64 hv64 (Ic.two64 hi))
  have CJ := fun i W h => Lib.hid (iImp_any n on m fr (c &&& (18446744073709551615 - 2 ^ i)) (v &&& (18446744073709551615 - 2 ^ i)) W hn ho hf (Ic.clr_lt hc) (Ic.clr_sub hs) h)
  obtain ⟨q, hq⟩ : ∃ q, Ic.prime n on fr c v = q := ⟨_, rfl⟩
  rw [hq]
  have HQ := Lib.hid (show q = (!(Ic.tab n c v &&& on == 0) && (Ic.imp n on fr c v && Ic.tight n on fr c v n)) from hq.symm)
  clear hq
  generalize Ic.tab n c v &&& on = x at *
  generalize Ic.tab n c v = t at *
  obtain ⟨P0, L0, z0⟩ := task_new w n on m fr 104
  obtain ⟨P1, L1, z1⟩ := cub1_new (w.alloc (.cells #[.int .i64 n, .int .u64 (on : Int), .int .i64 m, .int .u64 (fr : Int)] 104)) c v 62
  replace P0 := P0.step L1
  replace L0 := below_nxt L0 L1
  rw [z0] at P1 z1
  clear L1 z0
  generalize hX : (w.alloc (.cells #[.int .i64 n, .int .u64 (on : Int), .int .i64 m, .int .u64 (fr : Int)] 104)).alloc (.cells #[.int .u64 (c : Int), .int .u64 (v : Int)] 62) = X at *
  have HST := Lib.hid (hst.next L0)
  obtain ⟨p0, p1, p2, p3, p4⟩ := id P0
  obtain ⟨q0, q1, q2, q3, q4⟩ := id P1
  have HL0 := Lib.hid L0
  have HB := Lib.hid ((Below.refl X.heap.size X).drew)
  have hfld := field_bits
  have g1 : X.drew.cell? ⟨w.heap.size, 0, none⟩ = some (.int .i64 n) := p1
  have g2 : X.drew.cell? ⟨w.heap.size, 1, none⟩ = some (.int .u64 (on : Int)) := p2
  have g2' : X.drew.cell? ⟨w.heap.size, 2, none⟩ = some (.int .i64 m) := p3
  have g3 : X.drew.cell? ⟨w.heap.size, 3, none⟩ = some (.int .u64 (fr : Int)) := p4
  have g4 : X.drew.cell? ⟨w.heap.size + 1, 0, none⟩ = some (.int .u64 (c : Int)) := q1
  have g5 : X.drew.cell? ⟨w.heap.size + 1, 1, none⟩ = some (.int .u64 (v : Int)) := q2
  have hstw := hst
  clear hst ho hf hc P0 P1 L0
  by_cases hx : x = 0
  · subst hx
    obtain rfl : q = false := by have := HQ.out; simpa using this
    go_enter Tryz.func80, Tryz.ntmps80
    go_wp2
    refine wp_region_noPanic ?_
    refine wp_region_held_drew (S := (fun W => (W.cell? ⟨w.heap.size, 0, none⟩ = some (.int .i64 n) ∧ W.cell? ⟨w.heap.size, 1, none⟩ = some (.int .u64 (on : Int)) ∧ W.cell? ⟨w.heap.size, 2, none⟩ = some (.int .i64 m) ∧ W.cell? ⟨w.heap.size, 3, none⟩ = some (.int .u64 (fr : Int))) ∧ (W.cell? ⟨w.heap.size + 1, 0, none⟩ = some (.int .u64 (c : Int)) ∧ W.cell? ⟨w.heap.size + 1, 1, none⟩ = some (.int .u64 (v : Int))) ∧ Hid (Below X.heap.size X W))) (by kernel_rfl) ?_ (fun hHeld => ?_)
    · refine ⟨⟨?_, ?_, ?_, ?_⟩, ⟨?_, ?_⟩, ?_⟩ <;> assumption
    refine wpAnyH_take (i := 0) (v := ?_) rfl (by kernel_rfl) (by kernel_rfl) (by kernel_rfl) (fun _ _ _ h => h) (Or.inl ⟨by rfl, ?_⟩) (by assumption) ?_
    rotate_left 1
    · (intro w hSw; (try dsimp only at hSw); go_simp; (try with_reducible rfl))
    try simp only [Act.put, List.getElem_toArray, List.getElem_cons_succ, List.getElem_cons_zero, List.setIfInBounds_toArray, List.set_cons_zero, List.set_cons_succ]
    refine wpAnyH_take (i := 1) (v := ?_) rfl (by kernel_rfl) (by kernel_rfl) (by kernel_rfl) (fun _ _ _ h => h) (Or.inl ⟨by rfl, ?_⟩) (by assumption) ?_
    rotate_left 1
    · (intro w hSw; (try dsimp only at hSw); go_simp; (try with_reducible rfl))
    try simp only [Act.put, List.getElem_toArray, List.getElem_cons_succ, List.getElem_cons_zero, List.setIfInBounds_toArray, List.set_cons_zero, List.set_cons_succ]
    refine wpAnyH_take (i := 2) (v := ?_) rfl (by kernel_rfl) (by kernel_rfl) (by kernel_rfl) (fun _ _ _ h => h) (Or.inl ⟨by rfl, ?_⟩) (by assumption) ?_
    rotate_left 1
    · (intro w hSw; (try dsimp only at hSw); go_simp; (try with_reducible rfl))
    try simp only [Act.put, List.getElem_toArray, List.getElem_cons_succ, List.getElem_cons_zero, List.setIfInBounds_toArray, List.set_cons_zero, List.set_cons_succ]
    refine wpAnyH_take (i := 3) (v := ?_) rfl (by kernel_rfl) (by kernel_rfl) (by kernel_rfl) (fun _ _ _ h => h) (Or.inl ⟨by rfl, ?_⟩) (by assumption) ?_
    rotate_left 1
    · (intro w hSw; (try dsimp only at hSw); go_simp; (try with_reducible rfl))
    try simp only [Act.put, List.getElem_toArray, List.getElem_cons_succ, List.getElem_cons_zero, List.setIfInBounds_toArray, List.set_cons_zero, List.set_cons_succ]
    refine wpAnyH_take (i := 6) (v := ?_) rfl (by kernel_rfl) (by kernel_rfl) (by kernel_rfl) (fun _ _ _ h => h) (Or.inl ⟨by rfl, ?_⟩) (by assumption) ?_
    rotate_left 1
    · (intro w hSw; (try dsimp only at hSw); go_simp; (try with_reducible rfl))
    try simp only [Act.put, List.getElem_toArray, List.getElem_cons_succ, List.getElem_cons_zero, List.setIfInBounds_toArray, List.set_cons_zero, List.set_cons_succ]
    refine wpAnyH_take (i := 7) (v := ?_) rfl (by kernel_rfl) (by kernel_rfl) (by kernel_rfl) (fun _ _ _ h => h) (Or.inl ⟨by rfl, ?_⟩) (by assumption) ?_
    rotate_left 1
    · (intro w hSw; (try dsimp only at hSw); go_simp; (try with_reducible rfl))
    try simp only [Act.put, List.getElem_toArray, List.getElem_cons_succ, List.getElem_cons_zero, List.setIfInBounds_toArray, List.set_cons_zero, List.set_cons_succ]
    refine wpAnyH_take (i := 8) (v := ?_) rfl (by kernel_rfl) (by kernel_rfl) (by kernel_rfl) (fun _ _ _ h => h) (Or.inl ⟨by rfl, ?_⟩) (by assumption) ?_
    rotate_left 1
    · (intro w hSw; (try dsimp only at hSw); go_simp; (try with_reducible rfl))
    try simp only [Act.put, List.getElem_toArray, List.getElem_cons_succ, List.getElem_cons_zero, List.setIfInBounds_toArray, List.set_cons_zero, List.set_cons_succ]
    refine wpAnyH_ready (rs := [4]) (by kernel_rfl) (by simp) ?_
    refine AllReadyH.cons rfl (fun K hK => ?_) AllReadyH.nil
    go_simp
    (go_at_call 68; (with_reducible refine ((CT _ (HST.out.next HB.out)).out).mono ?_); rintro e w2 ⟨rfl, hw2⟩; have hb2 := below_nxt HB.out hw2; have HB2 := Lib.hid hb2; have k1 := (hb2.cell (p := ⟨w.heap.size, 0, none⟩) p0).trans p1; have k2 := (hb2.cell (p := ⟨w.heap.size, 1, none⟩) p0).trans p2; have k2' := (hb2.cell (p := ⟨w.heap.size, 2, none⟩) p0).trans p3; have k3 := (hb2.cell (p := ⟨w.heap.size, 3, none⟩) p0).trans p4; have k4 := (hb2.cell (p := ⟨w.heap.size + 1, 0, none⟩) q0).trans q1; have k5 := (hb2.cell (p := ⟨w.heap.size + 1, 1, none⟩) q0).trans q2; clear hb2 hw2)
    go_simp
    refine hK.out _ _ ?_ (fun hHeld => ?_)
    · refine ⟨⟨?_, ?_, ?_, ?_⟩, ⟨?_, ?_⟩, ?_⟩ <;> assumption
    clear hK K
    try simp only [Act.put, List.getElem_toArray, List.getElem_cons_succ, List.getElem_cons_zero, List.setIfInBounds_toArray, List.set_cons_zero, List.set_cons_succ]
    refine wpAnyH_take (i := 5) (v := ?_) rfl (by kernel_rfl) (by kernel_rfl) (by kernel_rfl) (fun _ _ _ h => h) (Or.inl ⟨by rfl, ?_⟩) (by assumption) ?_
    rotate_left 1
    · (intro w hSw; (try dsimp only at hSw); go_simp; (try with_reducible rfl))
    try simp only [Act.put, List.getElem_toArray, List.getElem_cons_succ, List.getElem_cons_zero, List.setIfInBounds_toArray, List.set_cons_zero, List.set_cons_succ]
    refine wpAnyH_take (i := 9) (v := ?_) rfl (by kernel_rfl) (by kernel_rfl) (by kernel_rfl) (fun _ _ _ h => h) (Or.inl ⟨by rfl, ?_⟩) (by assumption) ?_
    rotate_left 1
    · (intro w hSw; (try dsimp only at hSw); go_simp; (try with_reducible rfl))
    try simp only [Act.put, List.getElem_toArray, List.getElem_cons_succ, List.getElem_cons_zero, List.setIfInBounds_toArray, List.set_cons_zero, List.set_cons_succ]
    refine wpAnyH_take (i := 10) (v := ?_) rfl (by kernel_rfl) (by kernel_rfl) (by kernel_rfl) (fun _ _ _ h => h) (Or.inl ⟨by rfl, ?_⟩) (by assumption) ?_
    rotate_left 1
    · (intro w hSw; (try dsimp only at hSw); go_simp; (try with_reducible rfl))
    try simp only [Act.put, List.getElem_toArray, List.getElem_cons_succ, List.getElem_cons_zero, List.setIfInBounds_toArray, List.set_cons_zero, List.set_cons_succ]
    refine wpAnyH_take (i := 11) (v := ?_) rfl (by kernel_rfl) (by kernel_rfl) (by kernel_rfl) (fun _ _ _ h => h) (Or.inl ⟨by rfl, ?_⟩) (by assumption) ?_
    rotate_left 1
    · (intro w hSw; (try dsimp only at hSw); go_simp; (try with_reducible rfl))
    try simp only [Act.put, List.getElem_toArray, List.getElem_cons_succ, List.getElem_cons_zero, List.setIfInBounds_toArray, List.set_cons_zero, List.set_cons_succ]
    refine wpAnyH_take (i := 12) (v := undef) rfl (by kernel_rfl) (by kernel_rfl) (by kernel_rfl) (fun _ _ _ h => h) (Or.inr ⟨by rfl, rfl⟩) (by assumption) ?_
    try simp only [Act.put, List.getElem_toArray, List.getElem_cons_succ, List.getElem_cons_zero, List.setIfInBounds_toArray, List.set_cons_zero, List.set_cons_succ]
    refine wpAnyH_take (i := 13) (v := undef) rfl (by kernel_rfl) (by kernel_rfl) (by kernel_rfl) (fun _ _ _ h => h) (Or.inr ⟨by rfl, rfl⟩) (by assumption) ?_
    try simp only [Act.put, List.getElem_toArray, List.getElem_cons_succ, List.getElem_cons_zero, List.setIfInBounds_toArray, List.set_cons_zero, List.set_cons_succ]
    refine wpAnyH_take (i := 14) (v := undef) rfl (by kernel_rfl) (by kernel_rfl) (by kernel_rfl) (fun _ _ _ h => h) (Or.inr ⟨by rfl, rfl⟩) (by assumption) ?_
    try simp only [Act.put, List.getElem_toArray, List.getElem_cons_succ, List.getElem_cons_zero, List.setIfInBounds_toArray, List.set_cons_zero, List.set_cons_succ]
    refine wpAnyH_take (i := 15) (v := undef) rfl (by kernel_rfl) (by kernel_rfl) (by kernel_rfl) (fun _ _ _ h => h) (Or.inr ⟨by rfl, rfl⟩) (by assumption) ?_
    try simp only [Act.put, List.getElem_toArray, List.getElem_cons_succ, List.getElem_cons_zero, List.setIfInBounds_toArray, List.set_cons_zero, List.set_cons_succ]
    refine wpAnyH_take (i := 16) (v := ?_) rfl (by kernel_rfl) (by kernel_rfl) (by kernel_rfl) (fun _ _ _ h => h) (Or.inl ⟨by rfl, ?_⟩) (by assumption) ?_
    rotate_left 1
    · (intro w hSw; (try dsimp only at hSw); go_simp; (try with_reducible rfl))
    try simp only [Act.put, List.getElem_toArray, List.getElem_cons_succ, List.getElem_cons_zero, List.setIfInBounds_toArray, List.set_cons_zero, List.set_cons_succ]
    refine wpAnyH_done (by kernel_rfl) ?_ _
    refine NoPanic.normal ?_
    go_wp2
    exact bodyPost_ret (v := .bool false) (by simp [results, Tryz.results80, go_sem]) rfl ⟨rfl, below_nxt HL0.out HB2.out⟩
  · have hx' : ((x : Int) == 0) = false := by simp; omega
    have HQ2 : Hid (q = (Ic.imp n on fr c v && Ic.tight n on fr c v n)) := Lib.hid (by have := HQ.out; rw [show (x == 0) = false by simp [hx]] at this; simpa using this)
    clear HQ hx
    cases hI : Ic.imp n on fr c v
    · rw [hI] at CI HQ2
      obtain rfl : q = false := by have := HQ2.out; simpa using this
      go_enter Tryz.func80, Tryz.ntmps80
      go_wp2
      refine wp_region_noPanic ?_
      refine wp_region_held_drew (S := (fun W => (W.cell? ⟨w.heap.size, 0, none⟩ = some (.int .i64 n) ∧ W.cell? ⟨w.heap.size, 1, none⟩ = some (.int .u64 (on : Int)) ∧ W.cell? ⟨w.heap.size, 2, none⟩ = some (.int .i64 m) ∧ W.cell? ⟨w.heap.size, 3, none⟩ = some (.int .u64 (fr : Int))) ∧ (W.cell? ⟨w.heap.size + 1, 0, none⟩ = some (.int .u64 (c : Int)) ∧ W.cell? ⟨w.heap.size + 1, 1, none⟩ = some (.int .u64 (v : Int))) ∧ Hid (Below X.heap.size X W))) (by kernel_rfl) ?_ (fun hHeld => ?_)
      · refine ⟨⟨?_, ?_, ?_, ?_⟩, ⟨?_, ?_⟩, ?_⟩ <;> assumption
      refine wpAnyH_take (i := 0) (v := ?_) rfl (by kernel_rfl) (by kernel_rfl) (by kernel_rfl) (fun _ _ _ h => h) (Or.inl ⟨by rfl, ?_⟩) (by assumption) ?_
      rotate_left 1
      · (intro w hSw; (try dsimp only at hSw); go_simp; (try with_reducible rfl))
      try simp only [Act.put, List.getElem_toArray, List.getElem_cons_succ, List.getElem_cons_zero, List.setIfInBounds_toArray, List.set_cons_zero, List.set_cons_succ]
      refine wpAnyH_take (i := 1) (v := ?_) rfl (by kernel_rfl) (by kernel_rfl) (by kernel_rfl) (fun _ _ _ h => h) (Or.inl ⟨by rfl, ?_⟩) (by assumption) ?_
      rotate_left 1
      · (intro w hSw; (try dsimp only at hSw); go_simp; (try with_reducible rfl))
      try simp only [Act.put, List.getElem_toArray, List.getElem_cons_succ, List.getElem_cons_zero, List.setIfInBounds_toArray, List.set_cons_zero, List.set_cons_succ]
      refine wpAnyH_take (i := 2) (v := ?_) rfl (by kernel_rfl) (by kernel_rfl) (by kernel_rfl) (fun _ _ _ h => h) (Or.inl ⟨by rfl, ?_⟩) (by assumption) ?_
      rotate_left 1
      · (intro w hSw; (try dsimp only at hSw); go_simp; (try with_reducible rfl))
      try simp only [Act.put, List.getElem_toArray, List.getElem_cons_succ, List.getElem_cons_zero, List.setIfInBounds_toArray, List.set_cons_zero, List.set_cons_succ]
      refine wpAnyH_take (i := 3) (v := ?_) rfl (by kernel_rfl) (by kernel_rfl) (by kernel_rfl) (fun _ _ _ h => h) (Or.inl ⟨by rfl, ?_⟩) (by assumption) ?_
      rotate_left 1
      · (intro w hSw; (try dsimp only at hSw); go_simp; (try with_reducible rfl))
      try simp only [Act.put, List.getElem_toArray, List.getElem_cons_succ, List.getElem_cons_zero, List.setIfInBounds_toArray, List.set_cons_zero, List.set_cons_succ]
      refine wpAnyH_take (i := 6) (v := ?_) rfl (by kernel_rfl) (by kernel_rfl) (by kernel_rfl) (fun _ _ _ h => h) (Or.inl ⟨by rfl, ?_⟩) (by assumption) ?_
      rotate_left 1
      · (intro w hSw; (try dsimp only at hSw); go_simp; (try with_reducible rfl))
      try simp only [Act.put, List.getElem_toArray, List.getElem_cons_succ, List.getElem_cons_zero, List.setIfInBounds_toArray, List.set_cons_zero, List.set_cons_succ]
      refine wpAnyH_take (i := 7) (v := ?_) rfl (by kernel_rfl) (by kernel_rfl) (by kernel_rfl) (fun _ _ _ h => h) (Or.inl ⟨by rfl, ?_⟩) (by assumption) ?_
      rotate_left 1
      · (intro w hSw; (try dsimp only at hSw); go_simp; (try with_reducible rfl))
      try simp only [Act.put, List.getElem_toArray, List.getElem_cons_succ, List.getElem_cons_zero, List.setIfInBounds_toArray, List.set_cons_zero, List.set_cons_succ]
      refine wpAnyH_take (i := 8) (v := ?_) rfl (by kernel_rfl) (by kernel_rfl) (by kernel_rfl) (fun _ _ _ h => h) (Or.inl ⟨by rfl, ?_⟩) (by assumption) ?_
      rotate_left 1
      · (intro w hSw; (try dsimp only at hSw); go_simp; (try with_reducible rfl))
      try simp only [Act.put, List.getElem_toArray, List.getElem_cons_succ, List.getElem_cons_zero, List.setIfInBounds_toArray, List.set_cons_zero, List.set_cons_succ]
      refine wpAnyH_ready (rs := [4]) (by kernel_rfl) (by simp) ?_
      refine AllReadyH.cons rfl (fun K hK => ?_) AllReadyH.nil
      go_simp
      (go_at_call 68; (with_reducible refine ((CT _ (HST.out.next HB.out)).out).mono ?_); rintro e w2 ⟨rfl, hw2⟩; have hb2 := below_nxt HB.out hw2; have HB2 := Lib.hid hb2; have k1 := (hb2.cell (p := ⟨w.heap.size, 0, none⟩) p0).trans p1; have k2 := (hb2.cell (p := ⟨w.heap.size, 1, none⟩) p0).trans p2; have k2' := (hb2.cell (p := ⟨w.heap.size, 2, none⟩) p0).trans p3; have k3 := (hb2.cell (p := ⟨w.heap.size, 3, none⟩) p0).trans p4; have k4 := (hb2.cell (p := ⟨w.heap.size + 1, 0, none⟩) q0).trans q1; have k5 := (hb2.cell (p := ⟨w.heap.size + 1, 1, none⟩) q0).trans q2; clear hb2 hw2)
      go_simp
      refine hK.out _ _ ?_ (fun hHeld => ?_)
      · refine ⟨⟨?_, ?_, ?_, ?_⟩, ⟨?_, ?_⟩, ?_⟩ <;> assumption
      clear hK K
      try simp only [Act.put, List.getElem_toArray, List.getElem_cons_succ, List.getElem_cons_zero, List.setIfInBounds_toArray, List.set_cons_zero, List.set_cons_succ]
      refine wpAnyH_take (i := 5) (v := ?_) rfl (by kernel_rfl) (by kernel_rfl) (by kernel_rfl) (fun _ _ _ h => h) (Or.inl ⟨by rfl, ?_⟩) (by assumption) ?_
      rotate_left 1
      · (intro w hSw; (try dsimp only at hSw); go_simp; (try with_reducible rfl))
      try simp only [Act.put, List.getElem_toArray, List.getElem_cons_succ, List.getElem_cons_zero, List.setIfInBounds_toArray, List.set_cons_zero, List.set_cons_succ]
      refine wpAnyH_take (i := 9) (v := ?_) rfl (by kernel_rfl) (by kernel_rfl) (by kernel_rfl) (fun _ _ _ h => h) (Or.inl ⟨by rfl, ?_⟩) (by assumption) ?_
      rotate_left 1
      · (intro w hSw; (try dsimp only at hSw); go_simp; (try with_reducible rfl))
      try simp only [Act.put, List.getElem_toArray, List.getElem_cons_succ, List.getElem_cons_zero, List.setIfInBounds_toArray, List.set_cons_zero, List.set_cons_succ]
      refine wpAnyH_take (i := 10) (v := ?_) rfl (by kernel_rfl) (by kernel_rfl) (by kernel_rfl) (fun _ _ _ h => h) (Or.inl ⟨by rfl, ?_⟩) (by assumption) ?_
      rotate_left 1
      · (intro w hSw; (try dsimp only at hSw); go_simp; (try with_reducible rfl))
      try simp only [Act.put, List.getElem_toArray, List.getElem_cons_succ, List.getElem_cons_zero, List.setIfInBounds_toArray, List.set_cons_zero, List.set_cons_succ]
      refine wpAnyH_take (i := 11) (v := ?_) rfl (by kernel_rfl) (by kernel_rfl) (by kernel_rfl) (fun _ _ _ h => h) (Or.inl ⟨by rfl, ?_⟩) (by assumption) ?_
      rotate_left 1
      · (intro w hSw; (try dsimp only at hSw); go_simp; (try with_reducible rfl))
      try simp only [Act.put, List.getElem_toArray, List.getElem_cons_succ, List.getElem_cons_zero, List.setIfInBounds_toArray, List.set_cons_zero, List.set_cons_succ]
      refine wpAnyH_take (i := 12) (v := ?_) rfl (by kernel_rfl) (by kernel_rfl) (by kernel_rfl) (fun _ _ _ h => h) (Or.inl ⟨by rfl, ?_⟩) (by assumption) ?_
      rotate_left 1
      · (intro w hSw; (try dsimp only at hSw); go_simp; (try with_reducible rfl))
      try simp only [Act.put, List.getElem_toArray, List.getElem_cons_succ, List.getElem_cons_zero, List.setIfInBounds_toArray, List.set_cons_zero, List.set_cons_succ]
      refine wpAnyH_take (i := 13) (v := ?_) rfl (by kernel_rfl) (by kernel_rfl) (by kernel_rfl) (fun _ _ _ h => h) (Or.inl ⟨by rfl, ?_⟩) (by assumption) ?_
      rotate_left 1
      · (intro w hSw; (try dsimp only at hSw); go_simp; (try with_reducible rfl))
      try simp only [Act.put, List.getElem_toArray, List.getElem_cons_succ, List.getElem_cons_zero, List.setIfInBounds_toArray, List.set_cons_zero, List.set_cons_succ]
      refine wpAnyH_ready (rs := [14]) (by kernel_rfl) (by simp) ?_
      refine AllReadyH.cons rfl (fun K hK => ?_) AllReadyH.nil
      go_simp
      (go_at_call 95; (with_reducible refine ((CI _ (HST.out.next HB2.out)).out).mono ?_); rintro e w3 ⟨rfl, hw3⟩; have hb3 := below_nxt HB2.out hw3; have HB3 := Lib.hid hb3; have l1 := (hb3.cell (p := ⟨w.heap.size, 0, none⟩) p0).trans p1; have l2 := (hb3.cell (p := ⟨w.heap.size, 1, none⟩) p0).trans p2; have l2' := (hb3.cell (p := ⟨w.heap.size, 2, none⟩) p0).trans p3; have l3 := (hb3.cell (p := ⟨w.heap.size, 3, none⟩) p0).trans p4; have l4 := (hb3.cell (p := ⟨w.heap.size + 1, 0, none⟩) q0).trans q1; have l5 := (hb3.cell (p := ⟨w.heap.size + 1, 1, none⟩) q0).trans q2; clear hb3 hw3)
      go_simp
      refine hK.out _ _ ?_ (fun hHeld => ?_)
      · refine ⟨⟨?_, ?_, ?_, ?_⟩, ⟨?_, ?_⟩, ?_⟩ <;> assumption
      clear hK K
      try simp only [Act.put, List.getElem_toArray, List.getElem_cons_succ, List.getElem_cons_zero, List.setIfInBounds_toArray, List.set_cons_zero, List.set_cons_succ]
      refine wpAnyH_take (i := 15) (v := ?_) rfl (by kernel_rfl) (by kernel_rfl) (by kernel_rfl) (fun _ _ _ h => h) (Or.inl ⟨by rfl, ?_⟩) (by assumption) ?_
      rotate_left 1
      · (intro w hSw; (try dsimp only at hSw); go_simp; (try with_reducible rfl))
      try simp only [Act.put, List.getElem_toArray, List.getElem_cons_succ, List.getElem_cons_zero, List.setIfInBounds_toArray, List.set_cons_zero, List.set_cons_succ]
      refine wpAnyH_take (i := 16) (v := ?_) rfl (by kernel_rfl) (by kernel_rfl) (by kernel_rfl) (fun _ _ _ h => h) (Or.inl ⟨by rfl, ?_⟩) (by assumption) ?_
      rotate_left 1
      · (intro w hSw; (try dsimp only at hSw); go_simp; (try with_reducible rfl))
      try simp only [Act.put, List.getElem_toArray, List.getElem_cons_succ, List.getElem_cons_zero, List.setIfInBounds_toArray, List.set_cons_zero, List.set_cons_succ]
      refine wpAnyH_done (by kernel_rfl) ?_ _
      refine NoPanic.normal ?_
      go_wp2
      exact bodyPost_ret (v := .bool false) (by simp [results, Tryz.results80, go_sem]) rfl ⟨rfl, below_nxt HL0.out HB3.out⟩
    · rw [hI] at CI HQ2
      have HQ3 : Hid (q = Ic.tight n on fr c v n) := Lib.hid (by have := HQ2.out; simpa using this)
      clear HQ2
      go_enter Tryz.func80, Tryz.ntmps80
      go_wp2
      refine wp_region_noPanic ?_
      refine wp_region_held_drew (S := (fun W => (W.cell? ⟨w.heap.size, 0, none⟩ = some (.int .i64 n) ∧ W.cell? ⟨w.heap.size, 1, none⟩ = some (.int .u64 (on : Int)) ∧ W.cell? ⟨w.heap.size, 2, none⟩ = some (.int .i64 m) ∧ W.cell? ⟨w.heap.size, 3, none⟩ = some (.int .u64 (fr : Int))) ∧ (W.cell? ⟨w.heap.size + 1, 0, none⟩ = some (.int .u64 (c : Int)) ∧ W.cell? ⟨w.heap.size + 1, 1, none⟩ = some (.int .u64 (v : Int))) ∧ Hid (Below X.heap.size X W))) (by kernel_rfl) ?_ (fun hHeld => ?_)
      · refine ⟨⟨?_, ?_, ?_, ?_⟩, ⟨?_, ?_⟩, ?_⟩ <;> assumption
      refine wpAnyH_take (i := 0) (v := ?_) rfl (by kernel_rfl) (by kernel_rfl) (by kernel_rfl) (fun _ _ _ h => h) (Or.inl ⟨by rfl, ?_⟩) (by assumption) ?_
      rotate_left 1
      · (intro w hSw; (try dsimp only at hSw); go_simp; (try with_reducible rfl))
      try simp only [Act.put, List.getElem_toArray, List.getElem_cons_succ, List.getElem_cons_zero, List.setIfInBounds_toArray, List.set_cons_zero, List.set_cons_succ]
      refine wpAnyH_take (i := 1) (v := ?_) rfl (by kernel_rfl) (by kernel_rfl) (by kernel_rfl) (fun _ _ _ h => h) (Or.inl ⟨by rfl, ?_⟩) (by assumption) ?_
      rotate_left 1
      · (intro w hSw; (try dsimp only at hSw); go_simp; (try with_reducible rfl))
      try simp only [Act.put, List.getElem_toArray, List.getElem_cons_succ, List.getElem_cons_zero, List.setIfInBounds_toArray, List.set_cons_zero, List.set_cons_succ]
      refine wpAnyH_take (i := 2) (v := ?_) rfl (by kernel_rfl) (by kernel_rfl) (by kernel_rfl) (fun _ _ _ h => h) (Or.inl ⟨by rfl, ?_⟩) (by assumption) ?_
      rotate_left 1
      · (intro w hSw; (try dsimp only at hSw); go_simp; (try with_reducible rfl))
      try simp only [Act.put, List.getElem_toArray, List.getElem_cons_succ, List.getElem_cons_zero, List.setIfInBounds_toArray, List.set_cons_zero, List.set_cons_succ]
      refine wpAnyH_take (i := 3) (v := ?_) rfl (by kernel_rfl) (by kernel_rfl) (by kernel_rfl) (fun _ _ _ h => h) (Or.inl ⟨by rfl, ?_⟩) (by assumption) ?_
      rotate_left 1
      · (intro w hSw; (try dsimp only at hSw); go_simp; (try with_reducible rfl))
      try simp only [Act.put, List.getElem_toArray, List.getElem_cons_succ, List.getElem_cons_zero, List.setIfInBounds_toArray, List.set_cons_zero, List.set_cons_succ]
      refine wpAnyH_take (i := 6) (v := ?_) rfl (by kernel_rfl) (by kernel_rfl) (by kernel_rfl) (fun _ _ _ h => h) (Or.inl ⟨by rfl, ?_⟩) (by assumption) ?_
      rotate_left 1
      · (intro w hSw; (try dsimp only at hSw); go_simp; (try with_reducible rfl))
      try simp only [Act.put, List.getElem_toArray, List.getElem_cons_succ, List.getElem_cons_zero, List.setIfInBounds_toArray, List.set_cons_zero, List.set_cons_succ]
      refine wpAnyH_take (i := 7) (v := ?_) rfl (by kernel_rfl) (by kernel_rfl) (by kernel_rfl) (fun _ _ _ h => h) (Or.inl ⟨by rfl, ?_⟩) (by assumption) ?_
      rotate_left 1
      · (intro w hSw; (try dsimp only at hSw); go_simp; (try with_reducible rfl))
      try simp only [Act.put, List.getElem_toArray, List.getElem_cons_succ, List.getElem_cons_zero, List.setIfInBounds_toArray, List.set_cons_zero, List.set_cons_succ]
      refine wpAnyH_take (i := 8) (v := ?_) rfl (by kernel_rfl) (by kernel_rfl) (by kernel_rfl) (fun _ _ _ h => h) (Or.inl ⟨by rfl, ?_⟩) (by assumption) ?_
      rotate_left 1
      · (intro w hSw; (try dsimp only at hSw); go_simp; (try with_reducible rfl))
      try simp only [Act.put, List.getElem_toArray, List.getElem_cons_succ, List.getElem_cons_zero, List.setIfInBounds_toArray, List.set_cons_zero, List.set_cons_succ]
      refine wpAnyH_ready (rs := [4]) (by kernel_rfl) (by simp) ?_
      refine AllReadyH.cons rfl (fun K hK => ?_) AllReadyH.nil
      go_simp
      (go_at_call 68; (with_reducible refine ((CT _ (HST.out.next HB.out)).out).mono ?_); rintro e w2 ⟨rfl, hw2⟩; have hb2 := below_nxt HB.out hw2; have HB2 := Lib.hid hb2; have k1 := (hb2.cell (p := ⟨w.heap.size, 0, none⟩) p0).trans p1; have k2 := (hb2.cell (p := ⟨w.heap.size, 1, none⟩) p0).trans p2; have k2' := (hb2.cell (p := ⟨w.heap.size, 2, none⟩) p0).trans p3; have k3 := (hb2.cell (p := ⟨w.heap.size, 3, none⟩) p0).trans p4; have k4 := (hb2.cell (p := ⟨w.heap.size + 1, 0, none⟩) q0).trans q1; have k5 := (hb2.cell (p := ⟨w.heap.size + 1, 1, none⟩) q0).trans q2; clear hb2 hw2)
      go_simp
      refine hK.out _ _ ?_ (fun hHeld => ?_)
      · refine ⟨⟨?_, ?_, ?_, ?_⟩, ⟨?_, ?_⟩, ?_⟩ <;> assumption
      clear hK K
      try simp only [Act.put, List.getElem_toArray, List.getElem_cons_succ, List.getElem_cons_zero, List.setIfInBounds_toArray, List.set_cons_zero, List.set_cons_succ]
      refine wpAnyH_take (i := 5) (v := ?_) rfl (by kernel_rfl) (by kernel_rfl) (by kernel_rfl) (fun _ _ _ h => h) (Or.inl ⟨by rfl, ?_⟩) (by assumption) ?_
      rotate_left 1
      · (intro w hSw; (try dsimp only at hSw); go_simp; (try with_reducible rfl))
      try simp only [Act.put, List.getElem_toArray, List.getElem_cons_succ, List.getElem_cons_zero, List.setIfInBounds_toArray, List.set_cons_zero, List.set_cons_succ]
      refine wpAnyH_take (i := 9) (v := ?_) rfl (by kernel_rfl) (by kernel_rfl) (by kernel_rfl) (fun _ _ _ h => h) (Or.inl ⟨by rfl, ?_⟩) (by assumption) ?_
      rotate_left 1
      · (intro w hSw; (try dsimp only at hSw); go_simp; (try with_reducible rfl))
      try simp only [Act.put, List.getElem_toArray, List.getElem_cons_succ, List.getElem_cons_zero, List.setIfInBounds_toArray, List.set_cons_zero, List.set_cons_succ]
      refine wpAnyH_take (i := 10) (v := ?_) rfl (by kernel_rfl) (by kernel_rfl) (by kernel_rfl) (fun _ _ _ h => h) (Or.inl ⟨by rfl, ?_⟩) (by assumption) ?_
      rotate_left 1
      · (intro w hSw; (try dsimp only at hSw); go_simp; (try with_reducible rfl))
      try simp only [Act.put, List.getElem_toArray, List.getElem_cons_succ, List.getElem_cons_zero, List.setIfInBounds_toArray, List.set_cons_zero, List.set_cons_succ]
      refine wpAnyH_take (i := 11) (v := ?_) rfl (by kernel_rfl) (by kernel_rfl) (by kernel_rfl) (fun _ _ _ h => h) (Or.inl ⟨by rfl, ?_⟩) (by assumption) ?_
      rotate_left 1
      · (intro w hSw; (try dsimp only at hSw); go_simp; (try with_reducible rfl))
      try simp only [Act.put, List.getElem_toArray, List.getElem_cons_succ, List.getElem_cons_zero, List.setIfInBounds_toArray, List.set_cons_zero, List.set_cons_succ]
      refine wpAnyH_take (i := 12) (v := ?_) rfl (by kernel_rfl) (by kernel_rfl) (by kernel_rfl) (fun _ _ _ h => h) (Or.inl ⟨by rfl, ?_⟩) (by assumption) ?_
      rotate_left 1
      · (intro w hSw; (try dsimp only at hSw); go_simp; (try with_reducible rfl))
      try simp only [Act.put, List.getElem_toArray, List.getElem_cons_succ, List.getElem_cons_zero, List.setIfInBounds_toArray, List.set_cons_zero, List.set_cons_succ]
      refine wpAnyH_take (i := 13) (v := ?_) rfl (by kernel_rfl) (by kernel_rfl) (by kernel_rfl) (fun _ _ _ h => h) (Or.inl ⟨by rfl, ?_⟩) (by assumption) ?_
      rotate_left 1
      · (intro w hSw; (try dsimp only at hSw); go_simp; (try with_reducible rfl))
      try simp only [Act.put, List.getElem_toArray, List.getElem_cons_succ, List.getElem_cons_zero, List.setIfInBounds_toArray, List.set_cons_zero, List.set_cons_succ]
      refine wpAnyH_ready (rs := [14]) (by kernel_rfl) (by simp) ?_
      refine AllReadyH.cons rfl (fun K hK => ?_) AllReadyH.nil
      go_simp
      (go_at_call 95; (with_reducible refine ((CI _ (HST.out.next HB2.out)).out).mono ?_); rintro e w3 ⟨rfl, hw3⟩; have hb3 := below_nxt HB2.out hw3; have HB3 := Lib.hid hb3; have l1 := (hb3.cell (p := ⟨w.heap.size, 0, none⟩) p0).trans p1; have l2 := (hb3.cell (p := ⟨w.heap.size, 1, none⟩) p0).trans p2; have l2' := (hb3.cell (p := ⟨w.heap.size, 2, none⟩) p0).trans p3; have l3 := (hb3.cell (p := ⟨w.heap.size, 3, none⟩) p0).trans p4; have l4 := (hb3.cell (p := ⟨w.heap.size + 1, 0, none⟩) q0).trans q1; have l5 := (hb3.cell (p := ⟨w.heap.size + 1, 1, none⟩) q0).trans q2; clear hb3 hw3)
      go_simp
      refine hK.out _ _ ?_ (fun hHeld => ?_)
      · refine ⟨⟨?_, ?_, ?_, ?_⟩, ⟨?_, ?_⟩, ?_⟩ <;> assumption
      clear hK K
      try simp only [Act.put, List.getElem_toArray, List.getElem_cons_succ, List.getElem_cons_zero, List.setIfInBounds_toArray, List.set_cons_zero, List.set_cons_succ]
      refine wpAnyH_take (i := 15) (v := ?_) rfl (by kernel_rfl) (by kernel_rfl) (by kernel_rfl) (fun _ _ _ h => h) (Or.inl ⟨by rfl, ?_⟩) (by assumption) ?_
      rotate_left 1
      · (intro w hSw; (try dsimp only at hSw); go_simp; (try with_reducible rfl))
      try simp only [Act.put, List.getElem_toArray, List.getElem_cons_succ, List.getElem_cons_zero, List.setIfInBounds_toArray, List.set_cons_zero, List.set_cons_succ]
      refine wpAnyH_take (i := 16) (v := ?_) rfl (by kernel_rfl) (by kernel_rfl) (by kernel_rfl) (fun _ _ _ h => h) (Or.inl ⟨by rfl, ?_⟩) (by assumption) ?_
      rotate_left 1
      · (intro w hSw; (try dsimp only at hSw); go_simp; (try with_reducible rfl))
      try simp only [Act.put, List.getElem_toArray, List.getElem_cons_succ, List.getElem_cons_zero, List.setIfInBounds_toArray, List.set_cons_zero, List.set_cons_succ]
      refine wpAnyH_done (by kernel_rfl) ?_ _
      refine NoPanic.normal ?_
      go_wp2
      have HL3 := Lib.hid (below_nxt HL0.out HB3.out)
      have T0 : TaskI w3 w.heap.size n on m fr := ⟨Nat.lt_of_lt_of_le p0 HB3.out.size, l1, l2, l2', l3⟩
      have T1 : CubI w3 (w.heap.size + 1) c v := ⟨Nat.lt_of_lt_of_le q0 HB3.out.size, l4, l5, (HB3.out.frozen (p := ⟨w.heap.size + 1, 0, none⟩) q0).trans q3, (HB3.out.frozen (p := ⟨w.heap.size + 1, 1, none⟩) q0).trans q4⟩
      have HT0 : Hid (Ic.tight n on fr c v 0 = true) := Lib.hid rfl
      have HSTw := Lib.hid hstw
      have HSub := Lib.hid hs
      clear k1 k2 k2' k3 k4 k5 l1 l2 l2' l3 l4 l5 HB2 HB3 g1 g2 g2' g3 g4 g5 HB p1 p2 p3 p4 q1 q2 q3 q4 CT CI hx' e2 hI
      go_loopw [27] (fun s27 wr => ∃ i : Nat, i ≤ n ∧ s27 = .int .i64 i ∧ TaskI wr w.heap.size n on m fr ∧ CubI wr (w.heap.size + 1) c v ∧ Hid (Below w.heap.size w wr) ∧ Hid (Ic.tight n on fr c v i = true)) (fun s27 _ => n - (intOf s27).toNat)
      case atStart => exact ⟨0, Nat.zero_le _, rfl, T0, T1, HL3, HT0⟩
      case round =>
        clear T0 T1 HL3 HT0
        obtain ⟨i, hi, rfl, R0, R1, HW, HTI⟩ := hrel
        obtain ⟨r0, r1, r2, r3, r4⟩ := id R0
        obtain ⟨s0, s1, s2, s3, s4⟩ := id R1
        by_cases hin : i < n
        · have hi6 : i < 6 := by omega
          have hw2 : IntKind.u64.wrap (2 ^ i) = ((2 ^ i : Nat) : Int) := by
            rw [IntKind.wrap_u64]
            rcases (show i = 0 ∨ i = 1 ∨ i = 2 ∨ i = 3 ∨ i = 4 ∨ i = 5 by omega) with rfl | rfl | rfl | rfl | rfl | rfl <;> rfl
          have CW2 := CW i hi6
          have CJ2 := CJ i
          cases hb : c.testBit i
          · have hcc := Ic.clr_same hc64 (show i < 64 by omega) hb
            have hvb : v.testBit i = false := by
              cases hv : v.testBit i
              · rfl
              · rw [HSub.out i hv] at hb; cases hb
            have hvv := Ic.clr_same hv64 (show i < 64 by omega) hvb
            have HTN : Hid (Ic.tight n on fr c v (i + 1) = true) := Lib.hid (by rw [Ic.tight_succ, HTI.out, hb]; rfl)
            rw [hcc, hvv] at CW2
            clear hcc hvb hvv hb CJ2 CJ CW HTI
            generalize (2 ^ i : Nat) = z at *
            go_wp2
            refine wp_region_noPanic ?_
            refine wp_region_held_drew (S := (fun W => (W.cell? ⟨w.heap.size + 1, 0, none⟩ = some (.int .u64 (c : Int)) ∧ W.cell? ⟨w.heap.size + 1, 1, none⟩ = some (.int .u64 (v : Int))) ∧ Hid (Below wr.heap.size wr W))) (by kernel_rfl) ?_ (fun hHeld => ?_)
            · exact ⟨⟨s1, s2⟩, Lib.hid (Below.refl wr.heap.size wr).drew⟩
            refine wpAnyH_take (i := 0) (v := ?_) rfl (by kernel_rfl) (by kernel_rfl) (by kernel_rfl) (fun _ _ _ h => h) (Or.inl ⟨by rfl, ?_⟩) (by assumption) ?_
            rotate_left 1
            · (intro w hSw; (try dsimp only at hSw); go_simp; (try with_reducible rfl))
            try simp only [Act.put, List.getElem_toArray, List.getElem_cons_succ, List.getElem_cons_zero, List.setIfInBounds_toArray, List.set_cons_zero, List.set_cons_succ]
            refine wpAnyH_take (i := 1) (v := ?_) rfl (by kernel_rfl) (by kernel_rfl) (by kernel_rfl) (fun _ _ _ h => h) (Or.inl ⟨by rfl, ?_⟩) (by assumption) ?_
            rotate_left 1
            · (intro w hSw; (try dsimp only at hSw); go_simp; (try with_reducible rfl))
            try simp only [Act.put, List.getElem_toArray, List.getElem_cons_succ, List.getElem_cons_zero, List.setIfInBounds_toArray, List.set_cons_zero, List.set_cons_succ]
            refine wpAnyH_take (i := 2) (v := ?_) rfl (by kernel_rfl) (by kernel_rfl) (by kernel_rfl) (fun _ _ _ h => h) (Or.inl ⟨by rfl, ?_⟩) (by assumption) ?_
            rotate_left 1
            · (intro w hSw; (try dsimp only at hSw); go_simp; (try with_reducible rfl))
            try simp only [Act.put, List.getElem_toArray, List.getElem_cons_succ, List.getElem_cons_zero, List.setIfInBounds_toArray, List.set_cons_zero, List.set_cons_succ]
            clear hHeld
            have hbd : Below wr.heap.size wr wr.drew := (Below.refl wr.heap.size wr).drew
            refine wpAnyH_ready (rs := [3, 4]) (by kernel_rfl) (by simp) ?_
            refine AllReadyH.cons rfl (fun K hK => ?_) (AllReadyH.cons rfl (fun K hK => ?_) AllReadyH.nil)
            · go_simp
              (with_reducible refine ((CW2 _).out).mono ?_)
              rintro e W2 ⟨rfl, hw2⟩
              have hb2 := hbd.trans (hw2.mono (by simp))
              clear hw2
              go_simp
              refine hK.out _ _ ⟨⟨(hb2.cell (p := ⟨w.heap.size + 1, 0, none⟩) s0).trans s1, (hb2.cell (p := ⟨w.heap.size + 1, 1, none⟩) s0).trans s2⟩, Lib.hid hb2⟩ (fun hHeld => ?_)
              clear hK K hHeld
              try simp only [Act.put, List.getElem_toArray, List.getElem_cons_succ, List.getElem_cons_zero, List.setIfInBounds_toArray, List.set_cons_zero, List.set_cons_succ]
              have hb3 := hb2.alloc hb2.size (.cells #[.int .u64 0, .int .u64 0] 62)
              have N0 := cubI_new W2 0 0 62
              change CubI (W2.alloc (.cells #[.int .u64 0, .int .u64 0] 62)) _ _ _ at N0
              refine wpAnyH_ready (rs := [4]) (by kernel_rfl) (by simp) ?_
              refine AllReadyH.cons rfl (fun K hK => ?_) AllReadyH.nil
              go_simp
              have hgs : wr.heap.size ≤ W2.heap.size := hb2.size
              obtain ⟨g, hg⟩ : ∃ g, W2.heap.size = g := ⟨_, rfl⟩
              rw [hg] at N0 hgs ⊢
              obtain ⟨W3, hW3⟩ : ∃ W3, W2.alloc (.cells #[.int .u64 0, .int .u64 0] 62) = W3 := ⟨_, rfl⟩
              rw [hW3] at hb3 N0 ⊢
              clear hW3 hg
              refine hK.out _ _ ⟨⟨(hb3.cell (p := ⟨w.heap.size + 1, 0, none⟩) s0).trans s1, (hb3.cell (p := ⟨w.heap.size + 1, 1, none⟩) s0).trans s2⟩, Lib.hid hb3⟩ (fun hHeld => ?_)
              clear hK K hHeld
              try simp only [Act.put, List.getElem_toArray, List.getElem_cons_succ, List.getElem_cons_zero, List.setIfInBounds_toArray, List.set_cons_zero, List.set_cons_succ]
              obtain ⟨n0, n1, n2, n3, n4⟩ := id N0
              refine wpAnyH_ready (rs := [5]) (by kernel_rfl) (by simp) ?_
              refine AllReadyH.cons rfl (fun K hK => ?_) AllReadyH.nil
              go_simp
              have N1 := N0.put c v
              have hb4 := below_put2 (B := wr.heap.size) (g := g) hb3 hgs (.int .u64 ((c : Nat) : Int)) (.int .u64 ((v : Nat) : Int))
              obtain ⟨W4, hW4⟩ : ∃ W4, (W3.setCell ⟨g, 0, none⟩ (.int .u64 ((c : Nat) : Int))).setCell ⟨g, 1, none⟩ (.int .u64 ((v : Nat) : Int)) = W4 := ⟨_, rfl⟩
              rw [hW4] at N1 hb4 ⊢
              clear hW4
              refine hK.out _ _ ⟨⟨(hb4.cell (p := ⟨w.heap.size + 1, 0, none⟩) s0).trans s1, (hb4.cell (p := ⟨w.heap.size + 1, 1, none⟩) s0).trans s2⟩, Lib.hid hb4⟩ (fun hHeld => ?_)
              clear hK K hHeld
              try simp only [Act.put, List.getElem_toArray, List.getElem_cons_succ, List.getElem_cons_zero, List.setIfInBounds_toArray, List.set_cons_zero, List.set_cons_succ]
              refine wpAnyH_done (by kernel_rfl) ?_ _
              refine NoPanic.normal ?_
              have Q0 := R0.below r0 hb4
              have Q1 := R1.below s0 hb4
              have HB4 := Lib.hid (below_nxt HW.out hb4)
              obtain ⟨x0, x1, x2, x3, x4⟩ := id Q0
              obtain ⟨y0, y1, y2, y3, y4⟩ := id Q1
              obtain ⟨z0, z1, z2, z3, z4⟩ := id N1
              clear N0 hb3 hb4 n1 n2 n3 n4 s1 s2 s3 s4 r1 r2 r3 r4
              go_wp2
              go_roundw
              case rel => exact ⟨i + 1, by omega, by go_num, Q0, Q1, HB4, HTN⟩
              case measure => simp [intOf]; omega
            · have hb2 := ((Below.refl wr.heap.size wr).alloc (Nat.le_refl wr.heap.size) (.cells #[.int .u64 0, .int .u64 0] 62)).drew
              have M0 := (cubI_new wr 0 0 62).drew
              change CubI (wr.alloc (.cells #[.int .u64 0, .int .u64 0] 62)).drew _ _ _ at M0
              go_simp
              obtain ⟨W2, hW2⟩ : ∃ W2, (wr.alloc (.cells #[.int .u64 0, .int .u64 0] 62)).drew = W2 := ⟨_, rfl⟩
              rw [hW2] at hb2 M0 ⊢
              clear hW2
              change CubI W2 wr.heap.size 0 0 at M0
              have hgs : wr.heap.size ≤ wr.heap.size := Nat.le_refl _
              have hg : True := trivial
              refine hK.out _ _ ⟨⟨(hb2.cell (p := ⟨w.heap.size + 1, 0, none⟩) s0).trans s1, (hb2.cell (p := ⟨w.heap.size + 1, 1, none⟩) s0).trans s2⟩, Lib.hid hb2⟩ (fun hHeld => ?_)
              clear hK K hHeld
              try simp only [Act.put, List.getElem_toArray, List.getElem_cons_succ, List.getElem_cons_zero, List.setIfInBounds_toArray, List.set_cons_zero, List.set_cons_succ]
              refine wpAnyH_ready (rs := [3]) (by kernel_rfl) (by simp) ?_
              refine AllReadyH.cons rfl (fun K hK => ?_) AllReadyH.nil
              go_simp
              (with_reducible refine ((CW2 _).out).mono ?_)
              rintro e W3 ⟨rfl, hw3⟩
              have hb3 := hb2.trans (hw3.mono hb2.size)
              have N0 := M0.step hw3
              clear hw3
              go_simp
              refine hK.out _ _ ⟨⟨(hb3.cell (p := ⟨w.heap.size + 1, 0, none⟩) s0).trans s1, (hb3.cell (p := ⟨w.heap.size + 1, 1, none⟩) s0).trans s2⟩, Lib.hid hb3⟩ (fun hHeld => ?_)
              clear hK K hHeld
              try simp only [Act.put, List.getElem_toArray, List.getElem_cons_succ, List.getElem_cons_zero, List.setIfInBounds_toArray, List.set_cons_zero, List.set_cons_succ]
              clear hg
              obtain ⟨n0, n1, n2, n3, n4⟩ := id N0
              refine wpAnyH_ready (rs := [5]) (by kernel_rfl) (by simp) ?_
              refine AllReadyH.cons rfl (fun K hK => ?_) AllReadyH.nil
              go_simp
              have N1 := N0.put c v
              have hb4 := below_put2 (B := wr.heap.size) (g := wr.heap.size) hb3 hgs (.int .u64 ((c : Nat) : Int)) (.int .u64 ((v : Nat) : Int))
              obtain ⟨W4, hW4⟩ : ∃ W4, (W3.setCell ⟨wr.heap.size, 0, none⟩ (.int .u64 ((c : Nat) : Int))).setCell ⟨wr.heap.size, 1, none⟩ (.int .u64 ((v : Nat) : Int)) = W4 := ⟨_, rfl⟩
              rw [hW4] at N1 hb4 ⊢
              clear hW4
              refine hK.out _ _ ⟨⟨(hb4.cell (p := ⟨w.heap.size + 1, 0, none⟩) s0).trans s1, (hb4.cell (p := ⟨w.heap.size + 1, 1, none⟩) s0).trans s2⟩, Lib.hid hb4⟩ (fun hHeld => ?_)
              clear hK K hHeld
              try simp only [Act.put, List.getElem_toArray, List.getElem_cons_succ, List.getElem_cons_zero, List.setIfInBounds_toArray, List.set_cons_zero, List.set_cons_succ]
              refine wpAnyH_done (by kernel_rfl) ?_ _
              refine NoPanic.normal ?_
              have Q0 := R0.below r0 hb4
              have Q1 := R1.below s0 hb4
              have HB4 := Lib.hid (below_nxt HW.out hb4)
              obtain ⟨x0, x1, x2, x3, x4⟩ := id Q0
              obtain ⟨y0, y1, y2, y3, y4⟩ := id Q1
              obtain ⟨z0, z1, z2, z3, z4⟩ := id N1
              clear N0 hb3 hb4 n1 n2 n3 n4 s1 s2 s3 s4 r1 r2 r3 r4
              go_wp2
              go_roundw
              case rel => exact ⟨i + 1, by omega, by go_num, Q0, Q1, HB4, HTN⟩
              case measure => simp [intOf]; omega
          · have hne := Ic.clr_ne (show i < 64 by omega) hb
            have HTS : Hid (Ic.tight n on fr c v (i + 1) = !Ic.imp n on fr (c &&& (18446744073709551615 - 2 ^ i)) (v &&& (18446744073709551615 - 2 ^ i))) := Lib.hid (by rw [Ic.tight_succ, HTI.out, hb]; simp)
            have HTF : Hid (Ic.imp n on fr (c &&& (18446744073709551615 - 2 ^ i)) (v &&& (18446744073709551615 - 2 ^ i)) = true → q = false) := Lib.hid (fun h => by rw [HQ3.out]; exact Ic.all_bad (m := i) hin (by simp only [hb, h]; rfl))
            clear hb CJ CW HTI
            generalize (c &&& (18446744073709551615 - 2 ^ i)) = cc at *
            generalize (v &&& (18446744073709551615 - 2 ^ i)) = vv at *
            have hn1 : ((cc : Int) == (c : Int)) = false := by simp; omega
            have hn2 : ¬ (cc : Int) = (c : Int) := by omega
            generalize (2 ^ i : Nat) = z at *
            cases hJ : Ic.imp n on fr cc vv
            · rw [hJ] at CJ2 HTS
              clear HTF
              go_wp2
              refine wp_region_noPanic ?_
              refine wp_region_held_drew (S := (fun W => (W.cell? ⟨w.heap.size + 1, 0, none⟩ = some (.int .u64 (c : Int)) ∧ W.cell? ⟨w.heap.size + 1, 1, none⟩ = some (.int .u64 (v : Int))) ∧ Hid (Below wr.heap.size wr W))) (by kernel_rfl) ?_ (fun hHeld => ?_)
              · exact ⟨⟨s1, s2⟩, Lib.hid (Below.refl wr.heap.size wr).drew⟩
              refine wpAnyH_take (i := 0) (v := ?_) rfl (by kernel_rfl) (by kernel_rfl) (by kernel_rfl) (fun _ _ _ h => h) (Or.inl ⟨by rfl, ?_⟩) (by assumption) ?_
              rotate_left 1
              · (intro w hSw; (try dsimp only at hSw); go_simp; (try with_reducible rfl))
              try simp only [Act.put, List.getElem_toArray, List.getElem_cons_succ, List.getElem_cons_zero, List.setIfInBounds_toArray, List.set_cons_zero, List.set_cons_succ]
              refine wpAnyH_take (i := 1) (v := ?_) rfl (by kernel_rfl) (by kernel_rfl) (by kernel_rfl) (fun _ _ _ h => h) (Or.inl ⟨by rfl, ?_⟩) (by assumption) ?_
              rotate_left 1
              · (intro w hSw; (try dsimp only at hSw); go_simp; (try with_reducible rfl))
              try simp only [Act.put, List.getElem_toArray, List.getElem_cons_succ, List.getElem_cons_zero, List.setIfInBounds_toArray, List.set_cons_zero, List.set_cons_succ]
              refine wpAnyH_take (i := 2) (v := ?_) rfl (by kernel_rfl) (by kernel_rfl) (by kernel_rfl) (fun _ _ _ h => h) (Or.inl ⟨by rfl, ?_⟩) (by assumption) ?_
              rotate_left 1
              · (intro w hSw; (try dsimp only at hSw); go_simp; (try with_reducible rfl))
              try simp only [Act.put, List.getElem_toArray, List.getElem_cons_succ, List.getElem_cons_zero, List.setIfInBounds_toArray, List.set_cons_zero, List.set_cons_succ]
              clear hHeld
              have hbd : Below wr.heap.size wr wr.drew := (Below.refl wr.heap.size wr).drew
              refine wpAnyH_ready (rs := [3, 4]) (by kernel_rfl) (by simp) ?_
              refine AllReadyH.cons rfl (fun K hK => ?_) (AllReadyH.cons rfl (fun K hK => ?_) AllReadyH.nil)
              · go_simp
                (with_reducible refine ((CW2 _).out).mono ?_)
                rintro e W2 ⟨rfl, hw2⟩
                have hb2 := hbd.trans (hw2.mono (by simp))
                clear hw2
                go_simp
                refine hK.out _ _ ⟨⟨(hb2.cell (p := ⟨w.heap.size + 1, 0, none⟩) s0).trans s1, (hb2.cell (p := ⟨w.heap.size + 1, 1, none⟩) s0).trans s2⟩, Lib.hid hb2⟩ (fun hHeld => ?_)
                clear hK K hHeld
                try simp only [Act.put, List.getElem_toArray, List.getElem_cons_succ, List.getElem_cons_zero, List.setIfInBounds_toArray, List.set_cons_zero, List.set_cons_succ]
                have hb3 := hb2.alloc hb2.size (.cells #[.int .u64 0, .int .u64 0] 62)
                have N0 := cubI_new W2 0 0 62
                change CubI (W2.alloc (.cells #[.int .u64 0, .int .u64 0] 62)) _ _ _ at N0
                refine wpAnyH_ready (rs := [4]) (by kernel_rfl) (by simp) ?_
                refine AllReadyH.cons rfl (fun K hK => ?_) AllReadyH.nil
                go_simp
                have hgs : wr.heap.size ≤ W2.heap.size := hb2.size
                obtain ⟨g, hg⟩ : ∃ g, W2.heap.size = g := ⟨_, rfl⟩
                rw [hg] at N0 hgs ⊢
                obtain ⟨W3, hW3⟩ : ∃ W3, W2.alloc (.cells #[.int .u64 0, .int .u64 0] 62) = W3 := ⟨_, rfl⟩
                rw [hW3] at hb3 N0 ⊢
                clear hW3 hg
                refine hK.out _ _ ⟨⟨(hb3.cell (p := ⟨w.heap.size + 1, 0, none⟩) s0).trans s1, (hb3.cell (p := ⟨w.heap.size + 1, 1, none⟩) s0).trans s2⟩, Lib.hid hb3⟩ (fun hHeld => ?_)
                clear hK K hHeld
                try simp only [Act.put, List.getElem_toArray, List.getElem_cons_succ, List.getElem_cons_zero, List.setIfInBounds_toArray, List.set_cons_zero, List.set_cons_succ]
                obtain ⟨n0, n1, n2, n3, n4⟩ := id N0
                refine wpAnyH_ready (rs := [5]) (by kernel_rfl) (by simp) ?_
                refine AllReadyH.cons rfl (fun K hK => ?_) AllReadyH.nil
                go_simp
                have N1 := N0.put cc vv
                have hb4 := below_put2 (B := wr.heap.size) (g := g) hb3 hgs (.int .u64 ((cc : Nat) : Int)) (.int .u64 ((vv : Nat) : Int))
                obtain ⟨W4, hW4⟩ : ∃ W4, (W3.setCell ⟨g, 0, none⟩ (.int .u64 ((cc : Nat) : Int))).setCell ⟨g, 1, none⟩ (.int .u64 ((vv : Nat) : Int)) = W4 := ⟨_, rfl⟩
                rw [hW4] at N1 hb4 ⊢
                clear hW4
                refine hK.out _ _ ⟨⟨(hb4.cell (p := ⟨w.heap.size + 1, 0, none⟩) s0).trans s1, (hb4.cell (p := ⟨w.heap.size + 1, 1, none⟩) s0).trans s2⟩, Lib.hid hb4⟩ (fun hHeld => ?_)
                clear hK K hHeld
                try simp only [Act.put, List.getElem_toArray, List.getElem_cons_succ, List.getElem_cons_zero, List.setIfInBounds_toArray, List.set_cons_zero, List.set_cons_succ]
                refine wpAnyH_done (by kernel_rfl) ?_ _
                refine NoPanic.normal ?_
                have Q0 := R0.below r0 hb4
                have Q1 := R1.below s0 hb4
                have HB4 := Lib.hid (below_nxt HW.out hb4)
                obtain ⟨x0, x1, x2, x3, x4⟩ := id Q0
                obtain ⟨y0, y1, y2, y3, y4⟩ := id Q1
                obtain ⟨z0, z1, z2, z3, z4⟩ := id N1
                clear N0 hb3 hb4 n1 n2 n3 n4 s1 s2 s3 s4 r1 r2 r3 r4
                go_wp2_with fail
                refine ((CJ2 _ (HSTw.out.next HB4.out)).out).mono ?_
                rintro e W5 ⟨rfl, hw5⟩
                replace Q0 := Q0.step hw5
                replace Q1 := Q1.step hw5
                have HB5 := Lib.hid (below_nxt HB4.out hw5)
                go_wp2
                go_roundw
                case rel => exact ⟨i + 1, by omega, by go_num, Q0, Q1, HB5, Lib.hid (by have := HTS.out; simpa using this)⟩
                case measure => simp [intOf]; omega
              · have hb2 := ((Below.refl wr.heap.size wr).alloc (Nat.le_refl wr.heap.size) (.cells #[.int .u64 0, .int .u64 0] 62)).drew
                have M0 := (cubI_new wr 0 0 62).drew
                change CubI (wr.alloc (.cells #[.int .u64 0, .int .u64 0] 62)).drew _ _ _ at M0
                go_simp
                obtain ⟨W2, hW2⟩ : ∃ W2, (wr.alloc (.cells #[.int .u64 0, .int .u64 0] 62)).drew = W2 := ⟨_, rfl⟩
                rw [hW2] at hb2 M0 ⊢
                clear hW2
                change CubI W2 wr.heap.size 0 0 at M0
                have hgs : wr.heap.size ≤ wr.heap.size := Nat.le_refl _
                have hg : True := trivial
                refine hK.out _ _ ⟨⟨(hb2.cell (p := ⟨w.heap.size + 1, 0, none⟩) s0).trans s1, (hb2.cell (p := ⟨w.heap.size + 1, 1, none⟩) s0).trans s2⟩, Lib.hid hb2⟩ (fun hHeld => ?_)
                clear hK K hHeld
                try simp only [Act.put, List.getElem_toArray, List.getElem_cons_succ, List.getElem_cons_zero, List.setIfInBounds_toArray, List.set_cons_zero, List.set_cons_succ]
                refine wpAnyH_ready (rs := [3]) (by kernel_rfl) (by simp) ?_
                refine AllReadyH.cons rfl (fun K hK => ?_) AllReadyH.nil
                go_simp
                (with_reducible refine ((CW2 _).out).mono ?_)
                rintro e W3 ⟨rfl, hw3⟩
                have hb3 := hb2.trans (hw3.mono hb2.size)
                have N0 := M0.step hw3
                clear hw3
                go_simp
                refine hK.out _ _ ⟨⟨(hb3.cell (p := ⟨w.heap.size + 1, 0, none⟩) s0).trans s1, (hb3.cell (p := ⟨w.heap.size + 1, 1, none⟩) s0).trans s2⟩, Lib.hid hb3⟩ (fun hHeld => ?_)
                clear hK K hHeld
                try simp only [Act.put, List.getElem_toArray, List.getElem_cons_succ, List.getElem_cons_zero, List.setIfInBounds_toArray, List.set_cons_zero, List.set_cons_succ]
                clear hg
                obtain ⟨n0, n1, n2, n3, n4⟩ := id N0
                refine wpAnyH_ready (rs := [5]) (by kernel_rfl) (by simp) ?_
                refine AllReadyH.cons rfl (fun K hK => ?_) AllReadyH.nil
                go_simp
                have N1 := N0.put cc vv
                have hb4 := below_put2 (B := wr.heap.size) (g := wr.heap.size) hb3 hgs (.int .u64 ((cc : Nat) : Int)) (.int .u64 ((vv : Nat) : Int))
                obtain ⟨W4, hW4⟩ : ∃ W4, (W3.setCell ⟨wr.heap.size, 0, none⟩ (.int .u64 ((cc : Nat) : Int))).setCell ⟨wr.heap.size, 1, none⟩ (.int .u64 ((vv : Nat) : Int)) = W4 := ⟨_, rfl⟩
                rw [hW4] at N1 hb4 ⊢
                clear hW4
                refine hK.out _ _ ⟨⟨(hb4.cell (p := ⟨w.heap.size + 1, 0, none⟩) s0).trans s1, (hb4.cell (p := ⟨w.heap.size + 1, 1, none⟩) s0).trans s2⟩, Lib.hid hb4⟩ (fun hHeld => ?_)
                clear hK K hHeld
                try simp only [Act.put, List.getElem_toArray, List.getElem_cons_succ, List.getElem_cons_zero, List.setIfInBounds_toArray, List.set_cons_zero, List.set_cons_succ]
                refine wpAnyH_done (by kernel_rfl) ?_ _
                refine NoPanic.normal ?_
                have Q0 := R0.below r0 hb4
                have Q1 := R1.below s0 hb4
                have HB4 := Lib.hid (below_nxt HW.out hb4)
                obtain ⟨x0, x1, x2, x3, x4⟩ := id Q0
                obtain ⟨y0, y1, y2, y3, y4⟩ := id Q1
                obtain ⟨z0, z1, z2, z3, z4⟩ := id N1
                clear N0 hb3 hb4 n1 n2 n3 n4 s1 s2 s3 s4 r1 r2 r3 r4
                go_wp2_with fail
                refine ((CJ2 _ (HSTw.out.next HB4.out)).out).mono ?_
                rintro e W5 ⟨rfl, hw5⟩
                replace Q0 := Q0.step hw5
                replace Q1 := Q1.step hw5
                have HB5 := Lib.hid (below_nxt HB4.out hw5)
                go_wp2
                go_roundw
                case rel => exact ⟨i + 1, by omega, by go_num, Q0, Q1, HB5, Lib.hid (by have := HTS.out; simpa using this)⟩
                case measure => simp [intOf]; omega
            · rw [hJ] at CJ2 HTF
              obtain rfl : q = false := by have := HTF.out; simpa using this
              clear HTS HQ3
              go_wp2
              refine wp_region_noPanic ?_
              refine wp_region_held_drew (S := (fun W => (W.cell? ⟨w.heap.size + 1, 0, none⟩ = some (.int .u64 (c : Int)) ∧ W.cell? ⟨w.heap.size + 1, 1, none⟩ = some (.int .u64 (v : Int))) ∧ Hid (Below wr.heap.size wr W))) (by kernel_rfl) ?_ (fun hHeld => ?_)
              · exact ⟨⟨s1, s2⟩, Lib.hid (Below.refl wr.heap.size wr).drew⟩
              refine wpAnyH_take (i := 0) (v := ?_) rfl (by kernel_rfl) (by kernel_rfl) (by kernel_rfl) (fun _ _ _ h => h) (Or.inl ⟨by rfl, ?_⟩) (by assumption) ?_
              rotate_left 1
              · (intro w hSw; (try dsimp only at hSw); go_simp; (try with_reducible rfl))
              try simp only [Act.put, List.getElem_toArray, List.getElem_cons_succ, List.getElem_cons_zero, List.setIfInBounds_toArray, List.set_cons_zero, List.set_cons_succ]
              refine wpAnyH_take (i := 1) (v := ?_) rfl (by kernel_rfl) (by kernel_rfl) (by kernel_rfl) (fun _ _ _ h => h) (Or.inl ⟨by rfl, ?_⟩) (by assumption) ?_
              rotate_left 1
              · (intro w hSw; (try dsimp only at hSw); go_simp; (try with_reducible rfl))
              try simp only [Act.put, List.getElem_toArray, List.getElem_cons_succ, List.getElem_cons_zero, List.setIfInBounds_toArray, List.set_cons_zero, List.set_cons_succ]
              refine wpAnyH_take (i := 2) (v := ?_) rfl (by kernel_rfl) (by kernel_rfl) (by kernel_rfl) (fun _ _ _ h => h) (Or.inl ⟨by rfl, ?_⟩) (by assumption) ?_
              rotate_left 1
              · (intro w hSw; (try dsimp only at hSw); go_simp; (try with_reducible rfl))
              try simp only [Act.put, List.getElem_toArray, List.getElem_cons_succ, List.getElem_cons_zero, List.setIfInBounds_toArray, List.set_cons_zero, List.set_cons_succ]
              clear hHeld
              have hbd : Below wr.heap.size wr wr.drew := (Below.refl wr.heap.size wr).drew
              refine wpAnyH_ready (rs := [3, 4]) (by kernel_rfl) (by simp) ?_
              refine AllReadyH.cons rfl (fun K hK => ?_) (AllReadyH.cons rfl (fun K hK => ?_) AllReadyH.nil)
              · go_simp
                (with_reducible refine ((CW2 _).out).mono ?_)
                rintro e W2 ⟨rfl, hw2⟩
                have hb2 := hbd.trans (hw2.mono (by simp))
                clear hw2
                go_simp
                refine hK.out _ _ ⟨⟨(hb2.cell (p := ⟨w.heap.size + 1, 0, none⟩) s0).trans s1, (hb2.cell (p := ⟨w.heap.size + 1, 1, none⟩) s0).trans s2⟩, Lib.hid hb2⟩ (fun hHeld => ?_)
                clear hK K hHeld
                try simp only [Act.put, List.getElem_toArray, List.getElem_cons_succ, List.getElem_cons_zero, List.setIfInBounds_toArray, List.set_cons_zero, List.set_cons_succ]
                have hb3 := hb2.alloc hb2.size (.cells #[.int .u64 0, .int .u64 0] 62)
                have N0 := cubI_new W2 0 0 62
                change CubI (W2.alloc (.cells #[.int .u64 0, .int .u64 0] 62)) _ _ _ at N0
                refine wpAnyH_ready (rs := [4]) (by kernel_rfl) (by simp) ?_
                refine AllReadyH.cons rfl (fun K hK => ?_) AllReadyH.nil
                go_simp
                have hgs : wr.heap.size ≤ W2.heap.size := hb2.size
                obtain ⟨g, hg⟩ : ∃ g, W2.heap.size = g := ⟨_, rfl⟩
                rw [hg] at N0 hgs ⊢
                obtain ⟨W3, hW3⟩ : ∃ W3, W2.alloc (.cells #[.int .u64 0, .int .u64 0] 62) = W3 := ⟨_, rfl⟩
                rw [hW3] at hb3 N0 ⊢
                clear hW3 hg
                refine hK.out _ _ ⟨⟨(hb3.cell (p := ⟨w.heap.size + 1, 0, none⟩) s0).trans s1, (hb3.cell (p := ⟨w.heap.size + 1, 1, none⟩) s0).trans s2⟩, Lib.hid hb3⟩ (fun hHeld => ?_)
                clear hK K hHeld
                try simp only [Act.put, List.getElem_toArray, List.getElem_cons_succ, List.getElem_cons_zero, List.setIfInBounds_toArray, List.set_cons_zero, List.set_cons_succ]
                obtain ⟨n0, n1, n2, n3, n4⟩ := id N0
                refine wpAnyH_ready (rs := [5]) (by kernel_rfl) (by simp) ?_
                refine AllReadyH.cons rfl (fun K hK => ?_) AllReadyH.nil
                go_simp
                have N1 := N0.put cc vv
                have hb4 := below_put2 (B := wr.heap.size) (g := g) hb3 hgs (.int .u64 ((cc : Nat) : Int)) (.int .u64 ((vv : Nat) : Int))
                obtain ⟨W4, hW4⟩ : ∃ W4, (W3.setCell ⟨g, 0, none⟩ (.int .u64 ((cc : Nat) : Int))).setCell ⟨g, 1, none⟩ (.int .u64 ((vv : Nat) : Int)) = W4 := ⟨_, rfl⟩
                rw [hW4] at N1 hb4 ⊢
                clear hW4
                refine hK.out _ _ ⟨⟨(hb4.cell (p := ⟨w.heap.size + 1, 0, none⟩) s0).trans s1, (hb4.cell (p := ⟨w.heap.size + 1, 1, none⟩) s0).trans s2⟩, Lib.hid hb4⟩ (fun hHeld => ?_)
                clear hK K hHeld
                try simp only [Act.put, List.getElem_toArray, List.getElem_cons_succ, List.getElem_cons_zero, List.setIfInBounds_toArray, List.set_cons_zero, List.set_cons_succ]
                refine wpAnyH_done (by kernel_rfl) ?_ _
                refine NoPanic.normal ?_
                have Q0 := R0.below r0 hb4
                have Q1 := R1.below s0 hb4
                have HB4 := Lib.hid (below_nxt HW.out hb4)
                obtain ⟨x0, x1, x2, x3, x4⟩ := id Q0
                obtain ⟨y0, y1, y2, y3, y4⟩ := id Q1
                obtain ⟨z0, z1, z2, z3, z4⟩ := id N1
                clear N0 hb3 hb4 n1 n2 n3 n4 s1 s2 s3 s4 r1 r2 r3 r4
                go_wp2_with fail
                refine ((CJ2 _ (HSTw.out.next HB4.out)).out).mono ?_
                rintro e W5 ⟨rfl, hw5⟩
                have HB5 := Lib.hid (below_nxt HB4.out hw5)
                go_wp2
                exact bodyPost_ret (v := .bool false) (by simp [results, Tryz.results80, go_sem]) rfl ⟨rfl, HB5.out⟩
              · have hb2 := ((Below.refl wr.heap.size wr).alloc (Nat.le_refl wr.heap.size) (.cells #[.int .u64 0, .int .u64 0] 62)).drew
                have M0 := (cubI_new wr 0 0 62).drew
                change CubI (wr.alloc (.cells #[.int .u64 0, .int .u64 0] 62)).drew _ _ _ at M0
                go_simp
                obtain ⟨W2, hW2⟩ : ∃ W2, (wr.alloc (.cells #[.int .u64 0, .int .u64 0] 62)).drew = W2 := ⟨_, rfl⟩
                rw [hW2] at hb2 M0 ⊢
                clear hW2
                change CubI W2 wr.heap.size 0 0 at M0
                have hgs : wr.heap.size ≤ wr.heap.size := Nat.le_refl _
                have hg : True := trivial
                refine hK.out _ _ ⟨⟨(hb2.cell (p := ⟨w.heap.size + 1, 0, none⟩) s0).trans s1, (hb2.cell (p := ⟨w.heap.size + 1, 1, none⟩) s0).trans s2⟩, Lib.hid hb2⟩ (fun hHeld => ?_)
                clear hK K hHeld
                try simp only [Act.put, List.getElem_toArray, List.getElem_cons_succ, List.getElem_cons_zero, List.setIfInBounds_toArray, List.set_cons_zero, List.set_cons_succ]
                refine wpAnyH_ready (rs := [3]) (by kernel_rfl) (by simp) ?_
                refine AllReadyH.cons rfl (fun K hK => ?_) AllReadyH.nil
                go_simp
                (with_reducible refine ((CW2 _).out).mono ?_)
                rintro e W3 ⟨rfl, hw3⟩
                have hb3 := hb2.trans (hw3.mono hb2.size)
                have N0 := M0.step hw3
                clear hw3
                go_simp
                refine hK.out _ _ ⟨⟨(hb3.cell (p := ⟨w.heap.size + 1, 0, none⟩) s0).trans s1, (hb3.cell (p := ⟨w.heap.size + 1, 1, none⟩) s0).trans s2⟩, Lib.hid hb3⟩ (fun hHeld => ?_)
                clear hK K hHeld
                try simp only [Act.put, List.getElem_toArray, List.getElem_cons_succ, List.getElem_cons_zero, List.setIfInBounds_toArray, List.set_cons_zero, List.set_cons_succ]
                clear hg
                obtain ⟨n0, n1, n2, n3, n4⟩ := id N0
                refine wpAnyH_ready (rs := [5]) (by kernel_rfl) (by simp) ?_
                refine AllReadyH.cons rfl (fun K hK => ?_) AllReadyH.nil
                go_simp
                have N1 := N0.put cc vv
                have hb4 := below_put2 (B := wr.heap.size) (g := wr.heap.size) hb3 hgs (.int .u64 ((cc : Nat) : Int)) (.int .u64 ((vv : Nat) : Int))
                obtain ⟨W4, hW4⟩ : ∃ W4, (W3.setCell ⟨wr.heap.size, 0, none⟩ (.int .u64 ((cc : Nat) : Int))).setCell ⟨wr.heap.size, 1, none⟩ (.int .u64 ((vv : Nat) : Int)) = W4 := ⟨_, rfl⟩
                rw [hW4] at N1 hb4 ⊢
                clear hW4
                refine hK.out _ _ ⟨⟨(hb4.cell (p := ⟨w.heap.size + 1, 0, none⟩) s0).trans s1, (hb4.cell (p := ⟨w.heap.size + 1, 1, none⟩) s0).trans s2⟩, Lib.hid hb4⟩ (fun hHeld => ?_)
                clear hK K hHeld
                try simp only [Act.put, List.getElem_toArray, List.getElem_cons_succ, List.getElem_cons_zero, List.setIfInBounds_toArray, List.set_cons_zero, List.set_cons_succ]
                refine wpAnyH_done (by kernel_rfl) ?_ _
                refine NoPanic.normal ?_
                have Q0 := R0.below r0 hb4
                have Q1 := R1.below s0 hb4
                have HB4 := Lib.hid (below_nxt HW.out hb4)
                obtain ⟨x0, x1, x2, x3, x4⟩ := id Q0
                obtain ⟨y0, y1, y2, y3, y4⟩ := id Q1
                obtain ⟨z0, z1, z2, z3, z4⟩ := id N1
                clear N0 hb3 hb4 n1 n2 n3 n4 s1 s2 s3 s4 r1 r2 r3 r4
                go_wp2_with fail
                refine ((CJ2 _ (HSTw.out.next HB4.out)).out).mono ?_
                rintro e W5 ⟨rfl, hw5⟩
                have HB5 := Lib.hid (below_nxt HB4.out hw5)
                go_wp2
                exact bodyPost_ret (v := .bool false) (by simp [results, Tryz.results80, go_sem]) rfl ⟨rfl, HB5.out⟩
        · obtain rfl : i = n := by omega
          obtain rfl : q = true := by rw [HQ3.out]; exact HTI.out
          go_wp2
          exact bodyPost_ret (v := .bool true) (by simp [results, Tryz.results80, go_sem]) rfl ⟨rfl, HW.out⟩
end Go.Proofs.YtahjdmdgkkienaaGreatDoor

