/- touches, grows and Few of the reference. -/
import Derived.Test.YtabflijfbjdpgaaDoorIz
import Derived.Test.YtabflijfbjdpgaaDoorJf
import Derived.Test.YtabflijfbjdpgaaDoorJp
namespace Ic
def tchP (on c v k : Nat) : Bool := inn c v k && on.testBit k
def tch (n on c v : Nat) : Bool := !(List.range (2 ^ n)).all (fun k => !tchP on c v k)
theorem tch_iff {n on c v : Nat} : tch n on c v = true ↔ tab n c v &&& on ≠ 0 := by
  rw [tab_ne]
  unfold tch
  constructor
  · intro h
    apply Classical.byContradiction
    intro h2
    rw [Bool.not_eq_true', ← Bool.not_eq_true, List.all_eq_true] at h
    apply h
    intro k hk
    rw [Bool.not_eq_true', ← Bool.not_eq_true]
    intro h3
    apply h2
    unfold tchP at h3
    rw [Bool.and_eq_true] at h3
    exact ⟨k, List.mem_range.1 hk, h3.1, h3.2⟩
  · rintro ⟨k, hk, h1, h2⟩
    rw [Bool.not_eq_true', ← Bool.not_eq_true, List.all_eq_true]
    intro h
    have := h k (List.mem_range.2 hk)
    simp [tchP, h1, h2] at this
end Ic
namespace Go.Proofs.YtabflijfbjdpgaaDoor
open Go.RowKit Go.Shelf

set_option maxHeartbeats 2000000 in
set_option maxRecDepth 100000 in
theorem rcTch_any (n on : Nat) (m : Int) (fr c v : Nat) (w : World) (hn : n ≤ 6) (ho : on < 2 ^ 64) (hc : c < 2 ^ 64) :
    Calls Tryd.prog 92 #[.agg #[.int .i64 n, .int .u64 on, .int .i64 m, .int .u64 fr], .agg #[.int .u64 c, .int .u64 v]] w fun e w' => e = .returned (.bool (Ic.tch n on c v)) ∧ Below w.heap.size w w' := by
  have hN := Tt.size_le hn
  have CS := fun W => Lib.hid (rSize_any n W (by omega) (by omega))
  rw [Int.toNat_natCast] at CS
  have CIn := fun k (hk : k < 64) W => Lib.hid (rcIn_any c v k W hk hc)
  have CO := fun k (hk : k < 64) W => Lib.hid (rAt_any n on k W ho hk)
  have HG := Lib.hid (show Ic.tch n on c v = !(List.range (2 ^ n)).all (fun k => !Ic.tchP on c v k) from rfl)
  generalize Ic.tch n on c v = gd at *
  generalize 2 ^ n = N at *
  obtain ⟨P1, L1, z1⟩ := cub1_new (w.alloc (.cells #[.int .i64 n, .int .u64 (on : Int), .int .i64 m, .int .u64 (fr : Int)] 61)) c v 24
  obtain ⟨P0, L0, z0⟩ := task_new w n on m fr 61
  replace P0 := P0.step L1
  replace L0 := below_nxt L0 L1
  rw [z0] at P1 z1
  clear L1 z0
  generalize hX : (w.alloc (.cells #[.int .i64 n, .int .u64 (on : Int), .int .i64 m, .int .u64 (fr : Int)] 61)).alloc (.cells #[.int .u64 (c : Int), .int .u64 (v : Int)] 24) = X at *
  clear hc ho
  go_enter Tryd.func92, Tryd.ntmps92
  go_wp2
  go_loopw [5] (fun s5 wr => ∃ k : Nat, k ≤ N ∧ s5 = .int .i64 k ∧ TaskI wr w.heap.size n on m fr ∧ CubI wr (w.heap.size + 1) c v ∧ Hid (Below w.heap.size w wr) ∧ Hid ((List.range k).all (fun k => !Ic.tchP on c v k) = true)) (fun s5 _ => N - (intOf s5).toNat)
  case atStart => exact ⟨0, Nat.zero_le _, rfl, P0, P1, Lib.hid L0, Lib.hid rfl⟩
  case round =>
    clear P0 P1 L0
    obtain ⟨k, hk, rfl, R0, R1, HW, HA⟩ := hrel
    obtain ⟨r0, r1, r2, r3, r4⟩ := id R0
    obtain ⟨s0, s1, s2, s3, s4⟩ := id R1
    have H0 := Lib.hid R0
    have H1 := Lib.hid R1
    clear R0 R1
    by_cases hkN : k < N
    · have CI := CIn k (by omega)
      have CO := CO k (by omega)
      have HS := Lib.hid (Ic.all_succ (fun k => !Ic.tchP on c v k) k)
      have HP := Lib.hid (show Ic.tchP on c v k = (Ic.inn c v k && on.testBit k) from rfl)
      have HBAD := Lib.hid (fun h => Ic.all_bad (p := fun k => !Ic.tchP on c v k) hkN h)
      generalize Ic.inn c v k = q1 at *
      generalize on.testBit k = q2 at *
      cases q1 with
      | false =>
        go_wp2_with (first | (go_at_call 47; refine ((CS _).out).mono ?_; rintro e w2 ⟨rfl, rfl⟩) | (go_at_call 48; refine ((CI _).out).mono ?_; rintro e w3 ⟨rfl, hbI⟩; obtain ⟨r0, r1, r2, r3, r4⟩ := H0.out.step hbI; obtain ⟨s0, s1, s2, s3, s4⟩ := H1.out.step hbI) | (go_at_call 72; (with_reducible refine ((CO _).out).mono ?_); rintro e w4 ⟨rfl, hbO⟩))
        exact ⟨⟨k + 1, by omega, rfl, H0.out.step hbI, H1.out.step hbI, Lib.hid (below_nxt HW.out hbI), Lib.hid (by rw [HS.out, HA.out, HP.out]; rfl)⟩, by simp [intOf]; omega⟩
      | true =>
        cases q2 with
        | false =>
          go_wp2_with (first | (go_at_call 47; refine ((CS _).out).mono ?_; rintro e w2 ⟨rfl, rfl⟩) | (go_at_call 48; refine ((CI _).out).mono ?_; rintro e w3 ⟨rfl, hbI⟩; obtain ⟨r0, r1, r2, r3, r4⟩ := H0.out.step hbI; obtain ⟨s0, s1, s2, s3, s4⟩ := H1.out.step hbI) | (go_at_call 72; (with_reducible refine ((CO _).out).mono ?_); rintro e w4 ⟨rfl, hbO⟩))
          exact ⟨⟨k + 1, by omega, rfl, (H0.out.step hbI).step hbO, (H1.out.step hbI).step hbO, Lib.hid (below_nxt (below_nxt HW.out hbI) hbO), Lib.hid (by rw [HS.out, HA.out, HP.out]; rfl)⟩, by simp [intOf]; omega⟩
        | true =>
          obtain rfl : gd = true := by rw [HG.out, HBAD.out (by rw [HP.out]; rfl)]; rfl
          go_wp2_with (first | (go_at_call 47; refine ((CS _).out).mono ?_; rintro e w2 ⟨rfl, rfl⟩) | (go_at_call 48; refine ((CI _).out).mono ?_; rintro e w3 ⟨rfl, hbI⟩; obtain ⟨r0, r1, r2, r3, r4⟩ := H0.out.step hbI; obtain ⟨s0, s1, s2, s3, s4⟩ := H1.out.step hbI) | (go_at_call 72; (with_reducible refine ((CO _).out).mono ?_); rintro e w4 ⟨rfl, hbO⟩))
          go_ret
          exact ⟨rfl, below_nxt (below_nxt HW.out hbI) hbO⟩
    · obtain rfl : k = N := by omega
      obtain rfl : gd = false := by rw [HG.out, HA.out]; rfl
      go_wp2_with (go_at_call 47; refine ((CS _).out).mono ?_; rintro e w2 ⟨rfl, rfl⟩)
      go_ret
      exact ⟨rfl, HW.out⟩

set_option maxHeartbeats 2000000 in
set_option maxRecDepth 100000 in
theorem rcFew_any (n : Int) (on : Nat) (m : Int) (fr : Nat) (most : Int) (w : World) (ho : on < 2 ^ 64) (hf : fr < 2 ^ 64) :
    Calls Tryd.prog 32 #[.agg #[.int .i64 n, .int .u64 on, .int .i64 m, .int .u64 fr], .int .i64 most] w fun e w' => e = .returned (.bool (Ic.tchk n on m fr != 0 || decide (n ≤ most))) ∧ Below w.heap.size w w' := by
  have CT := fun W => Lib.hid (rcCheckTask_any n on m fr W ho hf)
  clear ho hf
  obtain ⟨P0, L0, z0⟩ := task_new w n on m fr 61
  generalize hX : w.alloc (.cells #[.int .i64 n, .int .u64 (on : Int), .int .i64 m, .int .u64 (fr : Int)] 61) = X at *
  have HL := Lib.hid L0
  obtain ⟨p0, p1, p2, p3, p4⟩ := id P0
  generalize Ic.tchk n on m fr = t at *
  by_cases ht : t = 0
  · subst ht
    go_enter Tryd.func32, Tryd.ntmps32
    go_wp2_with (go_at_call 31; refine ((CT _).out).mono ?_; rintro e w1 ⟨rfl, hb⟩; obtain ⟨q0, q1, q2, q3, q4⟩ := P0.step hb)
    go_ret
    exact ⟨by simp, below_nxt HL.out hb⟩
  · have ht' : (t != 0) = true := by simp [ht]
    go_enter Tryd.func32, Tryd.ntmps32
    go_wp2_with (go_at_call 31; refine ((CT _).out).mono ?_; rintro e w1 ⟨rfl, hb⟩)
    go_ret
    exact ⟨by simp [ht], below_nxt HL.out hb⟩
end Go.Proofs.YtabflijfbjdpgaaDoor
