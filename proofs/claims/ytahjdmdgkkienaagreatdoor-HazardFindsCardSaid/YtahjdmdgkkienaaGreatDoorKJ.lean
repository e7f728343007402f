/- Implies of package implicant and of its reference; CheckTask of the reference. Within, Inside and Opposed of the reference. joined, Meet and Consensus of the reference. touches, grows and Few of the reference. grows of the reference. All of the reference. -/
import Derived.Test.YtahjdmdgkkienaaGreatDoorIx
import Derived.Test.YtahjdmdgkkienaaGreatDoorIf
import Derived.Test.YtahjdmdgkkienaaGreatDoorIg
import Derived.Test.YtahjdmdgkkienaaGreatDoorUk
import Derived.Test.YtahjdmdgkkienaaGreatDoorId
import Derived.Test.YtahjdmdgkkienaaGreatDoorJp
import Derived.Test.YtahjdmdgkkienaaGreatDoorKc
import Derived.Test.YtahjdmdgkkienaaGreatDoorIv
import Derived.Test.YtahjdmdgkkienaaGreatDoorJr
import Derived.Test.YtahjdmdgkkienaaGreatDoorJq
namespace Ic
/-- What Implies returns. -/
def impV (n : Int) (on : Nat) (m : Int) (fr c v : Nat) : Bool × Int := if tchk n on m fr ≠ 0 then (false, tchk n on m fr) else if chk n c v ≠ 0 then (false, chk n c v) else (imp n.toNat on fr c v, 0)
def goodP (on fr c v k : Nat) : Bool := !inn c v k || (on.testBit k || fr.testBit k)
def good (n on fr c v : Nat) : Bool := (List.range (2 ^ n)).all (goodP on fr c v)
theorem good_imp {n on fr c v : Nat} (hn : n ≤ 6) (ho : on < 2 ^ 64) (hf : fr < 2 ^ 64) : good n on fr c v = imp n on fr c v := by
  have hor := Nat.or_lt_two_pow ho hf
  rw [Bool.eq_iff_iff]
  unfold good imp
  rw [beq_iff_eq, sub_iff (Tt.w64 hn (tab_lt n c v)) hor, List.all_eq_true]
  constructor
  · intro h k hk
    rw [tab_bit, Bool.and_eq_true, decide_eq_true_iff] at hk
    have h2 := h k (List.mem_range.2 hk.1)
    unfold goodP at h2
    rw [hk.2] at h2
    rw [Nat.testBit_or]
    simpa using h2
  · intro h k hk
    have h2 := h k
    rw [tab_bit, Bool.and_eq_true, decide_eq_true_iff, Nat.testBit_or] at h2
    unfold goodP
    cases hi : inn c v k
    · rfl
    · simpa using h2 ⟨List.mem_range.1 hk, hi⟩
end Ic
namespace Go.Proofs.YtahjdmdgkkienaaGreatDoor
open Go.RowKit Go.Shelf

set_option maxHeartbeats 2000000 in
set_option maxRecDepth 100000 in
theorem rcGood_any (n on : Nat) (m : Int) (fr c v : Nat) (w : World) (hn : n ≤ 6) (ho : on < 2 ^ 64) (hf : fr < 2 ^ 64) (hc : c < 2 ^ 64) :
    Calls Tryz.prog 85 #[.agg #[.int .i64 n, .int .u64 on, .int .i64 m, .int .u64 fr], .agg #[.int .u64 c, .int .u64 v]] w fun e w' => e = .returned (.bool (Ic.good n on fr c v)) ∧ Below w.heap.size w w' := by
  have hN := Tt.size_le hn
  have CS := fun W => Lib.hid (rSize_any n W (by omega) (by omega))
  rw [Int.toNat_natCast] at CS
  have CIn := fun k (hk : k < 64) W => Lib.hid (rcIn_any c v k W hk hc)
  have CO := fun k (hk : k < 64) W => Lib.hid (rAt_any n on k W ho hk)
  have CF := fun k (hk : k < 64) W => Lib.hid (rAt_any m fr k W hf hk)
  have HG := Lib.hid (show Ic.good n on fr c v = (List.range (2 ^ n)).all (Ic.goodP on fr c v) from rfl)
  generalize Ic.good n on fr c v = gd at *
  generalize 2 ^ n = N at *
  obtain ⟨P1, L1, z1⟩ := cub1_new (w.alloc (.cells #[.int .i64 n, .int .u64 (on : Int), .int .i64 m, .int .u64 (fr : Int)] 107)) c v 62
  obtain ⟨P0, L0, z0⟩ := task_new w n on m fr 107
  replace P0 := P0.step L1
  replace L0 := below_nxt L0 L1
  rw [z0] at P1 z1
  clear L1 z0
  generalize hX : (w.alloc (.cells #[.int .i64 n, .int .u64 (on : Int), .int .i64 m, .int .u64 (fr : Int)] 107)).alloc (.cells #[.int .u64 (c : Int), .int .u64 (v : Int)] 62) = X at *
  clear hc ho hf
  go_enter Tryz.func85, Tryz.ntmps85
  go_wp2
  go_loopw [5] (fun s5 wr => ∃ k : Nat, k ≤ N ∧ s5 = .int .i64 k ∧ TaskI wr w.heap.size n on m fr ∧ CubI wr (w.heap.size + 1) c v ∧ Hid (Below w.heap.size w wr) ∧ Hid ((List.range k).all (Ic.goodP on fr c v) = true)) (fun s5 _ => N - (intOf s5).toNat)
  case atStart => exact ⟨0, Nat.zero_le _, rfl, P0, P1, Lib.hid L0, Lib.hid rfl⟩
  case round =>
    clear P0 P1 L0
    obtain ⟨k, hk, rfl, R0, R1, HW, HA⟩ := hrel
    obtain ⟨r0, r1, r2, r3, r4⟩ := id R0
    obtain ⟨s0, s1, s2, s3, s4⟩ := id R1
    have H0 := Lib.hid R0
    have H1 := Lib.hid R1
    clear R0 R1
    by_cases hkN : k < N
    · have CI := CIn k (by omega)
      have CO := CO k (by omega)
      have CF := CF k (by omega)
      have HS := Lib.hid (Ic.all_succ (Ic.goodP on fr c v) k)
      have HP := Lib.hid (show Ic.goodP on fr c v k = (!Ic.inn c v k || (on.testBit k || fr.testBit k)) from rfl)
      have HBAD := Lib.hid (fun h => Ic.all_bad (p := Ic.goodP on fr c v) hkN h)
      generalize Ic.inn c v k = q1 at *
      generalize on.testBit k = q2 at *
      generalize fr.testBit k = q3 at *
      cases q1 with
      | false =>
        go_wp2_with (first | (go_at_call 44; refine ((CS _).out).mono ?_; rintro e w2 ⟨rfl, rfl⟩) | (go_at_call 65; refine ((CI _).out).mono ?_; rintro e w3 ⟨rfl, hbI⟩; obtain ⟨r0, r1, r2, r3, r4⟩ := H0.out.step hbI; obtain ⟨s0, s1, s2, s3, s4⟩ := H1.out.step hbI) | (go_at_call 52; (with_reducible refine ((CO _).out).mono ?_); rintro e w4 ⟨rfl, hbO⟩; obtain ⟨r0, r1, r2, r3, r4⟩ := (H0.out.step hbI).step hbO; obtain ⟨s0, s1, s2, s3, s4⟩ := (H1.out.step hbI).step hbO) | (go_at_call 52; (with_reducible refine ((CF _).out).mono ?_); rintro e w5 ⟨rfl, hbF⟩))
        exact ⟨⟨k + 1, by omega, rfl, H0.out.step hbI, H1.out.step hbI, Lib.hid (below_nxt HW.out hbI), Lib.hid (by rw [HS.out, HA.out, HP.out]; rfl)⟩, by simp [intOf]; omega⟩
      | true =>
        cases q2 with
        | true =>
          go_wp2_with (first | (go_at_call 44; refine ((CS _).out).mono ?_; rintro e w2 ⟨rfl, rfl⟩) | (go_at_call 65; refine ((CI _).out).mono ?_; rintro e w3 ⟨rfl, hbI⟩; obtain ⟨r0, r1, r2, r3, r4⟩ := H0.out.step hbI; obtain ⟨s0, s1, s2, s3, s4⟩ := H1.out.step hbI) | (go_at_call 52; (with_reducible refine ((CO _).out).mono ?_); rintro e w4 ⟨rfl, hbO⟩; obtain ⟨r0, r1, r2, r3, r4⟩ := (H0.out.step hbI).step hbO; obtain ⟨s0, s1, s2, s3, s4⟩ := (H1.out.step hbI).step hbO) | (go_at_call 52; (with_reducible refine ((CF _).out).mono ?_); rintro e w5 ⟨rfl, hbF⟩))
          exact ⟨⟨k + 1, by omega, rfl, (H0.out.step hbI).step hbO, (H1.out.step hbI).step hbO, Lib.hid (below_nxt (below_nxt HW.out hbI) hbO), Lib.hid (by rw [HS.out, HA.out, HP.out]; rfl)⟩, by simp [intOf]; omega⟩
        | false =>
          cases q3 with
          | true =>
            go_wp2_with (first | (go_at_call 44; refine ((CS _).out).mono ?_; rintro e w2 ⟨rfl, rfl⟩) | (go_at_call 65; refine ((CI _).out).mono ?_; rintro e w3 ⟨rfl, hbI⟩; obtain ⟨r0, r1, r2, r3, r4⟩ := H0.out.step hbI; obtain ⟨s0, s1, s2, s3, s4⟩ := H1.out.step hbI) | (go_at_call 52; (with_reducible refine ((CO _).out).mono ?_); rintro e w4 ⟨rfl, hbO⟩; obtain ⟨r0, r1, r2, r3, r4⟩ := (H0.out.step hbI).step hbO; obtain ⟨s0, s1, s2, s3, s4⟩ := (H1.out.step hbI).step hbO) | (go_at_call 52; (with_reducible refine ((CF _).out).mono ?_); rintro e w5 ⟨rfl, hbF⟩))
            exact ⟨⟨k + 1, by omega, rfl, ((H0.out.step hbI).step hbO).step hbF, ((H1.out.step hbI).step hbO).step hbF, Lib.hid (below_nxt (below_nxt (below_nxt HW.out hbI) hbO) hbF), Lib.hid (by rw [HS.out, HA.out, HP.out]; rfl)⟩, by simp [intOf]; omega⟩
          | false =>
            obtain rfl : gd = false := by rw [HG.out]; exact HBAD.out (by rw [HP.out]; rfl)
            go_wp2_with (first | (go_at_call 44; refine ((CS _).out).mono ?_; rintro e w2 ⟨rfl, rfl⟩) | (go_at_call 65; refine ((CI _).out).mono ?_; rintro e w3 ⟨rfl, hbI⟩; obtain ⟨r0, r1, r2, r3, r4⟩ := H0.out.step hbI; obtain ⟨s0, s1, s2, s3, s4⟩ := H1.out.step hbI) | (go_at_call 52; (with_reducible refine ((CO _).out).mono ?_); rintro e w4 ⟨rfl, hbO⟩; obtain ⟨r0, r1, r2, r3, r4⟩ := (H0.out.step hbI).step hbO; obtain ⟨s0, s1, s2, s3, s4⟩ := (H1.out.step hbI).step hbO) | (go_at_call 52; (with_reducible refine ((CF _).out).mono ?_); rintro e w5 ⟨rfl, hbF⟩))
            go_ret
            exact ⟨rfl, below_nxt (below_nxt (below_nxt HW.out hbI) hbO) hbF⟩
    · obtain rfl : k = N := by omega
      obtain rfl : gd = true := by rw [HG.out]; exact HA.out
      go_wp2_with (go_at_call 44; refine ((CS _).out).mono ?_; rintro e w2 ⟨rfl, rfl⟩)
      go_ret
      exact ⟨rfl, HW.out⟩

end Go.Proofs.YtahjdmdgkkienaaGreatDoor

namespace Go.Proofs.YtahjdmdgkkienaaGreatDoor
open Go.RowKit Go.Shelf

theorem bit1 {b : Nat} (k : Nat) (hb : b < 2 ^ 64) {q : Bool} (h : b.testBit k = q) : bits .and .u64 ((b : Int) / 2 ^ k) 1 = if q then 1 else 0 := by rw [← h]; exact bit_andI k hb

end Go.Proofs.YtahjdmdgkkienaaGreatDoor

namespace Go.Proofs.YtahjdmdgkkienaaGreatDoor
open Go.RowKit Go.Shelf

set_option linter.unusedSimpArgs false in
set_option maxHeartbeats 2000000 in
set_option maxRecDepth 100000 in
theorem rcJoin0_any (c v d u : Nat) (w : World) (hc : c < 2 ^ 64) (hv : v < 2 ^ 64) (hd : d < 2 ^ 64) (hu : u < 2 ^ 64) :
    Calls Tryz.prog 101 #[.agg #[.int .u64 c, .int .u64 v], .agg #[.int .u64 d, .int .u64 u], .slice none 0 0] w fun e w' => e = .returned (.agg #[.int .u64 ((c ||| d : Nat) : Int), .int .u64 ((v ||| u : Nat) : Int)]) ∧ Below w.heap.size w w' := by
  have e1 := u64_or_nat c d (by simpa using hc) (by simpa using hd)
  have e2 := u64_or_nat v u (by simpa using hv) (by simpa using hu)
  generalize c ||| d = x at *
  generalize v ||| u = y at *
  obtain ⟨P0, P1, P2, L0, z0⟩ := cub3_new w c v d u 0 0 62
  generalize hX : ((w.alloc (.cells #[.int .u64 (c : Int), .int .u64 (v : Int)] 62)).alloc (.cells #[.int .u64 (d : Int), .int .u64 (u : Int)] 62)).alloc (.cells #[.int .u64 ((0 : Nat) : Int), .int .u64 ((0 : Nat) : Int)] 62) = X at *
  change ((w.alloc (.cells #[.int .u64 (c : Int), .int .u64 (v : Int)] 62)).alloc (.cells #[.int .u64 (d : Int), .int .u64 (u : Int)] 62)).alloc (.cells #[.int .u64 0, .int .u64 0] 62) = X at hX
  obtain ⟨p0, p1, p2, p3, p4⟩ := id P0
  obtain ⟨q0, q1, q2, q3, q4⟩ := id P1
  obtain ⟨r0, r1, r2, r3, r4⟩ := id P2
  have HL := Lib.hid L0
  clear hc hv hd hu
  go_enter Tryz.func101, Tryz.ntmps101
  go_wp2
  refine wp_loop_rounds 1 ?_
  rw [rounds_succ]
  go_wp2
  have F := (P2.put x y).step ((Below.refl _ _).alloc (Nat.le_refl _) (.cells #[.int .u64 (x : Int), .int .u64 (y : Int)] 62))
  obtain ⟨f0, f1, f2, f3, f4⟩ := F
  have hnn : w.heap.size + 1 + 1 = w.heap.size + 2 := rfl
  simp only [hnn]
  exact bodyPost_ret (v := .agg #[.int .u64 x, .int .u64 y]) (by simp [results, Tryz.results101, go_sem, hnn, f1, f2]) rfl ⟨rfl, (by (repeat' (first | exact HL.out | refine Below.alloc ?_ (by simp; omega) _ | refine Below.setCell ?_ (by first | exact Nat.le_refl _ | (dsimp only; omega) | (simp; omega)) _ | refine Below.drew ?_)))⟩

set_option linter.unusedSimpArgs false in
set_option maxHeartbeats 4000000 in
set_option maxRecDepth 100000 in
theorem rcJoin1_any (c v d u i : Nat) (ao : Option Addr) (cap : Nat) (w : World) (hc : c < 2 ^ 64) (hv : v < 2 ^ 64) (hd : d < 2 ^ 64) (hu : u < 2 ^ 64) (hi : i < 6) (hC : Cells .i64 w ao [i]) (_ : 1 ≤ cap) (_ : cap ≤ 9223372036854775807) :
    Calls Tryz.prog 101 #[.agg #[.int .u64 c, .int .u64 v], .agg #[.int .u64 d, .int .u64 u], .slice ao 1 cap] w fun e w' => e = .returned (.agg #[.int .u64 (((c ||| d) &&& (18446744073709551615 - 2 ^ i) : Nat) : Int), .int .u64 (((v ||| u) &&& (18446744073709551615 - 2 ^ i) : Nat) : Int)]) ∧ Below w.heap.size w w' := by
  have e1 := u64_or_nat c d (by simpa using hc) (by simpa using hd)
  have e2 := u64_or_nat v u (by simpa using hv) (by simpa using hu)
  have hp := Ic.two64 hi
  have e3 := u64_andNot_nat (c ||| d) (2 ^ i) (by simpa using Nat.or_lt_two_pow hc hd) (by simpa using hp)
  have e4 := u64_andNot_nat (v ||| u) (2 ^ i) (by simpa using Nat.or_lt_two_pow hv hu) (by simpa using hp)
  generalize (c ||| d) &&& (18446744073709551615 - 2 ^ i) = x2 at *
  generalize (v ||| u) &&& (18446744073709551615 - 2 ^ i) = y2 at *
  generalize c ||| d = x at *
  generalize v ||| u = y at *
  obtain ⟨P0, P1, P2, L0, z0⟩ := cub3_new w c v d u 0 0 62
  generalize hX : ((w.alloc (.cells #[.int .u64 (c : Int), .int .u64 (v : Int)] 62)).alloc (.cells #[.int .u64 (d : Int), .int .u64 (u : Int)] 62)).alloc (.cells #[.int .u64 ((0 : Nat) : Int), .int .u64 ((0 : Nat) : Int)] 62) = X at *
  change ((w.alloc (.cells #[.int .u64 (c : Int), .int .u64 (v : Int)] 62)).alloc (.cells #[.int .u64 (d : Int), .int .u64 (u : Int)] 62)).alloc (.cells #[.int .u64 0, .int .u64 0] 62) = X at hX
  obtain ⟨b, off, rfl, hb, hcell⟩ := hC (by simp)
  have k0 := hcell 0 (by simp)
  simp only [Nat.add_zero, List.getD_cons_zero] at k0
  have k1 := (L0.cell (p := ⟨b, off, none⟩) hb).trans k0
  obtain ⟨p0, p1, p2, p3, p4⟩ := id P0
  obtain ⟨q0, q1, q2, q3, q4⟩ := id P1
  obtain ⟨r0, r1, r2, r3, r4⟩ := id P2
  have HL := Lib.hid L0
  clear hc hv hd hu hcell k0 hC
  rcases (show i = 0 ∨ i = 1 ∨ i = 2 ∨ i = 3 ∨ i = 4 ∨ i = 5 by omega) with rfl | rfl | rfl | rfl | rfl | rfl
  all_goals
    simp only [Nat.reducePow, Int.cast_ofNat_Int, Int.natCast_one, Int.natCast_zero] at e3 e4 k1
    go_enter Tryz.func101, Tryz.ntmps101
    go_wp2
    obtain ⟨N0, LN, zN⟩ := cub1_new X x y 62
    have HLN := Lib.hid (below_nxt L0 LN)
    rw [z0] at N0
    obtain ⟨g0, g1, g2, g3, g4⟩ := id N0
    have V2 := Lib.hid (P2.step LN)
    have k2 := (LN.cell (p := ⟨b, off, none⟩) (by simp only; omega)).trans k1
    have hne : b ≠ w.heap.size + 3 := by omega
    have hne' : w.heap.size + 3 ≠ b := by omega
    generalize hY : X.alloc (.cells #[.int .u64 (x : Int), .int .u64 (y : Int)] 62) = Y at *
    clear r1 r2 r3 r4 p1 p2 p3 p4 q1 q2 q3 q4 k1
    refine wp_loop_rounds 2 ?_
    rw [rounds_succ]
    go_wp2
    go_still_tail 9, (by kernel_rfl)
    change wpList _ _ _ _ _ Y.drew
    go_wp2
    try simp only [e3]
    have N1 := (N0.set0 x2).drew
    have k3 : (Y.setCell ⟨w.heap.size + 3, 0, none⟩ (.int .u64 (x2 : Int))).drew.cell? ⟨b, off, none⟩ = some _ := (World.cell?_setCell_other (w := Y) (v := .int .u64 (x2 : Int)) (a := ⟨w.heap.size + 3, 0, none⟩) (b := ⟨b, off, none⟩) (fun e => hne (by have := congrArg Addr.block e; simp at this; omega))).trans k2
    have V3 := Lib.hid (V2.out.other (g' := w.heap.size + 3) (j := 0) (.int .u64 (x2 : Int)) (by omega)).drew
    have HB3 := Lib.hid (HLN.out.setCell (p := ⟨w.heap.size + 3, 0, none⟩) (by show w.heap.size ≤ w.heap.size + 3; omega) (.int .u64 (x2 : Int))).drew
    clear N0 k2 V2 HLN g0 g1 g2 g3 g4
    generalize (Y.setCell ⟨w.heap.size + 3, 0, none⟩ (.int .u64 (x2 : Int))).drew = Z at *
    obtain ⟨g0, g1, g2, g3, g4⟩ := id N1
    go_still_tail 9, (by kernel_rfl)
    change wpList _ _ _ _ _ Z.drew
    go_wp2
    try simp only [e4]
    have N2 := (N1.set1 y2).drew
    have V4 := (V3.out.other (g' := w.heap.size + 3) (j := 1) (.int .u64 (y2 : Int)) (by omega)).drew
    have HB4 := Lib.hid (HB3.out.setCell (p := ⟨w.heap.size + 3, 1, none⟩) (by show w.heap.size ≤ w.heap.size + 3; omega) (.int .u64 (y2 : Int))).drew
    clear N1 V3 HB3 g0 g1 g2 g3 g4
    generalize (Z.setCell ⟨w.heap.size + 3, 1, none⟩ (.int .u64 (y2 : Int))).drew = Q at *
    obtain ⟨g0, g1, g2, g3, g4⟩ := id N2
    obtain ⟨h0, h1', h2', h3, h4⟩ := id V4
    rw [rounds_succ]
    have hnn : w.heap.size + 1 + 1 = w.heap.size + 2 := rfl
    simp only [hnn]
    go_wp2
    have F := V4.put x2 y2
    obtain ⟨f0, f1, f2, f3, f4⟩ := F
    exact bodyPost_ret (v := .agg #[.int .u64 x2, .int .u64 y2]) (by simp [results, Tryz.results101, go_sem, f1, f2]) rfl ⟨rfl, below_put2 HB4.out (by omega) _ _⟩

end Go.Proofs.YtahjdmdgkkienaaGreatDoor

namespace Ic
def tchP (on c v k : Nat) : Bool := inn c v k && on.testBit k
def tch (n on c v : Nat) : Bool := !(List.range (2 ^ n)).all (fun k => !tchP on c v k)
theorem tch_iff {n on c v : Nat} : tch n on c v = true ↔ tab n c v &&& on ≠ 0 := by
  rw [tab_ne]
  unfold tch
  constructor
  · intro h
    apply Classical.byContradiction
    intro h2
    rw [Bool.not_eq_true', ← Bool.not_eq_true, List.all_eq_true] at h
    apply h
    intro k hk
    rw [Bool.not_eq_true', ← Bool.not_eq_true]
    intro h3
    apply h2
    unfold tchP at h3
    rw [Bool.and_eq_true] at h3
    exact ⟨k, List.mem_range.1 hk, h3.1, h3.2⟩
  · rintro ⟨k, hk, h1, h2⟩
    rw [Bool.not_eq_true', ← Bool.not_eq_true, List.all_eq_true]
    intro h
    have := h k (List.mem_range.2 hk)
    simp [tchP, h1, h2] at this
end Ic
namespace Go.Proofs.YtahjdmdgkkienaaGreatDoor
open Go.RowKit Go.Shelf

set_option maxHeartbeats 2000000 in
set_option maxRecDepth 100000 in
theorem rcTch_any (n on : Nat) (m : Int) (fr c v : Nat) (w : World) (hn : n ≤ 6) (ho : on < 2 ^ 64) (hc : c < 2 ^ 64) :
    Calls Tryz.prog 84 #[.agg #[.int .i64 n, .int .u64 on, .int .i64 m, .int .u64 fr], .agg #[.int .u64 c, .int .u64 v]] w fun e w' => e = .returned (.bool (Ic.tch n on c v)) ∧ Below w.heap.size w w' := by
  have hN := Tt.size_le hn
  have CS := fun W => Lib.hid (rSize_any n W (by omega) (by omega))
  rw [Int.toNat_natCast] at CS
  have CIn := fun k (hk : k < 64) W => Lib.hid (rcIn_any c v k W hk hc)
  have CO := fun k (hk : k < 64) W => Lib.hid (rAt_any n on k W ho hk)
  have HG := Lib.hid (show Ic.tch n on c v = !(List.range (2 ^ n)).all (fun k => !Ic.tchP on c v k) from rfl)
  generalize Ic.tch n on c v = gd at *
  generalize 2 ^ n = N at *
  obtain ⟨P1, L1, z1⟩ := cub1_new (w.alloc (.cells #[.int .i64 n, .int .u64 (on : Int), .int .i64 m, .int .u64 (fr : Int)] 107)) c v 62
  obtain ⟨P0, L0, z0⟩ := task_new w n on m fr 107
  replace P0 := P0.step L1
  replace L0 := below_nxt L0 L1
  rw [z0] at P1 z1
  clear L1 z0
  generalize hX : (w.alloc (.cells #[.int .i64 n, .int .u64 (on : Int), .int .i64 m, .int .u64 (fr : Int)] 107)).alloc (.cells #[.int .u64 (c : Int), .int .u64 (v : Int)] 62) = X at *
  clear hc ho
  go_enter Tryz.func84, Tryz.ntmps84
  go_wp2
  go_loopw [5] (fun s5 wr => ∃ k : Nat, k ≤ N ∧ s5 = .int .i64 k ∧ TaskI wr w.heap.size n on m fr ∧ CubI wr (w.heap.size + 1) c v ∧ Hid (Below w.heap.size w wr) ∧ Hid ((List.range k).all (fun k => !Ic.tchP on c v k) = true)) (fun s5 _ => N - (intOf s5).toNat)
  case atStart => exact ⟨0, Nat.zero_le _, rfl, P0, P1, Lib.hid L0, Lib.hid rfl⟩
  case round =>
    clear P0 P1 L0
    obtain ⟨k, hk, rfl, R0, R1, HW, HA⟩ := hrel
    obtain ⟨r0, r1, r2, r3, r4⟩ := id R0
    obtain ⟨s0, s1, s2, s3, s4⟩ := id R1
    have H0 := Lib.hid R0
    have H1 := Lib.hid R1
    clear R0 R1
    by_cases hkN : k < N
    · have CI := CIn k (by omega)
      have CO := CO k (by omega)
      have HS := Lib.hid (Ic.all_succ (fun k => !Ic.tchP on c v k) k)
      have HP := Lib.hid (show Ic.tchP on c v k = (Ic.inn c v k && on.testBit k) from rfl)
      have HBAD := Lib.hid (fun h => Ic.all_bad (p := fun k => !Ic.tchP on c v k) hkN h)
      generalize Ic.inn c v k = q1 at *
      generalize on.testBit k = q2 at *
      cases q1 with
      | false =>
        go_wp2_with (first | (go_at_call 44; refine ((CS _).out).mono ?_; rintro e w2 ⟨rfl, rfl⟩) | (go_at_call 65; refine ((CI _).out).mono ?_; rintro e w3 ⟨rfl, hbI⟩; obtain ⟨r0, r1, r2, r3, r4⟩ := H0.out.step hbI; obtain ⟨s0, s1, s2, s3, s4⟩ := H1.out.step hbI) | (go_at_call 52; (with_reducible refine ((CO _).out).mono ?_); rintro e w4 ⟨rfl, hbO⟩))
        exact ⟨⟨k + 1, by omega, rfl, H0.out.step hbI, H1.out.step hbI, Lib.hid (below_nxt HW.out hbI), Lib.hid (by rw [HS.out, HA.out, HP.out]; rfl)⟩, by simp [intOf]; omega⟩
      | true =>
        cases q2 with
        | false =>
          go_wp2_with (first | (go_at_call 44; refine ((CS _).out).mono ?_; rintro e w2 ⟨rfl, rfl⟩) | (go_at_call 65; refine ((CI _).out).mono ?_; rintro e w3 ⟨rfl, hbI⟩; obtain ⟨r0, r1, r2, r3, r4⟩ := H0.out.step hbI; obtain ⟨s0, s1, s2, s3, s4⟩ := H1.out.step hbI) | (go_at_call 52; (with_reducible refine ((CO _).out).mono ?_); rintro e w4 ⟨rfl, hbO⟩))
          exact ⟨⟨k + 1, by omega, rfl, (H0.out.step hbI).step hbO, (H1.out.step hbI).step hbO, Lib.hid (below_nxt (below_nxt HW.out hbI) hbO), Lib.hid (by rw [HS.out, HA.out, HP.out]; rfl)⟩, by simp [intOf]; omega⟩
        | true =>
          obtain rfl : gd = true := by rw [HG.out, HBAD.out (by rw [HP.out]; rfl)]; rfl
          go_wp2_with (first | (go_at_call 44; refine ((CS _).out).mono ?_; rintro e w2 ⟨rfl, rfl⟩) | (go_at_call 65; refine ((CI _).out).mono ?_; rintro e w3 ⟨rfl, hbI⟩; obtain ⟨r0, r1, r2, r3, r4⟩ := H0.out.step hbI; obtain ⟨s0, s1, s2, s3, s4⟩ := H1.out.step hbI) | (go_at_call 52; (with_reducible refine ((CO _).out).mono ?_); rintro e w4 ⟨rfl, hbO⟩))
          go_ret
          exact ⟨rfl, below_nxt (below_nxt HW.out hbI) hbO⟩
    · obtain rfl : k = N := by omega
      obtain rfl : gd = false := by rw [HG.out, HA.out]; rfl
      go_wp2_with (go_at_call 44; refine ((CS _).out).mono ?_; rintro e w2 ⟨rfl, rfl⟩)
      go_ret
      exact ⟨rfl, HW.out⟩

end Go.Proofs.YtahjdmdgkkienaaGreatDoor

namespace Go.Proofs.YtahjdmdgkkienaaGreatDoor
open Go.RowKit Go.Shelf

theorem cells_one (w : World) (i : Nat) (T : TypeId) : Cells .i64 (w.alloc (.cells #[.int .i64 (i : Int)] T)) (some ⟨w.heap.size, 0, none⟩) [i] := by
  obtain ⟨ao, cap, hv, -, -, hC⟩ := (Row.one 0 .i64 T w (Nat.zero_le _) i _ rfl).sees.opened
  cases hv
  exact hC

set_option linter.unusedSimpArgs false in
set_option maxHeartbeats 4000000 in
set_option maxRecDepth 100000 in
theorem rcGrows_any (n on : Nat) (m : Int) (fr c v : Nat) (w : World) (hn : n ≤ 6) (ho : on < 2 ^ 64) (hf : fr < 2 ^ 64) (hc : c < 2 ^ 64) (hv : v < 2 ^ 64) :
    Calls Tryz.prog 86 #[.agg #[.int .i64 n, .int .u64 on, .int .i64 m, .int .u64 fr], .agg #[.int .u64 c, .int .u64 v]] w fun e w' => e = .returned (.bool (!Ic.tight n on fr c v n)) ∧ Below w.heap.size w w' := by
  have CJ := fun i (hi : i < 6) W ao (hC : Cells .i64 W ao [i]) => Lib.hid (rcJoin1_any c v c v i ao 1 W hc hv hc hv hi hC (by omega) (by omega))
  simp only [Nat.or_self] at CJ
  have CG := fun i W => Lib.hid (rcGood_any n on m fr (c &&& (18446744073709551615 - 2 ^ i)) (v &&& (18446744073709551615 - 2 ^ i)) W hn ho hf (Ic.clr_lt hc))
  have HT := Lib.hid (fun i => Ic.tight_succ n on fr c v i)
  have HI := Lib.hid (fun i => Ic.good_imp (c := c &&& (18446744073709551615 - 2 ^ i)) (v := v &&& (18446744073709551615 - 2 ^ i)) hn ho hf)
  have E1 := fun i q => Lib.hid (bit1 (b := c) i (q := q) hc)
  have HB := Lib.hid (fun i (hi : i < n) h => show Ic.tight n on fr c v n = false from Ic.all_bad (p := fun i => !(c.testBit i && Ic.imp n on fr (c &&& (18446744073709551615 - 2 ^ i)) (v &&& (18446744073709551615 - 2 ^ i)))) hi h)
  have HT0 : Hid (Ic.tight n on fr c v 0 = true) := Lib.hid rfl
  obtain ⟨P1, L1, z1⟩ := cub1_new (w.alloc (.cells #[.int .i64 n, .int .u64 (on : Int), .int .i64 m, .int .u64 (fr : Int)] 107)) c v 62
  obtain ⟨P0, L0, z0⟩ := task_new w n on m fr 107
  replace P0 := P0.step L1
  replace L0 := below_nxt L0 L1
  rw [z0] at P1 z1
  clear L1 z0
  generalize hX : (w.alloc (.cells #[.int .i64 n, .int .u64 (on : Int), .int .i64 m, .int .u64 (fr : Int)] 107)).alloc (.cells #[.int .u64 (c : Int), .int .u64 (v : Int)] 62) = X at *
  clear hc hv ho hf
  go_enter Tryz.func86, Tryz.ntmps86
  go_wp2
  go_loopw [5] (fun s5 wr => ∃ k : Nat, k ≤ n ∧ s5 = .int .i64 k ∧ TaskI wr w.heap.size n on m fr ∧ CubI wr (w.heap.size + 1) c v ∧ Hid (Below w.heap.size w wr) ∧ Hid (Ic.tight n on fr c v k = true)) (fun s5 _ => n - (intOf s5).toNat)
  case atStart => exact ⟨0, Nat.zero_le _, rfl, P0, P1, Lib.hid L0, HT0⟩
  case round =>
    clear P0 P1 L0
    obtain ⟨k, hk, rfl, R0, R1, HW, HA⟩ := hrel
    obtain ⟨r0, r1, r2, r3, r4⟩ := id R0
    obtain ⟨s0, s1, s2, s3, s4⟩ := id R1
    have H0 := Lib.hid R0
    have H1 := Lib.hid R1
    clear R0 R1
    by_cases hkn : k < n
    · have CJ := CJ k (by omega)
      have CG := CG k
      rw [HI.out k] at CG
      have HBk := Lib.hid (HB.out k hkn)
      have HTk := Lib.hid (HT.out k)
      have F1 := fun q => Lib.hid ((E1 k q).out)
      clear E1 HB HT HI
      generalize c &&& (18446744073709551615 - 2 ^ k) = c' at *
      generalize v &&& (18446744073709551615 - 2 ^ k) = v' at *
      cases h1 : c.testBit k
      · have e1 := (F1 false).out h1
        rw [if_neg (by simp)] at e1
        go_wp2
        go_quiet (fail)
        go_wp2
        have hD := below_drewN (B := wr.heap.size) wr nq
        exact ⟨⟨k + 1, by omega, rfl, H0.out.step hD, H1.out.step hD, Lib.hid (below_nxt HW.out hD), Lib.hid (by rw [HTk.out, HA.out, h1]; rfl)⟩, by simp [intOf]; omega⟩
      · have e1 := (F1 true).out h1
        rw [if_pos rfl] at e1
        cases h2 : Ic.imp n on fr c' v' with
        | true =>
          rw [h2] at CG
          have hfin := HBk.out (by rw [h1, h2]; rfl)
          clear HBk HTk h1 h2
          go_wp2
          have HD := Lib.hid ((Below.refl wr.heap.size wr).drew)
          obtain ⟨q0, q1, q2, q3, q4⟩ := H0.out.step HD.out
          obtain ⟨t0, t1, t2, t3, t4⟩ := H1.out.step HD.out
          clear r1 r2 r3 r4 s1 s2 s3 s4
          refine wp_region_noPanic ?_
          refine wp_region_held_drew (S := (fun W => ((w.heap.size < W.heap.size ∧ W.cell? ⟨w.heap.size, 0, none⟩ = some (.int .i64 n) ∧ W.cell? ⟨w.heap.size, 1, none⟩ = some (.int .u64 (on : Int)) ∧ W.cell? ⟨w.heap.size, 2, none⟩ = some (.int .i64 m) ∧ W.cell? ⟨w.heap.size, 3, none⟩ = some (.int .u64 (fr : Int))) ∧ (w.heap.size + 1 < W.heap.size ∧ W.cell? ⟨w.heap.size + 1, 0, none⟩ = some (.int .u64 (c : Int)) ∧ W.cell? ⟨w.heap.size + 1, 1, none⟩ = some (.int .u64 (v : Int)) ∧ W.frozen? ⟨w.heap.size + 1, 0, none⟩ = false ∧ W.frozen? ⟨w.heap.size + 1, 1, none⟩ = false) ∧ Hid (Below wr.heap.size wr W)))) (by kernel_rfl) ?_ (fun hHeld => ?_)
          · exact ⟨⟨q0, q1, q2, q3, q4⟩, ⟨t0, t1, t2, t3, t4⟩, HD⟩
          refine wpAnyH_take (i := 0) (v := ?_) rfl (by kernel_rfl) (by kernel_rfl) (by kernel_rfl) (fun _ _ _ h => h) (Or.inl ⟨by rfl, ?_⟩) (by assumption) ?_
          rotate_left 1
          · (intro w hSw; (try dsimp only at hSw); go_simp; (try with_reducible rfl))
          try simp only [Act.put, List.getElem_toArray, List.getElem_cons_succ, List.getElem_cons_zero, List.setIfInBounds_toArray, List.set_cons_zero, List.set_cons_succ]
          refine wpAnyH_take (i := 1) (v := ?_) rfl (by kernel_rfl) (by kernel_rfl) (by kernel_rfl) (fun _ _ _ h => h) (Or.inl ⟨by rfl, ?_⟩) (by assumption) ?_
          rotate_left 1
          · (intro w hSw; (try dsimp only at hSw); go_simp; (try with_reducible rfl))
          try simp only [Act.put, List.getElem_toArray, List.getElem_cons_succ, List.getElem_cons_zero, List.setIfInBounds_toArray, List.set_cons_zero, List.set_cons_succ]
          refine wpAnyH_take (i := 2) (v := ?_) rfl (by kernel_rfl) (by kernel_rfl) (by kernel_rfl) (fun _ _ _ h => h) (Or.inl ⟨by rfl, ?_⟩) (by assumption) ?_
          rotate_left 1
          · (intro w hSw; (try dsimp only at hSw); go_simp; (try with_reducible rfl))
          try simp only [Act.put, List.getElem_toArray, List.getElem_cons_succ, List.getElem_cons_zero, List.setIfInBounds_toArray, List.set_cons_zero, List.set_cons_succ]
          refine wpAnyH_take (i := 3) (v := ?_) rfl (by kernel_rfl) (by kernel_rfl) (by kernel_rfl) (fun _ _ _ h => h) (Or.inl ⟨by rfl, ?_⟩) (by assumption) ?_
          rotate_left 1
          · (intro w hSw; (try dsimp only at hSw); go_simp; (try with_reducible rfl))
          try simp only [Act.put, List.getElem_toArray, List.getElem_cons_succ, List.getElem_cons_zero, List.setIfInBounds_toArray, List.set_cons_zero, List.set_cons_succ]
          refine wpAnyH_take (i := 4) (v := ?_) rfl (by kernel_rfl) (by kernel_rfl) (by kernel_rfl) (fun _ _ _ h => h) (Or.inl ⟨by rfl, ?_⟩) (by assumption) ?_
          rotate_left 1
          · (intro w hSw; (try dsimp only at hSw); go_simp; (try with_reducible rfl))
          try simp only [Act.put, List.getElem_toArray, List.getElem_cons_succ, List.getElem_cons_zero, List.setIfInBounds_toArray, List.set_cons_zero, List.set_cons_succ]
          refine wpAnyH_take (i := 5) (v := ?_) rfl (by kernel_rfl) (by kernel_rfl) (by kernel_rfl) (fun _ _ _ h => h) (Or.inl ⟨by rfl, ?_⟩) (by assumption) ?_
          rotate_left 1
          · (intro w hSw; (try dsimp only at hSw); go_simp; (try with_reducible rfl))
          try simp only [Act.put, List.getElem_toArray, List.getElem_cons_succ, List.getElem_cons_zero, List.setIfInBounds_toArray, List.set_cons_zero, List.set_cons_succ]
          refine wpAnyH_take (i := 6) (v := ?_) rfl (by kernel_rfl) (by kernel_rfl) (by kernel_rfl) (fun _ _ _ h => h) (Or.inl ⟨by rfl, ?_⟩) (by assumption) ?_
          rotate_left 1
          · (intro w hSw; (try dsimp only at hSw); go_simp; (try with_reducible rfl))
          try simp only [Act.put, List.getElem_toArray, List.getElem_cons_succ, List.getElem_cons_zero, List.setIfInBounds_toArray, List.set_cons_zero, List.set_cons_succ]
          refine wpAnyH_take (i := 7) (v := ?_) rfl (by kernel_rfl) (by kernel_rfl) (by kernel_rfl) (fun _ _ _ h => h) (Or.inl ⟨by rfl, ?_⟩) (by assumption) ?_
          rotate_left 1
          · (intro w hSw; (try dsimp only at hSw); go_simp; (try with_reducible rfl))
          try simp only [Act.put, List.getElem_toArray, List.getElem_cons_succ, List.getElem_cons_zero, List.setIfInBounds_toArray, List.set_cons_zero, List.set_cons_succ]
          refine wpAnyH_take (i := 8) (v := ?_) rfl (by kernel_rfl) (by kernel_rfl) (by kernel_rfl) (fun _ _ _ h => h) (Or.inl ⟨by rfl, ?_⟩) (by assumption) ?_
          rotate_left 1
          · (intro w hSw; (try dsimp only at hSw); go_simp; (try with_reducible rfl))
          try simp only [Act.put, List.getElem_toArray, List.getElem_cons_succ, List.getElem_cons_zero, List.setIfInBounds_toArray, List.set_cons_zero, List.set_cons_succ]
          refine wpAnyH_take (i := 9) (v := ?_) rfl (by kernel_rfl) (by kernel_rfl) (by kernel_rfl) (fun _ _ _ h => h) (Or.inl ⟨by rfl, ?_⟩) (by assumption) ?_
          rotate_left 1
          · (intro w hSw; (try dsimp only at hSw); go_simp; (try with_reducible rfl))
          try simp only [Act.put, List.getElem_toArray, List.getElem_cons_succ, List.getElem_cons_zero, List.setIfInBounds_toArray, List.set_cons_zero, List.set_cons_succ]
          refine wpAnyH_take (i := 10) (v := ?_) rfl (by kernel_rfl) (by kernel_rfl) (by kernel_rfl) (fun _ _ _ h => h) (Or.inl ⟨by rfl, ?_⟩) (by assumption) ?_
          rotate_left 1
          · (intro w hSw; (try dsimp only at hSw); go_simp; (try with_reducible rfl))
          try simp only [Act.put, List.getElem_toArray, List.getElem_cons_succ, List.getElem_cons_zero, List.setIfInBounds_toArray, List.set_cons_zero, List.set_cons_succ]
          refine wpAnyH_ready (rs := [11]) (by kernel_rfl) (by simp) ?_
          refine AllReadyH.cons rfl (fun K hK => ?_) AllReadyH.nil
          go_simp
          (have HB2 : Hid (Below wr.heap.size wr (wr.alloc (.cells #[.int .i64 (k : Int)] 3)).drew) := Lib.hid (((Below.refl _ _).alloc (Nat.le_refl _) (.cells #[.int .i64 (k : Int)] 3)).drew); have CE : Hid (Cells .i64 (wr.alloc (.cells #[.int .i64 (k : Int)] 3)).drew (some ⟨wr.heap.size, 0, none⟩) [k]) := Lib.hid (cells_one wr.drew k 3))
          go_simp
          refine hK.out _ _ ?_ (fun hHeld => ?_)
          · exact ⟨H0.out.step HB2.out, H1.out.step HB2.out, HB2⟩
          clear hK K
          try simp only [Act.put, List.getElem_toArray, List.getElem_cons_succ, List.getElem_cons_zero, List.setIfInBounds_toArray, List.set_cons_zero, List.set_cons_succ]
          refine wpAnyH_ready (rs := [12]) (by kernel_rfl) (by simp) ?_
          refine AllReadyH.cons rfl (fun K hK => ?_) AllReadyH.nil
          go_simp
          (go_at_call 101; (with_reducible refine ((CJ _ _ CE.out).out).mono ?_); rintro e w3 ⟨rfl, hb⟩; have HB3 := Lib.hid (below_nxt HB2.out hb); clear hb)
          go_simp
          refine hK.out _ _ ?_ (fun hHeld => ?_)
          · exact ⟨H0.out.step HB3.out, H1.out.step HB3.out, HB3⟩
          clear hK K
          try simp only [Act.put, List.getElem_toArray, List.getElem_cons_succ, List.getElem_cons_zero, List.setIfInBounds_toArray, List.set_cons_zero, List.set_cons_succ]
          refine wpAnyH_ready (rs := [13]) (by kernel_rfl) (by simp) ?_
          refine AllReadyH.cons rfl (fun K hK => ?_) AllReadyH.nil
          go_simp
          (go_at_call 85; (with_reducible refine ((CG _).out).mono ?_); rintro e w4 ⟨rfl, hb⟩; have HB4 := Lib.hid (below_nxt HB3.out hb); clear hb)
          go_simp
          refine hK.out _ _ ?_ (fun hHeld => ?_)
          · exact ⟨H0.out.step HB4.out, H1.out.step HB4.out, HB4⟩
          clear hK K
          try simp only [Act.put, List.getElem_toArray, List.getElem_cons_succ, List.getElem_cons_zero, List.setIfInBounds_toArray, List.set_cons_zero, List.set_cons_succ]
          refine wpAnyH_take (i := 14) (v := ?_) rfl (by kernel_rfl) (by kernel_rfl) (by kernel_rfl) (fun _ _ _ h => h) (Or.inl ⟨by rfl, ?_⟩) (by assumption) ?_
          rotate_left 1
          · (intro w hSw; (try dsimp only at hSw); go_simp; (try with_reducible rfl))
          try simp only [Act.put, List.getElem_toArray, List.getElem_cons_succ, List.getElem_cons_zero, List.setIfInBounds_toArray, List.set_cons_zero, List.set_cons_succ]
          refine wpAnyH_done (by kernel_rfl) ?_ _
          refine NoPanic.normal ?_
          go_wp2
          go_ret
          exact ⟨by rw [hfin]; rfl, below_nxt HW.out HB4.out⟩
        | false =>
          rw [h2] at CG
          have hfin : Hid (Ic.tight n on fr c v (k + 1) = true) := Lib.hid (by rw [HTk.out, HA.out, h1, h2]; rfl)
          clear HBk HTk h1 h2
          go_wp2
          have HD := Lib.hid ((Below.refl wr.heap.size wr).drew)
          obtain ⟨q0, q1, q2, q3, q4⟩ := H0.out.step HD.out
          obtain ⟨t0, t1, t2, t3, t4⟩ := H1.out.step HD.out
          clear r1 r2 r3 r4 s1 s2 s3 s4
          refine wp_region_noPanic ?_
          refine wp_region_held_drew (S := (fun W => ((w.heap.size < W.heap.size ∧ W.cell? ⟨w.heap.size, 0, none⟩ = some (.int .i64 n) ∧ W.cell? ⟨w.heap.size, 1, none⟩ = some (.int .u64 (on : Int)) ∧ W.cell? ⟨w.heap.size, 2, none⟩ = some (.int .i64 m) ∧ W.cell? ⟨w.heap.size, 3, none⟩ = some (.int .u64 (fr : Int))) ∧ (w.heap.size + 1 < W.heap.size ∧ W.cell? ⟨w.heap.size + 1, 0, none⟩ = some (.int .u64 (c : Int)) ∧ W.cell? ⟨w.heap.size + 1, 1, none⟩ = some (.int .u64 (v : Int)) ∧ W.frozen? ⟨w.heap.size + 1, 0, none⟩ = false ∧ W.frozen? ⟨w.heap.size + 1, 1, none⟩ = false) ∧ Hid (Below wr.heap.size wr W)))) (by kernel_rfl) ?_ (fun hHeld => ?_)
          · exact ⟨⟨q0, q1, q2, q3, q4⟩, ⟨t0, t1, t2, t3, t4⟩, HD⟩
          refine wpAnyH_take (i := 0) (v := ?_) rfl (by kernel_rfl) (by kernel_rfl) (by kernel_rfl) (fun _ _ _ h => h) (Or.inl ⟨by rfl, ?_⟩) (by assumption) ?_
          rotate_left 1
          · (intro w hSw; (try dsimp only at hSw); go_simp; (try with_reducible rfl))
          try simp only [Act.put, List.getElem_toArray, List.getElem_cons_succ, List.getElem_cons_zero, List.setIfInBounds_toArray, List.set_cons_zero, List.set_cons_succ]
          refine wpAnyH_take (i := 1) (v := ?_) rfl (by kernel_rfl) (by kernel_rfl) (by kernel_rfl) (fun _ _ _ h => h) (Or.inl ⟨by rfl, ?_⟩) (by assumption) ?_
          rotate_left 1
          · (intro w hSw; (try dsimp only at hSw); go_simp; (try with_reducible rfl))
          try simp only [Act.put, List.getElem_toArray, List.getElem_cons_succ, List.getElem_cons_zero, List.setIfInBounds_toArray, List.set_cons_zero, List.set_cons_succ]
          refine wpAnyH_take (i := 2) (v := ?_) rfl (by kernel_rfl) (by kernel_rfl) (by kernel_rfl) (fun _ _ _ h => h) (Or.inl ⟨by rfl, ?_⟩) (by assumption) ?_
          rotate_left 1
          · (intro w hSw; (try dsimp only at hSw); go_simp; (try with_reducible rfl))
          try simp only [Act.put, List.getElem_toArray, List.getElem_cons_succ, List.getElem_cons_zero, List.setIfInBounds_toArray, List.set_cons_zero, List.set_cons_succ]
          refine wpAnyH_take (i := 3) (v := ?_) rfl (by kernel_rfl) (by kernel_rfl) (by kernel_rfl) (fun _ _ _ h => h) (Or.inl ⟨by rfl, ?_⟩) (by assumption) ?_
          rotate_left 1
          · (intro w hSw; (try dsimp only at hSw); go_simp; (try with_reducible rfl))
          try simp only [Act.put, List.getElem_toArray, List.getElem_cons_succ, List.getElem_cons_zero, List.setIfInBounds_toArray, List.set_cons_zero, List.set_cons_succ]
          refine wpAnyH_take (i := 4) (v := ?_) rfl (by kernel_rfl) (by kernel_rfl) (by kernel_rfl) (fun _ _ _ h => h) (Or.inl ⟨by rfl, ?_⟩) (by assumption) ?_
          rotate_left 1
          · (intro w hSw; (try dsimp only at hSw); go_simp; (try with_reducible rfl))
          try simp only [Act.put, List.getElem_toArray, List.getElem_cons_succ, List.getElem_cons_zero, List.setIfInBounds_toArray, List.set_cons_zero, List.set_cons_succ]
          refine wpAnyH_take (i := 5) (v := ?_) rfl (by kernel_rfl) (by kernel_rfl) (by kernel_rfl) (fun _ _ _ h => h) (Or.inl ⟨by rfl, ?_⟩) (by assumption) ?_
          rotate_left 1
          · (intro w hSw; (try dsimp only at hSw); go_simp; (try with_reducible rfl))
          try simp only [Act.put, List.getElem_toArray, List.getElem_cons_succ, List.getElem_cons_zero, List.setIfInBounds_toArray, List.set_cons_zero, List.set_cons_succ]
          refine wpAnyH_take (i := 6) (v := ?_) rfl (by kernel_rfl) (by kernel_rfl) (by kernel_rfl) (fun _ _ _ h => h) (Or.inl ⟨by rfl, ?_⟩) (by assumption) ?_
          rotate_left 1
          · (intro w hSw; (try dsimp only at hSw); go_simp; (try with_reducible rfl))
          try simp only [Act.put, List.getElem_toArray, List.getElem_cons_succ, List.getElem_cons_zero, List.setIfInBounds_toArray, List.set_cons_zero, List.set_cons_succ]
          refine wpAnyH_take (i := 7) (v := ?_) rfl (by kernel_rfl) (by kernel_rfl) (by kernel_rfl) (fun _ _ _ h => h) (Or.inl ⟨by rfl, ?_⟩) (by assumption) ?_
          rotate_left 1
          · (intro w hSw; (try dsimp only at hSw); go_simp; (try with_reducible rfl))
          try simp only [Act.put, List.getElem_toArray, List.getElem_cons_succ, List.getElem_cons_zero, List.setIfInBounds_toArray, List.set_cons_zero, List.set_cons_succ]
          refine wpAnyH_take (i := 8) (v := ?_) rfl (by kernel_rfl) (by kernel_rfl) (by kernel_rfl) (fun _ _ _ h => h) (Or.inl ⟨by rfl, ?_⟩) (by assumption) ?_
          rotate_left 1
          · (intro w hSw; (try dsimp only at hSw); go_simp; (try with_reducible rfl))
          try simp only [Act.put, List.getElem_toArray, List.getElem_cons_succ, List.getElem_cons_zero, List.setIfInBounds_toArray, List.set_cons_zero, List.set_cons_succ]
          refine wpAnyH_take (i := 9) (v := ?_) rfl (by kernel_rfl) (by kernel_rfl) (by kernel_rfl) (fun _ _ _ h => h) (Or.inl ⟨by rfl, ?_⟩) (by assumption) ?_
          rotate_left 1
          · (intro w hSw; (try dsimp only at hSw); go_simp; (try with_reducible rfl))
          try simp only [Act.put, List.getElem_toArray, List.getElem_cons_succ, List.getElem_cons_zero, List.setIfInBounds_toArray, List.set_cons_zero, List.set_cons_succ]
          refine wpAnyH_take (i := 10) (v := ?_) rfl (by kernel_rfl) (by kernel_rfl) (by kernel_rfl) (fun _ _ _ h => h) (Or.inl ⟨by rfl, ?_⟩) (by assumption) ?_
          rotate_left 1
          · (intro w hSw; (try dsimp only at hSw); go_simp; (try with_reducible rfl))
          try simp only [Act.put, List.getElem_toArray, List.getElem_cons_succ, List.getElem_cons_zero, List.setIfInBounds_toArray, List.set_cons_zero, List.set_cons_succ]
          refine wpAnyH_ready (rs := [11]) (by kernel_rfl) (by simp) ?_
          refine AllReadyH.cons rfl (fun K hK => ?_) AllReadyH.nil
          go_simp
          (have HB2 : Hid (Below wr.heap.size wr (wr.alloc (.cells #[.int .i64 (k : Int)] 3)).drew) := Lib.hid (((Below.refl _ _).alloc (Nat.le_refl _) (.cells #[.int .i64 (k : Int)] 3)).drew); have CE : Hid (Cells .i64 (wr.alloc (.cells #[.int .i64 (k : Int)] 3)).drew (some ⟨wr.heap.size, 0, none⟩) [k]) := Lib.hid (cells_one wr.drew k 3))
          go_simp
          refine hK.out _ _ ?_ (fun hHeld => ?_)
          · exact ⟨H0.out.step HB2.out, H1.out.step HB2.out, HB2⟩
          clear hK K
          try simp only [Act.put, List.getElem_toArray, List.getElem_cons_succ, List.getElem_cons_zero, List.setIfInBounds_toArray, List.set_cons_zero, List.set_cons_succ]
          refine wpAnyH_ready (rs := [12]) (by kernel_rfl) (by simp) ?_
          refine AllReadyH.cons rfl (fun K hK => ?_) AllReadyH.nil
          go_simp
          (go_at_call 101; (with_reducible refine ((CJ _ _ CE.out).out).mono ?_); rintro e w3 ⟨rfl, hb⟩; have HB3 := Lib.hid (below_nxt HB2.out hb); clear hb)
          go_simp
          refine hK.out _ _ ?_ (fun hHeld => ?_)
          · exact ⟨H0.out.step HB3.out, H1.out.step HB3.out, HB3⟩
          clear hK K
          try simp only [Act.put, List.getElem_toArray, List.getElem_cons_succ, List.getElem_cons_zero, List.setIfInBounds_toArray, List.set_cons_zero, List.set_cons_succ]
          refine wpAnyH_ready (rs := [13]) (by kernel_rfl) (by simp) ?_
          refine AllReadyH.cons rfl (fun K hK => ?_) AllReadyH.nil
          go_simp
          (go_at_call 85; (with_reducible refine ((CG _).out).mono ?_); rintro e w4 ⟨rfl, hb⟩; have HB4 := Lib.hid (below_nxt HB3.out hb); clear hb)
          go_simp
          refine hK.out _ _ ?_ (fun hHeld => ?_)
          · exact ⟨H0.out.step HB4.out, H1.out.step HB4.out, HB4⟩
          clear hK K
          try simp only [Act.put, List.getElem_toArray, List.getElem_cons_succ, List.getElem_cons_zero, List.setIfInBounds_toArray, List.set_cons_zero, List.set_cons_succ]
          refine wpAnyH_take (i := 14) (v := ?_) rfl (by kernel_rfl) (by kernel_rfl) (by kernel_rfl) (fun _ _ _ h => h) (Or.inl ⟨by rfl, ?_⟩) (by assumption) ?_
          rotate_left 1
          · (intro w hSw; (try dsimp only at hSw); go_simp; (try with_reducible rfl))
          try simp only [Act.put, List.getElem_toArray, List.getElem_cons_succ, List.getElem_cons_zero, List.setIfInBounds_toArray, List.set_cons_zero, List.set_cons_succ]
          refine wpAnyH_done (by kernel_rfl) ?_ _
          refine NoPanic.normal ?_
          go_wp2
          exact ⟨⟨k + 1, by omega, rfl, H0.out.step HB4.out, H1.out.step HB4.out, Lib.hid (below_nxt HW.out HB4.out), hfin⟩, by simp [intOf]; omega⟩
    · obtain rfl : k = n := by omega
      go_wp2
      go_ret
      exact ⟨by rw [HA.out]; rfl, HW.out⟩
end Go.Proofs.YtahjdmdgkkienaaGreatDoor

namespace Ic
theorem rowR_mem {c k : Nat} {x : Nat × Nat} : x ∈ rowR c k ↔ x.1 = c ∧ x.2 < k ∧ x.2 &&& c = x.2 := by
  obtain ⟨a, b⟩ := x
  unfold rowR
  simp only [List.mem_map, List.mem_filter, List.mem_range, Prod.mk.injEq, beq_iff_eq]
  constructor
  · rintro ⟨v, ⟨h1, h2⟩, rfl, rfl⟩; exact ⟨rfl, h1, h2⟩
  · rintro ⟨rfl, h1, h2⟩; exact ⟨b, ⟨h1, h2⟩, rfl, rfl⟩
theorem cubR_mem {m : Nat} {x : Nat × Nat} : x ∈ cubR m ↔ x.1 < m ∧ x.2 ≤ x.1 ∧ x.2 &&& x.1 = x.2 := by
  unfold cubR
  simp only [List.mem_flatMap, List.mem_range, rowR_mem]
  constructor
  · rintro ⟨c, h1, rfl, h2, h3⟩; exact ⟨h1, by omega, h3⟩
  · rintro ⟨h1, h2, h3⟩; exact ⟨x.1, h1, rfl, by omega, h3⟩
theorem prime_ref {n on fr c v : Nat} (hn : n ≤ 6) (ho : on < 2 ^ 64) (hf : fr < 2 ^ 64) : (tch n on c v && (good n on fr c v && tight n on fr c v n)) = prime n on fr c v := by
  rw [good_imp hn ho hf, Bool.eq_iff_iff, prime_iff, Bool.and_eq_true, Bool.and_eq_true, tch_iff]
/-- The prime implicants in the reference's order. -/
def primesR (n on fr : Nat) : List (Nat × Nat) := (cubR (2 ^ n)).filter fun x => prime n on fr x.1 x.2
theorem filter_take {α : Type} (p : α → Bool) (l : List α) (d : α) {i : Nat} (h : i < l.length) : (l.take (i + 1)).filter p = if p (l.getD i d) then (l.take i).filter p ++ [l.getD i d] else (l.take i).filter p := by
  rw [List.take_add_one, List.getElem?_eq_getElem h, Option.toList_some, List.filter_append, List.getD_eq_getElem?_getD, List.getElem?_eq_getElem h, Option.getD_some]
  by_cases hp : p l[i] = true
  · rw [if_pos hp, List.filter_cons_of_pos hp]; rfl
  · rw [if_neg hp, List.filter_cons_of_neg hp]; simp
end Ic
namespace Go.Proofs.YtahjdmdgkkienaaGreatDoor
open Go.RowKit Go.Shelf

theorem RowC.mono {B B' : Nat} {e : TypeId} {w : World} {v : Value} {l : List (Nat × Nat)} (h : RowC B e w v l) (hb : B' ≤ B) : RowC B' e w v l := by
  rcases h with ⟨h0, h | ⟨g, cap, cur, h1, h2, h3⟩⟩
  · exact ⟨h0, .inl h⟩
  · exact ⟨h0, .inr ⟨g, cap, cur, h1, by omega, h3⟩⟩
theorem RowC.sees {B : Nat} {e : TypeId} {w : World} {v : Value} {l : List (Nat × Nat)} (h : RowC B e w v l) : SeesC w v l := by
  have hc := fun g hg => World.ownsRow.cells h (g := g) hg
  have hlt := World.ownsRow.lt h
  rcases h with ⟨h0, ⟨rfl, h2⟩ | ⟨g, cap, cur, rfl, h1, h2, h3⟩⟩
  · exact .inl ⟨rfl, List.eq_nil_of_length_eq_zero h2⟩
  · have hk := hc g rfl
    refine .inr ⟨g, cap, rfl, by omega, by omega, (hlt g rfl).2, fun i hi => ⟨?_, ?_⟩⟩
    · have := hk (i * 2) (.int .u64 ((l.getD i (0, 0)).1 : Int)) ((Ic.flat_get l i 0 hi (by omega)).trans rfl)
      rwa [addr_add] at this
    · have := hk (i * 2 + 1) (.int .u64 ((l.getD i (0, 0)).2 : Int)) ((Ic.flat_get l i 1 hi (by omega)).trans rfl)
      rwa [addr_add] at this

set_option maxHeartbeats 4000000 in
set_option maxRecDepth 100000 in
theorem rcAll_any (n on : Nat) (m : Int) (fr : Nat) (w : World) (hn : n ≤ 6) (ho : on < 2 ^ 64) (hf : fr < 2 ^ 64) :
    Calls Tryz.prog 64 #[.agg #[.int .i64 n, .int .u64 on, .int .i64 m, .int .u64 fr]] w fun e w' => ∃ v, e = .returned v ∧ RowC w.heap.size 62 w' v (Ic.primesR n on fr) ∧ Below w.heap.size w w' := by
  obtain ⟨i0, hi0, hz0, hz1, hz2⟩ := info_cube
  have CC := fun W => Lib.hid (rcCubes_any n W hn)
  have hlen : (Ic.cubR (2 ^ n)).length ≤ 4096 := Nat.le_trans (Ic.cubR_len _) (Nat.mul_le_mul (Tt.size_le hn) (Tt.size_le hn))
  have HM := Lib.hid (fun i (hi : i < (Ic.cubR (2 ^ n)).length) => show ((Ic.cubR (2 ^ n)).getD i (0, 0)).1 < 2 ^ 64 ∧ ((Ic.cubR (2 ^ n)).getD i (0, 0)).2 < 2 ^ 64 by
    have h := Ic.cubR_mem.1 (Ic.getD_mem hi)
    have hs := Tt.size_le hn
    exact ⟨by omega, by omega⟩)
  have HG := Lib.hid (show Ic.primesR n on fr = (Ic.cubR (2 ^ n)).filter (fun x => Ic.prime n on fr x.1 x.2) from rfl)
  generalize Ic.primesR n on fr = res at *
  generalize Ic.cubR (2 ^ n) = l at *
  have HS := Lib.hid (fun i (hi : i < l.length) => Ic.filter_take (fun x => Ic.prime n on fr x.1 x.2) l (0, 0) hi)
  have HE : Hid ((l.take l.length).filter (fun x => Ic.prime n on fr x.1 x.2) = res) := Lib.hid (by rw [List.take_length, HG.out])
  have HL := Lib.hid (fun i => Nat.le_trans (List.length_filter_le (fun x => Ic.prime n on fr x.1 x.2) (l.take i)) (by rw [List.length_take]; exact Nat.min_le_right _ _))
  have CT := fun i (hi : i < l.length) W => Lib.hid (rcTch_any n on m fr (l.getD i (0, 0)).1 (l.getD i (0, 0)).2 W hn ho (HM.out i hi).1)
  have CG := fun i (hi : i < l.length) W => Lib.hid (rcGood_any n on m fr (l.getD i (0, 0)).1 (l.getD i (0, 0)).2 W hn ho hf (HM.out i hi).1)
  have CW := fun i (hi : i < l.length) W => Lib.hid (rcGrows_any n on m fr (l.getD i (0, 0)).1 (l.getD i (0, 0)).2 W hn ho hf (HM.out i hi).1 (HM.out i hi).2)
  have HP := Lib.hid (fun c v => Ic.prime_ref (c := c) (v := v) hn ho hf)
  have H0 : Hid ((l.take 0).filter (fun x => Ic.prime n on fr x.1 x.2) = []) := Lib.hid (by simp)
  obtain ⟨P0, L0, z0⟩ := task_new w n on m fr 107
  generalize hX : w.alloc (.cells #[.int .i64 n, .int .u64 (on : Int), .int .i64 m, .int .u64 (fr : Int)] 107) = X at *
  have HX0 := Lib.hid L0
  obtain ⟨p0, p1, p2, p3, p4⟩ := id P0
  clear L0 ho hf
  go_enter Tryz.func64, Tryz.ntmps64
  go_wp2_with (go_at_call 83; refine ((CC _).out).mono ?_; rintro e w1 ⟨cv, rfl, hrc, hb⟩; have HB1 := Lib.hid hb; clear hb)
  obtain ⟨ao, cap, rfl, hcap1, hcap2, hcells⟩ := hrc.sees.opened
  have HC := Lib.hid hcells
  clear hrc hcells
  have HP1 := Lib.hid (P0.step HB1.out)
  have HBW := Lib.hid (below_nxt HX0.out HB1.out)
  have hw1 := HB1.out.size
  have hw0 : w.heap.size < w1.heap.size := by omega
  clear p0 p1 p2 p3 p4 P0
  go_loopw [4, 5] (fun s4 s5 wr => ∃ i : Nat, i ≤ l.length ∧ s5 = .int .i64 i ∧ RowC w1.heap.size 62 wr s4 ((l.take i).filter (fun x => Ic.prime n on fr x.1 x.2)) ∧ TaskI wr w.heap.size n on m fr ∧ Hid (Below w1.heap.size w1 wr)) (fun _ s5 _ => l.length - (intOf s5).toNat)
  case atStart => exact ⟨0, Nat.zero_le _, rfl, by rw [H0.out]; exact RowC.nil _ _ _, HP1.out, Lib.hid (Below.refl _ _)⟩
  case round =>
    obtain ⟨i, hi, rfl, hrow, R, HB⟩ := hrel
    by_cases hil : i < l.length
    · obtain ⟨g, rfl, hg, c1, c2⟩ := HC.out.at HB.out hil
      have CTi := CT i hil
      have CGi := CG i hil
      have CWi := CW i hil
      have HSi := Lib.hid (HS.out i hil)
      have hli := HL.out i
      have HPi := Lib.hid (HP.out (l.getD i (0, 0)).1 (l.getD i (0, 0)).2)
      clear HS HL HP CT CG CW H0 HM
      generalize (l.take i).filter (fun x => Ic.prime n on fr x.1 x.2) = q at *
      generalize l.getD i (0, 0) = y at *
      have hq : q.length ≤ 4096 := by omega
      have hwr := HB.out.size
      obtain ⟨r0, r1, r2, r3, r4⟩ := id R
      go_wp2_with (fail)
      obtain ⟨N0, LN, zN⟩ := cub1_new wr y.1 y.2 62
      have R2 := Lib.hid (R.step LN)
      have X2 := Lib.hid N0
      have HB2 := Lib.hid (below_nxt HB.out LN)
      have RW2 := Lib.hid (hrow.below LN (Nat.le_refl _))
      clear R hrow LN N0 r1 r2 r3 r4
      generalize wr.alloc (.cells #[.int .u64 (y.1 : Int), .int .u64 (y.2 : Int)] 62) = V at *
      obtain ⟨r0'', r1, r2, r3, r4⟩ := R2.out
      obtain ⟨x0, x1, x2, x3, x4⟩ := X2.out
      generalize Ic.tch n on y.1 y.2 = q1 at *
      generalize Ic.good n on fr y.1 y.2 = q2 at *
      generalize Ic.tight n on fr y.1 y.2 n = q3 at *
      cases q1 with
      | false =>
        have HF : Hid ((l.take (i + 1)).filter (fun x => Ic.prime n on fr x.1 x.2) = q) := Lib.hid (by rw [HSi.out, ← HPi.out]; rfl)
        clear HSi HPi
        go_wp2_with (first | (go_at_call 84; (with_reducible refine ((CTi _).out).mono ?_); rintro e w3 ⟨rfl, hb⟩; have R3 := Lib.hid (R2.out.step hb); have X3 := Lib.hid (X2.out.step hb); have HB3 := Lib.hid (below_nxt HB2.out hb); have RW3 := Lib.hid (RW2.out.below hb (Nat.le_refl _)); have hz3 := HB3.out.size; clear hb r1 r2 r3 r4 x1 x2 x3 x4; obtain ⟨r0', r1, r2, r3, r4⟩ := R3.out; obtain ⟨x0', x1, x2, x3, x4⟩ := X3.out) | (go_at_call 85; (with_reducible refine ((CGi _).out).mono ?_); rintro e w4 ⟨rfl, hb⟩; have R4 := Lib.hid (R3.out.step hb); have X4 := Lib.hid (X3.out.step hb); have HB4 := Lib.hid (below_nxt HB3.out hb); have RW4 := Lib.hid (RW3.out.below hb (Nat.le_refl _)); have hz4 := HB4.out.size; clear hb r1 r2 r3 r4 x1 x2 x3 x4; obtain ⟨r0', r1, r2, r3, r4⟩ := R4.out; obtain ⟨x0', x1, x2, x3, x4⟩ := X4.out) | (go_at_call 86; (with_reducible refine ((CWi _).out).mono ?_); rintro e w5 ⟨rfl, hb⟩; have R5 := Lib.hid (R4.out.step hb); have X5 := Lib.hid (X4.out.step hb); have HB5 := Lib.hid (below_nxt HB4.out hb); have RW5 := Lib.hid (RW4.out.below hb (Nat.le_refl _)); have hz5 := HB5.out.size; clear hb r1 r2 r3 r4 x1 x2 x3 x4; obtain ⟨r0', r1, r2, r3, r4⟩ := R5.out; obtain ⟨x0', x1, x2, x3, x4⟩ := X5.out) | (at_builtin; refine wpList_append_cub rfl _ _ 22 rfl 62 i0 Tryz.underlying22 hi0 hz0 hz1 hz2 _ q y w5.heap.size rfl rfl w1.heap.size (RW5.out.below ((Below.refl _ _).alloc (Nat.le_refl _) _) (Nat.le_refl _)) (by simp) (by simp) (by omega) (by simp; omega) ?_; intro v5 w6 hr5 hb5))
        exact ⟨⟨i + 1, by omega, rfl, by rw [HF.out]; exact RW3.out, R3.out, HB3⟩, by simp [intOf]; omega⟩
      | true =>
        cases q2 with
        | false =>
          have HF : Hid ((l.take (i + 1)).filter (fun x => Ic.prime n on fr x.1 x.2) = q) := Lib.hid (by rw [HSi.out, ← HPi.out]; rfl)
          clear HSi HPi
          go_wp2_with (first | (go_at_call 84; (with_reducible refine ((CTi _).out).mono ?_); rintro e w3 ⟨rfl, hb⟩; have R3 := Lib.hid (R2.out.step hb); have X3 := Lib.hid (X2.out.step hb); have HB3 := Lib.hid (below_nxt HB2.out hb); have RW3 := Lib.hid (RW2.out.below hb (Nat.le_refl _)); have hz3 := HB3.out.size; clear hb r1 r2 r3 r4 x1 x2 x3 x4; obtain ⟨r0', r1, r2, r3, r4⟩ := R3.out; obtain ⟨x0', x1, x2, x3, x4⟩ := X3.out) | (go_at_call 85; (with_reducible refine ((CGi _).out).mono ?_); rintro e w4 ⟨rfl, hb⟩; have R4 := Lib.hid (R3.out.step hb); have X4 := Lib.hid (X3.out.step hb); have HB4 := Lib.hid (below_nxt HB3.out hb); have RW4 := Lib.hid (RW3.out.below hb (Nat.le_refl _)); have hz4 := HB4.out.size; clear hb r1 r2 r3 r4 x1 x2 x3 x4; obtain ⟨r0', r1, r2, r3, r4⟩ := R4.out; obtain ⟨x0', x1, x2, x3, x4⟩ := X4.out) | (go_at_call 86; (with_reducible refine ((CWi _).out).mono ?_); rintro e w5 ⟨rfl, hb⟩; have R5 := Lib.hid (R4.out.step hb); have X5 := Lib.hid (X4.out.step hb); have HB5 := Lib.hid (below_nxt HB4.out hb); have RW5 := Lib.hid (RW4.out.below hb (Nat.le_refl _)); have hz5 := HB5.out.size; clear hb r1 r2 r3 r4 x1 x2 x3 x4; obtain ⟨r0', r1, r2, r3, r4⟩ := R5.out; obtain ⟨x0', x1, x2, x3, x4⟩ := X5.out) | (at_builtin; refine wpList_append_cub rfl _ _ 22 rfl 62 i0 Tryz.underlying22 hi0 hz0 hz1 hz2 _ q y w5.heap.size rfl rfl w1.heap.size (RW5.out.below ((Below.refl _ _).alloc (Nat.le_refl _) _) (Nat.le_refl _)) (by simp) (by simp) (by omega) (by simp; omega) ?_; intro v5 w6 hr5 hb5))
          exact ⟨⟨i + 1, by omega, rfl, by rw [HF.out]; exact RW4.out, R4.out, HB4⟩, by simp [intOf]; omega⟩
        | true =>
          cases q3 with
          | false =>
            have HF : Hid ((l.take (i + 1)).filter (fun x => Ic.prime n on fr x.1 x.2) = q) := Lib.hid (by rw [HSi.out, ← HPi.out]; rfl)
            clear HSi HPi
            go_wp2_with (first | (go_at_call 84; (with_reducible refine ((CTi _).out).mono ?_); rintro e w3 ⟨rfl, hb⟩; have R3 := Lib.hid (R2.out.step hb); have X3 := Lib.hid (X2.out.step hb); have HB3 := Lib.hid (below_nxt HB2.out hb); have RW3 := Lib.hid (RW2.out.below hb (Nat.le_refl _)); have hz3 := HB3.out.size; clear hb r1 r2 r3 r4 x1 x2 x3 x4; obtain ⟨r0', r1, r2, r3, r4⟩ := R3.out; obtain ⟨x0', x1, x2, x3, x4⟩ := X3.out) | (go_at_call 85; (with_reducible refine ((CGi _).out).mono ?_); rintro e w4 ⟨rfl, hb⟩; have R4 := Lib.hid (R3.out.step hb); have X4 := Lib.hid (X3.out.step hb); have HB4 := Lib.hid (below_nxt HB3.out hb); have RW4 := Lib.hid (RW3.out.below hb (Nat.le_refl _)); have hz4 := HB4.out.size; clear hb r1 r2 r3 r4 x1 x2 x3 x4; obtain ⟨r0', r1, r2, r3, r4⟩ := R4.out; obtain ⟨x0', x1, x2, x3, x4⟩ := X4.out) | (go_at_call 86; (with_reducible refine ((CWi _).out).mono ?_); rintro e w5 ⟨rfl, hb⟩; have R5 := Lib.hid (R4.out.step hb); have X5 := Lib.hid (X4.out.step hb); have HB5 := Lib.hid (below_nxt HB4.out hb); have RW5 := Lib.hid (RW4.out.below hb (Nat.le_refl _)); have hz5 := HB5.out.size; clear hb r1 r2 r3 r4 x1 x2 x3 x4; obtain ⟨r0', r1, r2, r3, r4⟩ := R5.out; obtain ⟨x0', x1, x2, x3, x4⟩ := X5.out) | (at_builtin; refine wpList_append_cub rfl _ _ 22 rfl 62 i0 Tryz.underlying22 hi0 hz0 hz1 hz2 _ q y w5.heap.size rfl rfl w1.heap.size (RW5.out.below ((Below.refl _ _).alloc (Nat.le_refl _) _) (Nat.le_refl _)) (by simp) (by simp) (by omega) (by simp; omega) ?_; intro v5 w6 hr5 hb5))
            exact ⟨⟨i + 1, by omega, rfl, by rw [HF.out]; exact RW5.out, R5.out, HB5⟩, by simp [intOf]; omega⟩
          | true =>
            have HF : Hid ((l.take (i + 1)).filter (fun x => Ic.prime n on fr x.1 x.2) = q ++ [y]) := Lib.hid (by rw [HSi.out, ← HPi.out]; rfl)
            clear HSi HPi
            go_wp2_with (first | (go_at_call 84; (with_reducible refine ((CTi _).out).mono ?_); rintro e w3 ⟨rfl, hb⟩; have R3 := Lib.hid (R2.out.step hb); have X3 := Lib.hid (X2.out.step hb); have HB3 := Lib.hid (below_nxt HB2.out hb); have RW3 := Lib.hid (RW2.out.below hb (Nat.le_refl _)); have hz3 := HB3.out.size; clear hb r1 r2 r3 r4 x1 x2 x3 x4; obtain ⟨r0', r1, r2, r3, r4⟩ := R3.out; obtain ⟨x0', x1, x2, x3, x4⟩ := X3.out) | (go_at_call 85; (with_reducible refine ((CGi _).out).mono ?_); rintro e w4 ⟨rfl, hb⟩; have R4 := Lib.hid (R3.out.step hb); have X4 := Lib.hid (X3.out.step hb); have HB4 := Lib.hid (below_nxt HB3.out hb); have RW4 := Lib.hid (RW3.out.below hb (Nat.le_refl _)); have hz4 := HB4.out.size; clear hb r1 r2 r3 r4 x1 x2 x3 x4; obtain ⟨r0', r1, r2, r3, r4⟩ := R4.out; obtain ⟨x0', x1, x2, x3, x4⟩ := X4.out) | (go_at_call 86; (with_reducible refine ((CWi _).out).mono ?_); rintro e w5 ⟨rfl, hb⟩; have R5 := Lib.hid (R4.out.step hb); have X5 := Lib.hid (X4.out.step hb); have HB5 := Lib.hid (below_nxt HB4.out hb); have RW5 := Lib.hid (RW4.out.below hb (Nat.le_refl _)); have hz5 := HB5.out.size; clear hb r1 r2 r3 r4 x1 x2 x3 x4; obtain ⟨r0', r1, r2, r3, r4⟩ := R5.out; obtain ⟨x0', x1, x2, x3, x4⟩ := X5.out) | (at_builtin; refine wpList_append_cub rfl _ _ 22 rfl 62 i0 Tryz.underlying22 hi0 hz0 hz1 hz2 _ q y w5.heap.size rfl rfl w1.heap.size (RW5.out.below ((Below.refl _ _).alloc (Nat.le_refl _) _) (Nat.le_refl _)) (by simp) (by simp) (by omega) (by simp; omega) ?_; intro v5 w6 hr5 hb5))
            exact ⟨⟨i + 1, by omega, rfl, by rw [HF.out]; exact hr5, (R5.out.step ((Below.refl _ _).alloc (Nat.le_refl _) _)).below hw0 hb5, Lib.hid ((below_nxt HB5.out ((Below.refl _ _).alloc (Nat.le_refl _) _)).trans hb5)⟩, by simp [intOf]; omega⟩
    · obtain rfl : i = l.length := by omega
      rw [HE.out] at hrow
      go_wp2
      exact bodyPost_ret (by simp [results, Tryz.results64, go_sem]) rfl ⟨_, rfl, RowC.mono hrow (by omega), HBW.out.trans (HB.out.mono (by omega))⟩
end Go.Proofs.YtahjdmdgkkienaaGreatDoor
