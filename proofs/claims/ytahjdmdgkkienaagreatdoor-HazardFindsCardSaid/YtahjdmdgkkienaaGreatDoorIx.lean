/- Covers and Table of package implicant, and of its reference. -/
import Derived.Test.YtahjdmdgkkienaaGreatDoorIe
namespace Ic
def covV (n : Int) (c v : Nat) (p : Int) : Bool × Int := if chk n c v ≠ 0 then (false, chk n c v) else if p < 0 ∨ 2 ^ n.toNat ≤ p then (false, 2) else (inn c v p.toNat, 0)
def tabV (n : Int) (c v : Nat) : (Int × Nat) × Int := if chk n c v ≠ 0 then ((0, 0), chk n c v) else ((n, tab n.toNat c v), 0)
end Ic
namespace Go.Proofs.YtahjdmdgkkienaaGreatDoor
open Go.RowKit Go.Shelf

theorem and_in (k c v : Nat) (hk : k < 64) (hc : c < 2 ^ 64) : (bits .and .u64 (k : Int) (c : Int) == (v : Int)) = Ic.inn c v k := by
  rw [u64_and_nat k c (by omega) (by simpa using hc)]
  unfold Ic.inn
  rw [Bool.eq_iff_iff, beq_iff_eq, beq_iff_eq]
  exact Int.ofNat_inj

theorem rcIn_any (c v k : Nat) (w : World) (hk : k < 64) (hc : c < 2 ^ 64) : Calls Tryz.prog 65 #[.agg #[.int .u64 c, .int .u64 v], .int .i64 k] w fun e w' => e = .returned (.bool (Ic.inn c v k)) ∧ Below w.heap.size w w' := by
  obtain ⟨P0, L0, z0⟩ := cub1_new w c v 62
  obtain ⟨p0, p1, p2, p3, p4⟩ := id P0
  have hi := and_in k c v hk hc
  clear P0 hc
  generalize Ic.inn c v k = q at *
  generalize hX : w.alloc (.cells #[.int .u64 (c : Int), .int .u64 (v : Int)] 62) = X at *
  go_enter Tryz.func65, Tryz.ntmps65
  go_wp2
  go_ret
  exact ⟨rfl, L0⟩

set_option maxHeartbeats 4000000 in
set_option maxRecDepth 100000 in
theorem iCovers_any (n : Int) (c v : Nat) (p : Int) (w : World) (hc : c < 2 ^ 64) (hv : v < 2 ^ 64) :
    Calls Tryz.prog 63 #[.int .i64 n, .agg #[.int .u64 c, .int .u64 v], .int .i64 p] w fun e w' => e = .returned (.tuple #[.bool (Ic.covV n c v p).1, .int .i64 (Ic.covV n c v p).2]) ∧ Below w.heap.size w w' := by
  have CK := fun W => Lib.hid (iCheck_any n c v W hc hv)
  obtain ⟨P0, L0, z0⟩ := cub1_new w c v 62
  generalize hX : w.alloc (.cells #[.int .u64 (c : Int), .int .u64 (v : Int)] 62) = X at *
  obtain ⟨p0, p1, p2, p3, p4⟩ := id P0
  by_cases h : Ic.chk n c v = 0
  · obtain ⟨m, rfl, hm, hcm, hs⟩ := Ic.chk_nat hv h
    have h64 : (2 : Nat) ^ m ≤ 64 := Nat.pow_le_pow_right (n := 2) (by omega) hm
    rw [h] at CK
    unfold Ic.covV
    rw [h, if_neg (by simp), Int.toNat_natCast]
    rcases Int.lt_or_le p 0 with hp | hp
    · rw [if_pos (.inl hp)]
      clear hcm hs
      go_enter Tryz.func63, Tryz.ntmps63
      go_wp2_with (go_at_call 53; refine ((CK _).out).mono ?_; rintro e w1 ⟨rfl, hb1⟩; have HB := Lib.hid (below_nxt L0 hb1); obtain ⟨q0, q1, q2, q3, q4⟩ := P0.step hb1)
      exact bodyPost_ret (v := .tuple #[.bool false, .int .i64 2]) (by simp [results, Tryz.results63, go_sem]) rfl ⟨rfl, HB.out⟩
    · obtain ⟨k, rfl⟩ := Int.eq_ofNat_of_zero_le hp
      by_cases hk : k < 2 ^ m
      · have hi := and_in k c v (by omega) hc
        rw [if_neg (by have : ((2 : Int) ^ m) = ((2 ^ m : Nat) : Int) := by simp
                       omega), Int.toNat_natCast]
        clear hp hc hv hcm hs
        generalize Ic.inn c v k = q at *
        rcases (show m = 0 ∨ m = 1 ∨ m = 2 ∨ m = 3 ∨ m = 4 ∨ m = 5 ∨ m = 6 by omega) with rfl | rfl | rfl | rfl | rfl | rfl | rfl
        all_goals
          simp only [Nat.reducePow] at hk
          go_enter Tryz.func63, Tryz.ntmps63
          go_wp2_with (go_at_call 53; refine ((CK _).out).mono ?_; rintro e w1 ⟨rfl, hb1⟩; have HB := Lib.hid (below_nxt L0 hb1); obtain ⟨q0, q1, q2, q3, q4⟩ := P0.step hb1)
          exact bodyPost_ret (v := .tuple #[.bool q, .int .i64 0]) (by simp [results, Tryz.results63, go_sem]) rfl ⟨rfl, HB.out⟩
      · rw [if_pos (by have : ((2 : Int) ^ m) = ((2 ^ m : Nat) : Int) := by simp
                       omega)]
        clear hp hc hv hcm hs
        rcases (show m = 0 ∨ m = 1 ∨ m = 2 ∨ m = 3 ∨ m = 4 ∨ m = 5 ∨ m = 6 by omega) with rfl | rfl | rfl | rfl | rfl | rfl | rfl
        all_goals
          simp only [Nat.reducePow, Nat.not_lt] at hk
          go_enter Tryz.func63, Tryz.ntmps63
          go_wp2_with (go_at_call 53; refine ((CK _).out).mono ?_; rintro e w1 ⟨rfl, hb1⟩; have HB := Lib.hid (below_nxt L0 hb1); obtain ⟨q0, q1, q2, q3, q4⟩ := P0.step hb1)
          exact bodyPost_ret (v := .tuple #[.bool false, .int .i64 2]) (by simp [results, Tryz.results63, go_sem]) rfl ⟨rfl, HB.out⟩
  · unfold Ic.covV
    rw [if_pos h]
    have hne : (Ic.chk n c v != 0) = true := by simp [h]
    generalize Ic.chk n c v = k at *
    go_enter Tryz.func63, Tryz.ntmps63
    go_wp2_with (go_at_call 53; refine ((CK _).out).mono ?_; rintro e w1 ⟨rfl, hb1⟩; have HB := Lib.hid (below_nxt L0 hb1))
    exact bodyPost_ret (v := .tuple #[.bool false, .int .i64 k]) (by simp [results, Tryz.results63, go_sem]) rfl ⟨rfl, HB.out⟩

set_option maxHeartbeats 4000000 in
set_option maxRecDepth 100000 in
theorem iTab_any (n : Int) (c v : Nat) (w : World) (hc : c < 2 ^ 64) (hv : v < 2 ^ 64) (hst : St w) :
    Calls Tryz.prog 42 #[.int .i64 n, .agg #[.int .u64 c, .int .u64 v]] w fun e w' => e = .returned (.tuple #[.agg #[.int .i64 (Ic.tabV n c v).1.1, .int .u64 ((Ic.tabV n c v).1.2 : Nat)], .int .i64 (Ic.tabV n c v).2]) ∧ Below w.heap.size w w' := by
  have CK := fun W => Lib.hid (iCheck_any n c v W hc hv)
  obtain ⟨P0, L0, z0⟩ := cub1_new w c v 62
  obtain ⟨PT, LT, zT⟩ := tab1_new (w.alloc (.cells #[.int .u64 (c : Int), .int .u64 (v : Int)] 62)) 0 0 29
  replace P0 := P0.step LT
  replace L0 := below_nxt L0 LT
  rw [z0] at PT zT
  clear LT z0
  simp only [Int.natCast_zero] at PT L0 P0 zT
  generalize hX : (w.alloc (.cells #[.int .u64 (c : Int), .int .u64 (v : Int)] 62)).alloc (.cells #[.int .i64 0, .int .u64 0] 29) = X at *
  obtain ⟨p0, p1, p2, p3, p4⟩ := id P0
  by_cases h : Ic.chk n c v = 0
  · obtain ⟨m, rfl, hm, hcm, hs⟩ := Ic.chk_nat hv h
    rw [h] at CK
    have CT := fun W (h : St W) => Lib.hid (iTable_any m c v W hm hcm hs h)
    unfold Ic.tabV
    rw [h, if_neg (by simp), Int.toNat_natCast]
    generalize Ic.tab m c v = t at *
    go_enter Tryz.func42, Tryz.ntmps42
    go_wp2_with (first | (go_at_call 53; refine ((CK _).out).mono ?_; rintro e w1 ⟨rfl, hb1⟩; have HB := Lib.hid (below_nxt L0 hb1); obtain ⟨q0, q1, q2, q3, q4⟩ := P0.step hb1; have PT1 := PT.step hb1; obtain ⟨t0, t1, t2, t3, t4⟩ := id PT1) | (go_at_call 68; refine ((CT _ (hst.next HB.out)).out).mono ?_; rintro e w3 ⟨rfl, hb3⟩; have HB3 := Lib.hid (below_nxt HB.out hb3); have PT3 := PT1.step hb3; clear t0 t1 t2 t3 t4; obtain ⟨t0, t1, t2, t3, t4⟩ := id PT3))
    exact bodyPost_ret (v := .tuple #[.agg #[.int .i64 m, .int .u64 t], .int .i64 0]) (by simp [results, Tryz.results42, go_sem, t1, t2]) rfl ⟨rfl, below_put2 HB3.out (by omega) _ _⟩
  · unfold Ic.tabV
    rw [if_pos h]
    have hne : (Ic.chk n c v != 0) = true := by simp [h]
    generalize Ic.chk n c v = k at *
    go_enter Tryz.func42, Tryz.ntmps42
    go_wp2_with (first | (go_at_call 53; refine ((CK _).out).mono ?_; rintro e w1 ⟨rfl, hb1⟩; have HB := Lib.hid (below_nxt L0 hb1); obtain ⟨q0, q1, q2, q3, q4⟩ := P0.step hb1; have PT1 := PT.step hb1; obtain ⟨t0, t1, t2, t3, t4⟩ := id PT1) | (go_at_call 68; refine ((CT _ (hst.next HB.out)).out).mono ?_; rintro e w3 ⟨rfl, hb3⟩; have HB3 := Lib.hid (below_nxt HB.out hb3); have PT3 := PT1.step hb3; clear t0 t1 t2 t3 t4; obtain ⟨t0, t1, t2, t3, t4⟩ := id PT3))
    exact bodyPost_ret (v := .tuple #[.agg #[.int .i64 0, .int .u64 0], .int .i64 k]) (by simp [results, Tryz.results42, go_sem, t1, t2]) rfl ⟨rfl, below_put2 HB.out (by omega) _ _⟩
end Go.Proofs.YtahjdmdgkkienaaGreatDoor

