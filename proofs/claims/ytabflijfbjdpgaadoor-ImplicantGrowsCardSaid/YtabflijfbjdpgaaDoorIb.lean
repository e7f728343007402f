/- The contracts of package implicant and of its reference on pairs of cubes. -/
import Derived.Test.YtabflijfbjdpgaaDoorIa
namespace Go.Proofs.YtabflijfbjdpgaaDoor
open Go.RowKit Go.Shelf

theorem ret_agg2 {a b a' b' : Int} {T : IntKind} (h1 : a = a') (h2 : b = b') : Ending.returned (.agg #[.int T a, .int T b]) = Ending.returned (.agg #[.int T a', .int T b']) := by rw [h1, h2]
theorem iOpp_any (c v d u : Nat) (w : World) (hc : c < 2 ^ 64) (hv : v < 2 ^ 64) (hd : d < 2 ^ 64) (hu : u < 2 ^ 64) :
    Calls Tryd.prog 52 #[.agg #[.int .u64 c, .int .u64 v], .agg #[.int .u64 d, .int .u64 u]] w fun e w' => e = .returned (.int .u64 (Ic.opp c v d u : Nat)) ∧ Below w.heap.size w w' := by
  obtain ⟨P0, P1, L0, z0⟩ := cub2_new w c v d u 24
  have e1 := u64_and_nat c d (by simpa using hc) (by simpa using hd)
  have e2 := u64_xor_nat v u (by simpa using hv) (by simpa using hu)
  have e3 := u64_and_nat (c &&& d) (v ^^^ u) (by have := Nat.and_le_left (n := c) (m := d); omega) (by have := Nat.xor_lt_two_pow hv hu; simpa using this)
  change _ = ((Ic.opp c v d u : Nat) : Int) at e3
  generalize Ic.opp c v d u = r at *
  generalize c &&& d = x at *
  generalize v ^^^ u = y at *
  generalize hX : (w.alloc (.cells #[.int .u64 (c : Int), .int .u64 (v : Int)] 24)).alloc (.cells #[.int .u64 (d : Int), .int .u64 (u : Int)] 24) = X at *
  obtain ⟨p0, p1, p2, p3, p4⟩ := id P0
  obtain ⟨q0, q1, q2, q3, q4⟩ := id P1
  clear hc hv hd hu
  go_enter Tryd.func52, Tryd.ntmps52
  go_wp2
  go_ret
  exact ⟨rfl, L0⟩
set_option maxRecDepth 100000 in
theorem iJoin_any (c v d u : Nat) (w : World) (hc : c < 2 ^ 64) (hv : v < 2 ^ 64) (hd : d < 2 ^ 64) (hu : u < 2 ^ 64) :
    Calls Tryd.prog 53 #[.agg #[.int .u64 c, .int .u64 v], .agg #[.int .u64 d, .int .u64 u]] w fun e w' => e = .returned (.agg #[.int .u64 ((c ||| d : Nat) : Int), .int .u64 ((v ||| u : Nat) : Int)]) ∧ Below w.heap.size w w' := by
  obtain ⟨P0, P1, P2, L0, z0⟩ := cub3_new w c v d u 0 0 24
  have e1 := u64_or_nat c d (by simpa using hc) (by simpa using hd)
  have e2 := u64_or_nat v u (by simpa using hv) (by simpa using hu)
  generalize c ||| d = x at *
  generalize v ||| u = y at *
  generalize hX : ((w.alloc (.cells #[.int .u64 (c : Int), .int .u64 (v : Int)] 24)).alloc (.cells #[.int .u64 (d : Int), .int .u64 (u : Int)] 24)).alloc (.cells #[.int .u64 ((0 : Nat) : Int), .int .u64 ((0 : Nat) : Int)] 24) = X at *
  change ((w.alloc (.cells #[.int .u64 (c : Int), .int .u64 (v : Int)] 24)).alloc (.cells #[.int .u64 (d : Int), .int .u64 (u : Int)] 24)).alloc (.cells #[.int .u64 0, .int .u64 0] 24) = X at hX
  obtain ⟨p0, p1, p2, p3, p4⟩ := id P0
  obtain ⟨q0, q1, q2, q3, q4⟩ := id P1
  obtain ⟨r0, r1, r2, r3, r4⟩ := id P2
  clear hc hv hd hu
  go_enter Tryd.func53, Tryd.ntmps53
  go_wp2
  exact bodyPost_ret (v := .agg #[.int .u64 x, .int .u64 y]) (by simp [results, Tryd.results53, go_sem, r1, r2]) rfl ⟨rfl, by (repeat' (first | exact L0 | refine Below.alloc ?_ (by simp; omega) _ | refine Below.setCell ?_ (by first | exact Nat.le_refl _ | (dsimp only; omega) | (simp; omega)) _ | refine Below.drew ?_))⟩
set_option maxRecDepth 100000 in
theorem iWithout_any (c v x : Nat) (w : World) (hc : c < 2 ^ 64) (hv : v < 2 ^ 64) (hx : x < 2 ^ 64) :
    Calls Tryd.prog 59 #[.agg #[.int .u64 c, .int .u64 v], .int .u64 x] w fun e w' => e = .returned (.agg #[.int .u64 ((c &&& (18446744073709551615 - x) : Nat) : Int), .int .u64 ((v &&& (18446744073709551615 - x) : Nat) : Int)]) ∧ Below w.heap.size w w' := by
  obtain ⟨P0, P2, L0, z0⟩ := cub2_new w c v 0 0 24
  have e1 := and_not hc hx
  have e2 := and_not hv hx
  generalize c &&& (18446744073709551615 - x) = y at *
  generalize v &&& (18446744073709551615 - x) = z at *
  generalize hX : (w.alloc (.cells #[.int .u64 (c : Int), .int .u64 (v : Int)] 24)).alloc (.cells #[.int .u64 ((0 : Nat) : Int), .int .u64 ((0 : Nat) : Int)] 24) = X at *
  change (w.alloc (.cells #[.int .u64 (c : Int), .int .u64 (v : Int)] 24)).alloc (.cells #[.int .u64 0, .int .u64 0] 24) = X at hX
  obtain ⟨p0, p1, p2, p3, p4⟩ := id P0
  obtain ⟨r0, r1, r2, r3, r4⟩ := id P2
  clear hc hv hx
  go_enter Tryd.func59, Tryd.ntmps59
  go_wp2
  exact bodyPost_ret (v := .agg #[.int .u64 y, .int .u64 z]) (by simp [results, Tryd.results59, go_sem, r1, r2]) rfl ⟨rfl, by (repeat' (first | exact L0 | refine Below.alloc ?_ (by simp; omega) _ | refine Below.setCell ?_ (by first | exact Nat.le_refl _ | (dsimp only; omega) | (simp; omega)) _ | refine Below.drew ?_))⟩
theorem iBoth_any (n : Int) (c v d u : Nat) (w : World) (hc : c < 2 ^ 64) (hv : v < 2 ^ 64) (hd : d < 2 ^ 64) (hu : u < 2 ^ 64) :
    Calls Tryd.prog 51 #[.int .i64 n, .agg #[.int .u64 c, .int .u64 v], .agg #[.int .u64 d, .int .u64 u]] w fun e w' => e = .returned (.int .i64 (Ic.chk2 n c v d u)) ∧ Below w.heap.size w w' := by
  have C1 := fun W => Lib.hid (iCheck_any n c v W hc hv)
  have C2 := fun W => Lib.hid (iCheck_any n d u W hd hu)
  unfold Ic.chk2
  generalize Ic.chk n c v = k1 at *
  generalize Ic.chk n d u = k2 at *
  obtain ⟨r, hr⟩ : ∃ r, (if k1 ≠ 0 then k1 else k2) = r := ⟨_, rfl⟩
  rw [hr]
  have HR := Lib.hid hr
  clear hr
  obtain ⟨P0, P1, L0, z0⟩ := cub2_new w c v d u 24
  generalize hX : (w.alloc (.cells #[.int .u64 (c : Int), .int .u64 (v : Int)] 24)).alloc (.cells #[.int .u64 (d : Int), .int .u64 (u : Int)] 24) = X at *
  obtain ⟨p0, p1, p2, p3, p4⟩ := id P0
  clear hc hv hd hu
  go_enter Tryd.func51, Tryd.ntmps51
  go_wp2_with fail
  refine ((C1 _).out).mono ?_
  rintro e w1 ⟨rfl, hw1⟩
  obtain ⟨q0, q1, q2, q3, q4⟩ := P1.step hw1
  have L1 := below_nxt L0 hw1
  clear hw1
  by_cases h : k1 = 0
  · subst h
    have hr := HR.out
    rw [if_neg (by simp)] at hr
    subst hr
    go_wp2_with fail
    refine ((C2 _).out).mono ?_
    rintro e w2 ⟨rfl, hw2⟩
    have L2 := below_nxt L1 hw2
    clear hw2
    go_wp2
    go_ret
    exact ⟨rfl, L2⟩
  · have hr := HR.out
    rw [if_pos h] at hr
    subst hr
    have h' : (k1 != 0) = true := by simpa using h
    go_wp2_with fail
    go_ret
    exact ⟨rfl, L1⟩
theorem rcBoth_any (n : Int) (c v d u : Nat) (w : World) (hc : c < 2 ^ 64) (hv : v < 2 ^ 64) (hd : d < 2 ^ 64) (hu : u < 2 ^ 64) :
    Calls Tryd.prog 54 #[.int .i64 n, .agg #[.int .u64 c, .int .u64 v], .agg #[.int .u64 d, .int .u64 u]] w fun e w' => e = .returned (.int .i64 (Ic.chk2 n c v d u)) ∧ Below w.heap.size w w' := by
  have C1 := fun W => Lib.hid (rcCheck_any n c v W hc hv)
  have C2 := fun W => Lib.hid (rcCheck_any n d u W hd hu)
  unfold Ic.chk2
  generalize Ic.chk n c v = k1 at *
  generalize Ic.chk n d u = k2 at *
  obtain ⟨r, hr⟩ : ∃ r, (if k1 ≠ 0 then k1 else k2) = r := ⟨_, rfl⟩
  rw [hr]
  have HR := Lib.hid hr
  clear hr
  obtain ⟨P0, P1, L0, z0⟩ := cub2_new w c v d u 24
  generalize hX : (w.alloc (.cells #[.int .u64 (c : Int), .int .u64 (v : Int)] 24)).alloc (.cells #[.int .u64 (d : Int), .int .u64 (u : Int)] 24) = X at *
  obtain ⟨p0, p1, p2, p3, p4⟩ := id P0
  clear hc hv hd hu
  go_enter Tryd.func54, Tryd.ntmps54
  go_wp2_with fail
  refine ((C1 _).out).mono ?_
  rintro e w1 ⟨rfl, hw1⟩
  obtain ⟨q0, q1, q2, q3, q4⟩ := P1.step hw1
  have L1 := below_nxt L0 hw1
  clear hw1
  by_cases h : k1 = 0
  · subst h
    have hr := HR.out
    rw [if_neg (by simp)] at hr
    subst hr
    go_wp2_with fail
    refine ((C2 _).out).mono ?_
    rintro e w2 ⟨rfl, hw2⟩
    have L2 := below_nxt L1 hw2
    clear hw2
    go_wp2
    go_ret
    exact ⟨rfl, L2⟩
  · have hr := HR.out
    rw [if_pos h] at hr
    subst hr
    have h' : (k1 != 0) = true := by simpa using h
    go_wp2_with fail
    go_ret
    exact ⟨rfl, L1⟩
end Go.Proofs.YtabflijfbjdpgaaDoor
