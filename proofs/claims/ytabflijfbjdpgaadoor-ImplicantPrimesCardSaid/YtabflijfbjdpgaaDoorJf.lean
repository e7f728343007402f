/- joined, Meet and Consensus of the reference. -/
import Derived.Test.YtabflijfbjdpgaaDoorJe
import Derived.Test.YtabflijfbjdpgaaDoorId
namespace Go.Proofs.YtabflijfbjdpgaaDoor
open Go.RowKit Go.Shelf

set_option linter.unusedSimpArgs false in
set_option maxHeartbeats 2000000 in
set_option maxRecDepth 100000 in
theorem rcJoin0_any (c v d u : Nat) (w : World) (hc : c < 2 ^ 64) (hv : v < 2 ^ 64) (hd : d < 2 ^ 64) (hu : u < 2 ^ 64) :
    Calls Tryd.prog 57 #[.agg #[.int .u64 c, .int .u64 v], .agg #[.int .u64 d, .int .u64 u], .slice none 0 0] w fun e w' => e = .returned (.agg #[.int .u64 ((c ||| d : Nat) : Int), .int .u64 ((v ||| u : Nat) : Int)]) ∧ Below w.heap.size w w' := by
  have e1 := u64_or_nat c d (by simpa using hc) (by simpa using hd)
  have e2 := u64_or_nat v u (by simpa using hv) (by simpa using hu)
  generalize c ||| d = x at *
  generalize v ||| u = y at *
  obtain ⟨P0, P1, P2, L0, z0⟩ := cub3_new w c v d u 0 0 24
  generalize hX : ((w.alloc (.cells #[.int .u64 (c : Int), .int .u64 (v : Int)] 24)).alloc (.cells #[.int .u64 (d : Int), .int .u64 (u : Int)] 24)).alloc (.cells #[.int .u64 ((0 : Nat) : Int), .int .u64 ((0 : Nat) : Int)] 24) = X at *
  change ((w.alloc (.cells #[.int .u64 (c : Int), .int .u64 (v : Int)] 24)).alloc (.cells #[.int .u64 (d : Int), .int .u64 (u : Int)] 24)).alloc (.cells #[.int .u64 0, .int .u64 0] 24) = X at hX
  obtain ⟨p0, p1, p2, p3, p4⟩ := id P0
  obtain ⟨q0, q1, q2, q3, q4⟩ := id P1
  obtain ⟨r0, r1, r2, r3, r4⟩ := id P2
  have HL := Lib.hid L0
  clear hc hv hd hu
  go_enter Tryd.func57, Tryd.ntmps57
  go_wp2
  refine wp_loop_rounds 1 ?_
  rw [rounds_succ]
  go_wp2
  have F := (P2.put x y).step ((Below.refl _ _).alloc (Nat.le_refl _) (.cells #[.int .u64 (x : Int), .int .u64 (y : Int)] 24))
  obtain ⟨f0, f1, f2, f3, f4⟩ := F
  have hnn : w.heap.size + 1 + 1 = w.heap.size + 2 := rfl
  simp only [hnn]
  exact bodyPost_ret (v := .agg #[.int .u64 x, .int .u64 y]) (by simp [results, Tryd.results57, go_sem, hnn, f1, f2]) rfl ⟨rfl, (by (repeat' (first | exact HL.out | refine Below.alloc ?_ (by simp; omega) _ | refine Below.setCell ?_ (by first | exact Nat.le_refl _ | (dsimp only; omega) | (simp; omega)) _ | refine Below.drew ?_)))⟩

set_option linter.unusedSimpArgs false in
set_option maxHeartbeats 4000000 in
set_option maxRecDepth 100000 in
theorem rcJoin1_any (c v d u i : Nat) (ao : Option Addr) (cap : Nat) (w : World) (hc : c < 2 ^ 64) (hv : v < 2 ^ 64) (hd : d < 2 ^ 64) (hu : u < 2 ^ 64) (hi : i < 6) (hC : Cells .i64 w ao [i]) (_ : 1 ≤ cap) (_ : cap ≤ 9223372036854775807) :
    Calls Tryd.prog 57 #[.agg #[.int .u64 c, .int .u64 v], .agg #[.int .u64 d, .int .u64 u], .slice ao 1 cap] w fun e w' => e = .returned (.agg #[.int .u64 (((c ||| d) &&& (18446744073709551615 - 2 ^ i) : Nat) : Int), .int .u64 (((v ||| u) &&& (18446744073709551615 - 2 ^ i) : Nat) : Int)]) ∧ Below w.heap.size w w' := by
  have e1 := u64_or_nat c d (by simpa using hc) (by simpa using hd)
  have e2 := u64_or_nat v u (by simpa using hv) (by simpa using hu)
  have hp := Ic.two64 hi
  have e3 := u64_andNot_nat (c ||| d) (2 ^ i) (by simpa using Nat.or_lt_two_pow hc hd) (by simpa using hp)
  have e4 := u64_andNot_nat (v ||| u) (2 ^ i) (by simpa using Nat.or_lt_two_pow hv hu) (by simpa using hp)
  generalize (c ||| d) &&& (18446744073709551615 - 2 ^ i) = x2 at *
  generalize (v ||| u) &&& (18446744073709551615 - 2 ^ i) = y2 at *
  generalize c ||| d = x at *
  generalize v ||| u = y at *
  obtain ⟨P0, P1, P2, L0, z0⟩ := cub3_new w c v d u 0 0 24
  generalize hX : ((w.alloc (.cells #[.int .u64 (c : Int), .int .u64 (v : Int)] 24)).alloc (.cells #[.int .u64 (d : Int), .int .u64 (u : Int)] 24)).alloc (.cells #[.int .u64 ((0 : Nat) : Int), .int .u64 ((0 : Nat) : Int)] 24) = X at *
  change ((w.alloc (.cells #[.int .u64 (c : Int), .int .u64 (v : Int)] 24)).alloc (.cells #[.int .u64 (d : Int), .int .u64 (u : Int)] 24)).alloc (.cells #[.int .u64 0, .int .u64 0] 24) = X at hX
  obtain ⟨b, off, rfl, hb, hcell⟩ := hC (by simp)
  have k0 := hcell 0 (by simp)
  simp only [Nat.add_zero, List.getD_cons_zero] at k0
  have k1 := (L0.cell (p := ⟨b, off, none⟩) hb).trans k0
  obtain ⟨p0, p1, p2, p3, p4⟩ := id P0
  obtain ⟨q0, q1, q2, q3, q4⟩ := id P1
  obtain ⟨r0, r1, r2, r3, r4⟩ := id P2
  have HL := Lib.hid L0
  clear hc hv hd hu hcell k0 hC
  rcases (show i = 0 ∨ i = 1 ∨ i = 2 ∨ i = 3 ∨ i = 4 ∨ i = 5 by omega) with rfl | rfl | rfl | rfl | rfl | rfl
  all_goals
    simp only [Nat.reducePow, Int.cast_ofNat_Int, Int.natCast_one, Int.natCast_zero] at e3 e4 k1
    go_enter Tryd.func57, Tryd.ntmps57
    go_wp2
    obtain ⟨N0, LN, zN⟩ := cub1_new X x y 24
    have HLN := Lib.hid (below_nxt L0 LN)
    rw [z0] at N0
    obtain ⟨g0, g1, g2, g3, g4⟩ := id N0
    have V2 := Lib.hid (P2.step LN)
    have k2 := (LN.cell (p := ⟨b, off, none⟩) (by simp only; omega)).trans k1
    have hne : b ≠ w.heap.size + 3 := by omega
    have hne' : w.heap.size + 3 ≠ b := by omega
    generalize hY : X.alloc (.cells #[.int .u64 (x : Int), .int .u64 (y : Int)] 24) = Y at *
    clear r1 r2 r3 r4 p1 p2 p3 p4 q1 q2 q3 q4 k1
    refine wp_loop_rounds 2 ?_
    rw [rounds_succ]
    go_wp2
    go_still_tail 9, (by kernel_rfl)
    change wpList _ _ _ _ _ Y.drew
    go_wp2
    try simp only [e3]
    have N1 := (N0.set0 x2).drew
    have k3 : (Y.setCell ⟨w.heap.size + 3, 0, none⟩ (.int .u64 (x2 : Int))).drew.cell? ⟨b, off, none⟩ = some _ := (World.cell?_setCell_other (w := Y) (v := .int .u64 (x2 : Int)) (a := ⟨w.heap.size + 3, 0, none⟩) (b := ⟨b, off, none⟩) (fun e => hne (by have := congrArg Addr.block e; simp at this; omega))).trans k2
    have V3 := Lib.hid (V2.out.other (g' := w.heap.size + 3) (j := 0) (.int .u64 (x2 : Int)) (by omega)).drew
    have HB3 := Lib.hid (HLN.out.setCell (p := ⟨w.heap.size + 3, 0, none⟩) (by show w.heap.size ≤ w.heap.size + 3; omega) (.int .u64 (x2 : Int))).drew
    clear N0 k2 V2 HLN g0 g1 g2 g3 g4
    generalize (Y.setCell ⟨w.heap.size + 3, 0, none⟩ (.int .u64 (x2 : Int))).drew = Z at *
    obtain ⟨g0, g1, g2, g3, g4⟩ := id N1
    go_still_tail 9, (by kernel_rfl)
    change wpList _ _ _ _ _ Z.drew
    go_wp2
    try simp only [e4]
    have N2 := (N1.set1 y2).drew
    have V4 := (V3.out.other (g' := w.heap.size + 3) (j := 1) (.int .u64 (y2 : Int)) (by omega)).drew
    have HB4 := Lib.hid (HB3.out.setCell (p := ⟨w.heap.size + 3, 1, none⟩) (by show w.heap.size ≤ w.heap.size + 3; omega) (.int .u64 (y2 : Int))).drew
    clear N1 V3 HB3 g0 g1 g2 g3 g4
    generalize (Z.setCell ⟨w.heap.size + 3, 1, none⟩ (.int .u64 (y2 : Int))).drew = Q at *
    obtain ⟨g0, g1, g2, g3, g4⟩ := id N2
    obtain ⟨h0, h1', h2', h3, h4⟩ := id V4
    rw [rounds_succ]
    have hnn : w.heap.size + 1 + 1 = w.heap.size + 2 := rfl
    simp only [hnn]
    go_wp2
    have F := V4.put x2 y2
    obtain ⟨f0, f1, f2, f3, f4⟩ := F
    exact bodyPost_ret (v := .agg #[.int .u64 x2, .int .u64 y2]) (by simp [results, Tryd.results57, go_sem, f1, f2]) rfl ⟨rfl, below_put2 HB4.out (by omega) _ _⟩

set_option linter.unusedSimpArgs false in
set_option maxHeartbeats 4000000 in
set_option maxRecDepth 100000 in
theorem rcMeet_any (n : Int) (c v d u : Nat) (w : World) (hc : c < 2 ^ 64) (hv : v < 2 ^ 64) (hd : d < 2 ^ 64) (hu : u < 2 ^ 64) :
    Calls Tryd.prog 21 #[.int .i64 n, .agg #[.int .u64 c, .int .u64 v], .agg #[.int .u64 d, .int .u64 u]] w fun e w' => e = .returned (.tuple #[.agg #[.int .u64 ((Ic.meetV n c v d u).1.1.1 : Nat), .int .u64 ((Ic.meetV n c v d u).1.1.2 : Nat)], .bool (Ic.meetV n c v d u).1.2, .int .i64 (Ic.meetV n c v d u).2]) ∧ Below w.heap.size w w' := by
  have C1 := fun W => Lib.hid (rcBoth_any n c v d u W hc hv hd hu)
  obtain ⟨P0, P1, P2, L0, z0⟩ := cub3_new w c v d u 0 0 24
  generalize hX : ((w.alloc (.cells #[.int .u64 (c : Int), .int .u64 (v : Int)] 24)).alloc (.cells #[.int .u64 (d : Int), .int .u64 (u : Int)] 24)).alloc (.cells #[.int .u64 ((0 : Nat) : Int), .int .u64 ((0 : Nat) : Int)] 24) = X at *
  change ((w.alloc (.cells #[.int .u64 (c : Int), .int .u64 (v : Int)] 24)).alloc (.cells #[.int .u64 (d : Int), .int .u64 (u : Int)] 24)).alloc (.cells #[.int .u64 0, .int .u64 0] 24) = X at hX
  have HL := Lib.hid L0
  obtain ⟨p0, p1, p2, p3, p4⟩ := id P0
  obtain ⟨q0, q1, q2, q3, q4⟩ := id P1
  obtain ⟨r0, r1, r2, r3, r4⟩ := id P2
  obtain ⟨r, hr⟩ : ∃ r, Ic.meetV n c v d u = r := ⟨_, rfl⟩
  rw [hr]
  unfold Ic.meetV at hr
  have hnn : w.heap.size + 1 + 1 = w.heap.size + 2 := rfl
  by_cases hk : Ic.chk2 n c v d u = 0
  · rw [if_pos hk] at hr
    obtain ⟨h1, h2⟩ := Ic.chk2_zero.1 hk
    obtain ⟨m, rfl, hm, hcm, hs⟩ := Ic.chk_nat hv h1
    have CO := fun W => Lib.hid (rcOpp_any m c v d u W hm hc hv hd hu)
    have hx := Ic.opp_lt (v := v) (d := d) (u := u) hcm
    have hcnt := Ic.cnt_pts hm hx
    rw [hk] at C1
    by_cases ho : Ic.opp c v d u = 0
    · rw [if_pos ho] at hr
      subst hr
      have hl : (Tt.pts (fun i => (Ic.opp c v d u).testBit i) m) = [] := List.eq_nil_of_length_eq_zero (by rw [hcnt, ho]; decide)
      rw [hl] at CO
      have CJ := fun W => Lib.hid (rcJoin0_any c v d u W hc hv hd hu)
      generalize c ||| d = x at *
      generalize v ||| u = y at *
      clear hk h1 h2 hcm hs hx hcnt hc hv hd hu hl ho
      go_enter Tryd.func21, Tryd.ntmps21
      go_wp2_with (first | (go_at_call 54; refine ((C1 _).out).mono ?_; rintro e w1 ⟨rfl, hb⟩; have HB1 := Lib.hid (below_nxt L0 hb); have V0 := Lib.hid (P0.step hb); have V1 := Lib.hid (P1.step hb); have V2 := Lib.hid (P2.step hb); clear hb; obtain ⟨p0, p1, p2, p3, p4⟩ := V0.out; obtain ⟨q0, q1, q2, q3, q4⟩ := V1.out; obtain ⟨r0, r1, r2, r3, r4⟩ := V2.out) | (go_at_call 56; refine ((CO _).out).mono ?_; rintro e w2 ⟨sv, rfl, hsv, hb⟩; have HB2 := Lib.hid (below_nxt HB1.out hb); have U0 := Lib.hid (V0.out.step hb); have U1 := Lib.hid (V1.out.step hb); have U2 := Lib.hid (V2.out.step hb); clear hb p0 p1 p2 p3 p4 q0 q1 q2 q3 q4 r0 r1 r2 r3 r4; obtain ⟨p0, p1, p2, p3, p4⟩ := U0.out; obtain ⟨q0, q1, q2, q3, q4⟩ := U1.out; obtain ⟨r0, r1, r2, r3, r4⟩ := U2.out; obtain ⟨ao, cap, rfl, hc1, hc2, hC⟩ := hsv.sees.opened; have HC := Lib.hid hC; clear hC hsv) | (go_at_call 57; refine ((CJ _).out).mono ?_; rintro e w3 ⟨rfl, hb⟩; have HB3 := Lib.hid (below_nxt HB2.out hb); have U3 := Lib.hid (U2.out.step hb); clear hb r0 r1 r2 r3 r4; obtain ⟨r0, r1, r2, r3, r4⟩ := U3.out))
      have F := U3.out.put x y
      obtain ⟨f0, f1, f2, f3, f4⟩ := F
      try simp only [Int.natCast_zero] at f1 f2
      exact bodyPost_ret (v := .tuple #[.agg #[.int .u64 (x : Nat), .int .u64 (y : Nat)], .bool true, .int .i64 0]) (by simp [results, Tryd.results21, go_sem, f1, f2]) rfl ⟨rfl, below_put2 HB3.out (by omega) _ _⟩
    · rw [if_neg ho] at hr
      subst hr
      have hl : 0 < (Tt.pts (fun i => (Ic.opp c v d u).testBit i) m).length := by
        rw [hcnt]
        have h0 : Ic.cnt (Ic.opp c v d u) ≠ 0 := fun h => ho ((Ic.cnt_zero (Ic.p64 hm hx)).1 h)
        omega
      generalize (Tt.pts (fun i => (Ic.opp c v d u).testBit i) m) = l at *
      clear hk h1 h2 hcm hs hx hcnt hc hv hd hu ho
      go_enter Tryd.func21, Tryd.ntmps21
      go_wp2_with (first | (go_at_call 54; refine ((C1 _).out).mono ?_; rintro e w1 ⟨rfl, hb⟩; have HB1 := Lib.hid (below_nxt L0 hb); have V0 := Lib.hid (P0.step hb); have V1 := Lib.hid (P1.step hb); have V2 := Lib.hid (P2.step hb); clear hb; obtain ⟨p0, p1, p2, p3, p4⟩ := V0.out; obtain ⟨q0, q1, q2, q3, q4⟩ := V1.out; obtain ⟨r0, r1, r2, r3, r4⟩ := V2.out) | (go_at_call 56; refine ((CO _).out).mono ?_; rintro e w2 ⟨sv, rfl, hsv, hb⟩; have HB2 := Lib.hid (below_nxt HB1.out hb); have U0 := Lib.hid (V0.out.step hb); have U1 := Lib.hid (V1.out.step hb); have U2 := Lib.hid (V2.out.step hb); clear hb p0 p1 p2 p3 p4 q0 q1 q2 q3 q4 r0 r1 r2 r3 r4; obtain ⟨p0, p1, p2, p3, p4⟩ := U0.out; obtain ⟨q0, q1, q2, q3, q4⟩ := U1.out; obtain ⟨r0, r1, r2, r3, r4⟩ := U2.out; obtain ⟨ao, cap, rfl, hc1, hc2, hC⟩ := hsv.sees.opened; have HC := Lib.hid hC; clear hC hsv))
      have F := U2.out.put 0 0
      obtain ⟨f0, f1, f2, f3, f4⟩ := F
      try simp only [Int.natCast_zero] at f1 f2
      exact bodyPost_ret (v := .tuple #[.agg #[.int .u64 (0 : Nat), .int .u64 (0 : Nat)], .bool false, .int .i64 0]) (by simp [results, Tryd.results21, go_sem, f1, f2]) rfl ⟨rfl, below_put2 HB2.out (by omega) _ _⟩
  · have hk' : (Ic.chk2 n c v d u != 0) = true := by simp [hk]
    rw [if_neg hk] at hr
    subst hr
    generalize Ic.chk2 n c v d u = k at *
    clear hc hv hd hu
    go_enter Tryd.func21, Tryd.ntmps21
    go_wp2_with (go_at_call 54; refine ((C1 _).out).mono ?_; rintro e w1 ⟨rfl, hb⟩; have HB1 := Lib.hid (below_nxt L0 hb); have V0 := Lib.hid (P0.step hb); have V1 := Lib.hid (P1.step hb); have V2 := Lib.hid (P2.step hb); clear hb; obtain ⟨p0, p1, p2, p3, p4⟩ := V0.out; obtain ⟨q0, q1, q2, q3, q4⟩ := V1.out; obtain ⟨r0, r1, r2, r3, r4⟩ := V2.out)
    have F := V2.out.put 0 0
    obtain ⟨f0, f1, f2, f3, f4⟩ := F
    try simp only [Int.natCast_zero] at f1 f2
    exact bodyPost_ret (v := .tuple #[.agg #[.int .u64 (0 : Nat), .int .u64 (0 : Nat)], .bool false, .int .i64 k]) (by simp [results, Tryd.results21, go_sem, f1, f2]) rfl ⟨rfl, below_put2 HB1.out (by omega) _ _⟩

set_option linter.unusedSimpArgs false in
set_option maxHeartbeats 4000000 in
set_option maxRecDepth 100000 in
theorem rcCons_any (n : Int) (c v d u : Nat) (w : World) (hc : c < 2 ^ 64) (hv : v < 2 ^ 64) (hd : d < 2 ^ 64) (hu : u < 2 ^ 64) :
    Calls Tryd.prog 23 #[.int .i64 n, .agg #[.int .u64 c, .int .u64 v], .agg #[.int .u64 d, .int .u64 u]] w fun e w' => e = .returned (.tuple #[.agg #[.int .u64 ((Ic.consV n c v d u).1.1.1 : Nat), .int .u64 ((Ic.consV n c v d u).1.1.2 : Nat)], .bool (Ic.consV n c v d u).1.2, .int .i64 (Ic.consV n c v d u).2]) ∧ Below w.heap.size w w' := by
  have C1 := fun W => Lib.hid (rcBoth_any n c v d u W hc hv hd hu)
  obtain ⟨P0, P1, P2, L0, z0⟩ := cub3_new w c v d u 0 0 24
  generalize hX : ((w.alloc (.cells #[.int .u64 (c : Int), .int .u64 (v : Int)] 24)).alloc (.cells #[.int .u64 (d : Int), .int .u64 (u : Int)] 24)).alloc (.cells #[.int .u64 ((0 : Nat) : Int), .int .u64 ((0 : Nat) : Int)] 24) = X at *
  change ((w.alloc (.cells #[.int .u64 (c : Int), .int .u64 (v : Int)] 24)).alloc (.cells #[.int .u64 (d : Int), .int .u64 (u : Int)] 24)).alloc (.cells #[.int .u64 0, .int .u64 0] 24) = X at hX
  have HL := Lib.hid L0
  obtain ⟨p0, p1, p2, p3, p4⟩ := id P0
  obtain ⟨q0, q1, q2, q3, q4⟩ := id P1
  obtain ⟨r0, r1, r2, r3, r4⟩ := id P2
  obtain ⟨r, hr⟩ : ∃ r, Ic.consV n c v d u = r := ⟨_, rfl⟩
  rw [hr]
  unfold Ic.consV at hr
  have hnn : w.heap.size + 1 + 1 = w.heap.size + 2 := rfl
  by_cases hk : Ic.chk2 n c v d u = 0
  · rw [if_pos hk] at hr
    obtain ⟨h1, h2⟩ := Ic.chk2_zero.1 hk
    obtain ⟨m, rfl, hm, hcm, hs⟩ := Ic.chk_nat hv h1
    have CO := fun W => Lib.hid (rcOpp_any m c v d u W hm hc hv hd hu)
    have hx := Ic.opp_lt (v := v) (d := d) (u := u) hcm
    have hcnt := Ic.cnt_pts hm hx
    rw [hk] at C1
    by_cases ho : Ic.cnt (Ic.opp c v d u) = 1
    · rw [if_pos ho] at hr
      subst hr
      have hl1 : (Tt.pts (fun i => (Ic.opp c v d u).testBit i) m).length = 1 := by rw [hcnt, ho]
      obtain ⟨i, hl⟩ := List.length_eq_one_iff.1 hl1
      obtain ⟨h3, h4⟩ := Ic.one_bit hx hl
      rw [hl] at CO
      have CJ := fun ao cap W hC h1 h2 => Lib.hid (rcJoin1_any c v d u i ao cap W hc hv hd hu (by omega) hC h1 h2)
      rw [← h3] at CJ
      generalize (c ||| d) &&& (18446744073709551615 - Ic.opp c v d u) = x at *
      generalize (v ||| u) &&& (18446744073709551615 - Ic.opp c v d u) = y at *
      clear hk h1 h2 hcm hs hx hcnt hc hv hd hu hl ho hl1 h3 h4
      go_enter Tryd.func23, Tryd.ntmps23
      go_wp2_with (first | (go_at_call 54; refine ((C1 _).out).mono ?_; rintro e w1 ⟨rfl, hb⟩; have HB1 := Lib.hid (below_nxt L0 hb); have V0 := Lib.hid (P0.step hb); have V1 := Lib.hid (P1.step hb); have V2 := Lib.hid (P2.step hb); clear hb; obtain ⟨p0, p1, p2, p3, p4⟩ := V0.out; obtain ⟨q0, q1, q2, q3, q4⟩ := V1.out; obtain ⟨r0, r1, r2, r3, r4⟩ := V2.out) | (go_at_call 56; refine ((CO _).out).mono ?_; rintro e w2 ⟨sv, rfl, hsv, hb⟩; have HB2 := Lib.hid (below_nxt HB1.out hb); have U0 := Lib.hid (V0.out.step hb); have U1 := Lib.hid (V1.out.step hb); have U2 := Lib.hid (V2.out.step hb); clear hb p0 p1 p2 p3 p4 q0 q1 q2 q3 q4 r0 r1 r2 r3 r4; obtain ⟨p0, p1, p2, p3, p4⟩ := U0.out; obtain ⟨q0, q1, q2, q3, q4⟩ := U1.out; obtain ⟨r0, r1, r2, r3, r4⟩ := U2.out; obtain ⟨ao, cap, rfl, hc1, hc2, hC⟩ := hsv.sees.opened; have HC := Lib.hid hC; clear hC hsv) | (go_at_call 57; refine ((CJ ao cap _ HC.out hc1 hc2).out).mono ?_; rintro e w3 ⟨rfl, hb⟩; have HB3 := Lib.hid (below_nxt HB2.out hb); have U3 := Lib.hid (U2.out.step hb); clear hb r0 r1 r2 r3 r4; obtain ⟨r0, r1, r2, r3, r4⟩ := U3.out))
      have F := U3.out.put x y
      obtain ⟨f0, f1, f2, f3, f4⟩ := F
      try simp only [Int.natCast_zero] at f1 f2
      exact bodyPost_ret (v := .tuple #[.agg #[.int .u64 (x : Nat), .int .u64 (y : Nat)], .bool true, .int .i64 0]) (by simp [results, Tryd.results23, go_sem, f1, f2]) rfl ⟨rfl, below_put2 HB3.out (by omega) _ _⟩
    · rw [if_neg ho] at hr
      subst hr
      have hl : (((Tt.pts (fun i => (Ic.opp c v d u).testBit i) m).length : Int) != 1) = true := by
        rw [hcnt]; simp; omega
      generalize (Tt.pts (fun i => (Ic.opp c v d u).testBit i) m) = l at *
      clear hk h1 h2 hcm hs hx hcnt hc hv hd hu ho
      go_enter Tryd.func23, Tryd.ntmps23
      go_wp2_with (first | (go_at_call 54; refine ((C1 _).out).mono ?_; rintro e w1 ⟨rfl, hb⟩; have HB1 := Lib.hid (below_nxt L0 hb); have V0 := Lib.hid (P0.step hb); have V1 := Lib.hid (P1.step hb); have V2 := Lib.hid (P2.step hb); clear hb; obtain ⟨p0, p1, p2, p3, p4⟩ := V0.out; obtain ⟨q0, q1, q2, q3, q4⟩ := V1.out; obtain ⟨r0, r1, r2, r3, r4⟩ := V2.out) | (go_at_call 56; refine ((CO _).out).mono ?_; rintro e w2 ⟨sv, rfl, hsv, hb⟩; have HB2 := Lib.hid (below_nxt HB1.out hb); have U0 := Lib.hid (V0.out.step hb); have U1 := Lib.hid (V1.out.step hb); have U2 := Lib.hid (V2.out.step hb); clear hb p0 p1 p2 p3 p4 q0 q1 q2 q3 q4 r0 r1 r2 r3 r4; obtain ⟨p0, p1, p2, p3, p4⟩ := U0.out; obtain ⟨q0, q1, q2, q3, q4⟩ := U1.out; obtain ⟨r0, r1, r2, r3, r4⟩ := U2.out; obtain ⟨ao, cap, rfl, hc1, hc2, hC⟩ := hsv.sees.opened; have HC := Lib.hid hC; clear hC hsv))
      have F := U2.out.put 0 0
      obtain ⟨f0, f1, f2, f3, f4⟩ := F
      try simp only [Int.natCast_zero] at f1 f2
      exact bodyPost_ret (v := .tuple #[.agg #[.int .u64 (0 : Nat), .int .u64 (0 : Nat)], .bool false, .int .i64 0]) (by simp [results, Tryd.results23, go_sem, f1, f2]) rfl ⟨rfl, below_put2 HB2.out (by omega) _ _⟩
  · have hk' : (Ic.chk2 n c v d u != 0) = true := by simp [hk]
    rw [if_neg hk] at hr
    subst hr
    generalize Ic.chk2 n c v d u = k at *
    clear hc hv hd hu
    go_enter Tryd.func23, Tryd.ntmps23
    go_wp2_with (go_at_call 54; refine ((C1 _).out).mono ?_; rintro e w1 ⟨rfl, hb⟩; have HB1 := Lib.hid (below_nxt L0 hb); have V0 := Lib.hid (P0.step hb); have V1 := Lib.hid (P1.step hb); have V2 := Lib.hid (P2.step hb); clear hb; obtain ⟨p0, p1, p2, p3, p4⟩ := V0.out; obtain ⟨q0, q1, q2, q3, q4⟩ := V1.out; obtain ⟨r0, r1, r2, r3, r4⟩ := V2.out)
    have F := V2.out.put 0 0
    obtain ⟨f0, f1, f2, f3, f4⟩ := F
    try simp only [Int.natCast_zero] at f1 f2
    exact bodyPost_ret (v := .tuple #[.agg #[.int .u64 (0 : Nat), .int .u64 (0 : Nat)], .bool false, .int .i64 k]) (by simp [results, Tryd.results23, go_sem, f1, f2]) rfl ⟨rfl, below_put2 HB1.out (by omega) _ _⟩
end Go.Proofs.YtabflijfbjdpgaaDoor
