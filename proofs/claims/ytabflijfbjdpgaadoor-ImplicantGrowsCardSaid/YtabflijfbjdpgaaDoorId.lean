/- The contracts of Meet and Consensus of package implicant. -/
import Derived.Test.YtabflijfbjdpgaaDoorIb
namespace Go.Proofs.YtabflijfbjdpgaaDoor
open Go.RowKit Go.Shelf

theorem iOnes64_any (x : Nat) (w : World) (hx : x < 64) : Calls Tryd.prog 82 #[.int .u64 (x : Int)] w fun e w' => e = .returned (.int .i64 ((Ic.cnt x : Nat) : Int)) ∧ w = w' := by
  obtain ⟨X, hX⟩ : ∃ X : Int, (x : Int) = X := ⟨_, rfl⟩
  obtain ⟨N, hN⟩ : ∃ N : Int, ((Ic.cnt x : Nat) : Int) = N := ⟨_, rfl⟩
  have HX := Lib.hid (And.intro hX (And.intro hN hx))
  rw [hX, hN]
  clear hX hN hx
  go_enter Tryd.func82, Tryd.ntmps82
  go_wp2
  go_ret
  refine ⟨ret_int ?_, rfl⟩
  obtain ⟨rfl, rfl, hx⟩ := HX.out
  clear HX
  revert x
  decide +kernel
theorem iOnes_any (x : Nat) (w : World) (hx : x < 64) : Calls Tryd.prog 58 #[.int .u64 (x : Int)] w fun e w' => e = .returned (.int .i64 ((Ic.cnt x : Nat) : Int)) ∧ w = w' := by
  have C := fun W => Lib.hid (iOnes64_any x W hx)
  generalize Ic.cnt x = N at *
  go_enter Tryd.func58, Tryd.ntmps58
  go_wp2_with (go_at_call 82; refine ((C _).out).mono ?_; rintro e w1 ⟨rfl, rfl⟩)
  go_ret
  exact ⟨rfl, rfl⟩

theorem CubI.set0 {W : World} {g c v : Nat} (h : CubI W g c v) (d : Nat) : CubI (W.setCell ⟨g, 0, none⟩ (.int .u64 (d : Int))) g d v := by
  obtain ⟨h0, h1, h2, h3, h4⟩ := h
  exact ⟨by simpa using h0, World.cell?_setCell_same' _ _ _ (by rw [h1]; rfl), (World.cell?_setCell_other (w := W) (v := .int .u64 (d : Int)) (a := ⟨g, 0, none⟩) (b := ⟨g, 1, none⟩) (by simp)).trans h2, by rw [World.frozen?_setCell]; exact h3, by rw [World.frozen?_setCell]; exact h4⟩
theorem CubI.set1 {W : World} {g c v : Nat} (h : CubI W g c v) (u : Nat) : CubI (W.setCell ⟨g, 1, none⟩ (.int .u64 (u : Int))) g c u := by
  obtain ⟨h0, h1, h2, h3, h4⟩ := h
  exact ⟨by simpa using h0, (World.cell?_setCell_other (w := W) (v := .int .u64 (u : Int)) (a := ⟨g, 1, none⟩) (b := ⟨g, 0, none⟩) (by simp)).trans h1, World.cell?_setCell_same' _ _ _ (by rw [h2]; rfl), by rw [World.frozen?_setCell]; exact h3, by rw [World.frozen?_setCell]; exact h4⟩
/-- A new cube in its variable, behind a store. -/
theorem CubI.put {W : World} {g c v : Nat} (h : CubI W g c v) (d u : Nat) : CubI ((W.setCell ⟨g, 0, none⟩ (.int .u64 (d : Int))).setCell ⟨g, 1, none⟩ (.int .u64 (u : Int))) g d u := (h.set0 d).set1 u
theorem CubI.other {W : World} {g g' j c v : Nat} (x : Value) (h : CubI W g c v) (hne : g' ≠ g) : CubI (W.setCell ⟨g', j, none⟩ x) g c v := by
  obtain ⟨h0, h1, h2, h3, h4⟩ := h
  exact ⟨by simpa using h0, (World.cell?_setCell_other (w := W) (v := x) (a := ⟨g', j, none⟩) (b := ⟨g, 0, none⟩) (fun e => hne (congrArg Addr.block e))).trans h1,
    (World.cell?_setCell_other (w := W) (v := x) (a := ⟨g', j, none⟩) (b := ⟨g, 1, none⟩) (fun e => hne (congrArg Addr.block e))).trans h2, by rw [World.frozen?_setCell]; exact h3, by rw [World.frozen?_setCell]; exact h4⟩
set_option maxRecDepth 100000 in
theorem iMeet_any (n : Int) (c v d u : Nat) (w : World) (hc : c < 2 ^ 64) (hv : v < 2 ^ 64) (hd : d < 2 ^ 64) (hu : u < 2 ^ 64) :
    Calls Tryd.prog 20 #[.int .i64 n, .agg #[.int .u64 c, .int .u64 v], .agg #[.int .u64 d, .int .u64 u]] w fun e w' => e = .returned (.tuple #[.agg #[.int .u64 ((Ic.meetV n c v d u).1.1.1 : Nat), .int .u64 ((Ic.meetV n c v d u).1.1.2 : Nat)], .bool (Ic.meetV n c v d u).1.2, .int .i64 (Ic.meetV n c v d u).2]) ∧ Below w.heap.size w w' := by
  have C1 := fun W => Lib.hid (iBoth_any n c v d u W hc hv hd hu)
  have C2 := fun W => Lib.hid (iOpp_any c v d u W hc hv hd hu)
  have C3 := fun W => Lib.hid (iJoin_any c v d u W hc hv hd hu)
  have HR : Hid (Ic.meetV n c v d u = if Ic.chk2 n c v d u = 0 then (if Ic.opp c v d u = 0 then ((c ||| d, v ||| u), true) else ((0, 0), false), 0) else (((0, 0), false), Ic.chk2 n c v d u)) := Lib.hid rfl
  generalize Ic.meetV n c v d u = r at *
  generalize Ic.chk2 n c v d u = k at *
  generalize Ic.opp c v d u = o at *
  generalize c ||| d = x at *
  generalize v ||| u = y at *
  obtain ⟨P0, P1, P2, L0, z0⟩ := cub3_new w c v d u 0 0 24
  generalize hX : ((w.alloc (.cells #[.int .u64 (c : Int), .int .u64 (v : Int)] 24)).alloc (.cells #[.int .u64 (d : Int), .int .u64 (u : Int)] 24)).alloc (.cells #[.int .u64 ((0 : Nat) : Int), .int .u64 ((0 : Nat) : Int)] 24) = X at *
  change ((w.alloc (.cells #[.int .u64 (c : Int), .int .u64 (v : Int)] 24)).alloc (.cells #[.int .u64 (d : Int), .int .u64 (u : Int)] 24)).alloc (.cells #[.int .u64 0, .int .u64 0] 24) = X at hX
  obtain ⟨p0, p1, p2, p3, p4⟩ := id P0
  obtain ⟨q0, q1, q2, q3, q4⟩ := id P1
  clear hc hv hd hu
  go_enter Tryd.func20, Tryd.ntmps20
  go_wp2_with fail
  refine ((C1 _).out).mono ?_
  rintro e w1 ⟨rfl, hw1⟩
  have S0 := P0.step hw1
  have S1 := P1.step hw1
  have S2 := P2.step hw1
  obtain ⟨a0, a1, a2, a3, a4⟩ := id S0
  obtain ⟨b0, b1, b2, b3, b4⟩ := id S1
  obtain ⟨c0, c1, c2, c3, c4⟩ := id S2
  have L1 := below_nxt L0 hw1
  clear hw1 P0 P1 P2 p1 p2 p3 p4 q1 q2 q3 q4
  by_cases h : k = 0
  · subst h
    go_wp2_with fail
    refine ((C2 _).out).mono ?_
    rintro e w2 ⟨rfl, hw2⟩
    have T0 := S0.step hw2
    have T1 := S1.step hw2
    have T2 := S2.step hw2
    obtain ⟨d0, d1, d2, d3, d4⟩ := id T0
    obtain ⟨e0, e1, e2, e3, e4⟩ := id T1
    obtain ⟨f0, f1, f2, f3, f4⟩ := id T2
    have L2 := below_nxt L1 hw2
    clear hw2 S0 S1 S2 a1 a2 a3 a4 b1 b2 b3 b4 c1 c2 c3 c4
    by_cases ho : o = 0
    · subst ho
      obtain rfl : r = (((x, y), true), 0) := by have := HR.out; simpa using this
      go_wp2_with fail
      refine ((C3 _).out).mono ?_
      rintro e w3 ⟨rfl, hw3⟩
      obtain ⟨g0, g1, g2, g3, g4⟩ := T2.step hw3
      have L3 := below_nxt L2 hw3
      clear hw3
      go_wp2
      exact bodyPost_ret (v := .tuple #[.agg #[.int .u64 x, .int .u64 y], .bool true, .int .i64 0]) (by simp [results, Tryd.results20, go_sem, g1, g2]) rfl ⟨rfl, by (repeat' (first | exact L3 | refine Below.setCell ?_ (by first | exact Nat.le_refl _ | (dsimp only; omega) | (simp; omega)) _ | refine Below.drew ?_))⟩
    · have ho' : ((o : Int) != 0) = true := by simp; omega
      obtain rfl : r = (((0, 0), false), 0) := by have := HR.out; simpa [ho] using this
      go_wp2
      exact bodyPost_ret (v := .tuple #[.agg #[.int .u64 0, .int .u64 0], .bool false, .int .i64 0]) (by simp [results, Tryd.results20, go_sem, f1, f2]) rfl ⟨rfl, by (repeat' (first | exact L2 | refine Below.setCell ?_ (by first | exact Nat.le_refl _ | (dsimp only; omega) | (simp; omega)) _ | refine Below.drew ?_))⟩
  · have h' : (k != 0) = true := by simpa using h
    obtain rfl : r = (((0, 0), false), k) := by have := HR.out; simpa [h] using this
    go_wp2
    exact bodyPost_ret (v := .tuple #[.agg #[.int .u64 0, .int .u64 0], .bool false, .int .i64 k]) (by simp [results, Tryd.results20, go_sem, c1, c2]) rfl ⟨rfl, by (repeat' (first | exact L1 | refine Below.setCell ?_ (by first | exact Nat.le_refl _ | (dsimp only; omega) | (simp; omega)) _ | refine Below.drew ?_))⟩
set_option maxRecDepth 100000 in
theorem iCons_any (n : Int) (c v d u : Nat) (w : World) (hc : c < 2 ^ 64) (hv : v < 2 ^ 64) (hd : d < 2 ^ 64) (hu : u < 2 ^ 64) :
    Calls Tryd.prog 22 #[.int .i64 n, .agg #[.int .u64 c, .int .u64 v], .agg #[.int .u64 d, .int .u64 u]] w fun e w' => e = .returned (.tuple #[.agg #[.int .u64 ((Ic.consV n c v d u).1.1.1 : Nat), .int .u64 ((Ic.consV n c v d u).1.1.2 : Nat)], .bool (Ic.consV n c v d u).1.2, .int .i64 (Ic.consV n c v d u).2]) ∧ Below w.heap.size w w' := by
  have C1 := fun W => Lib.hid (iBoth_any n c v d u W hc hv hd hu)
  have C2 := fun W => Lib.hid (iOpp_any c v d u W hc hv hd hu)
  have C3 := fun W => Lib.hid (iJoin_any c v d u W hc hv hd hu)
  have HO : Ic.chk2 n c v d u = 0 → Ic.opp c v d u < 64 := fun h => by
    obtain ⟨m, _, hm, hcm, _⟩ := Ic.chk_nat hv (Ic.chk2_zero.1 h).1
    exact Ic.p64 hm (Ic.opp_lt hcm)
  have hopp := Ic.opp_lt (v := v) (d := d) (u := u) hc
  have C4 := fun W h => Lib.hid (iOnes_any (Ic.opp c v d u) W h)
  have C5 := fun W => Lib.hid (iWithout_any (c ||| d) (v ||| u) (Ic.opp c v d u) W (Nat.or_lt_two_pow hc hd) (Nat.or_lt_two_pow hv hu) hopp)
  have HR : Hid (Ic.consV n c v d u = if Ic.chk2 n c v d u = 0 then (if Ic.cnt (Ic.opp c v d u) = 1 then (((c ||| d) &&& (18446744073709551615 - Ic.opp c v d u), (v ||| u) &&& (18446744073709551615 - Ic.opp c v d u)), true) else ((0, 0), false), 0) else (((0, 0), false), Ic.chk2 n c v d u)) := Lib.hid rfl
  generalize Ic.consV n c v d u = r at *
  generalize Ic.chk2 n c v d u = k at *
  generalize (c ||| d) &&& (18446744073709551615 - Ic.opp c v d u) = p at *
  generalize (v ||| u) &&& (18446744073709551615 - Ic.opp c v d u) = q at *
  generalize Ic.cnt (Ic.opp c v d u) = m at *
  generalize Ic.opp c v d u = o at *
  generalize c ||| d = x at *
  generalize v ||| u = y at *
  obtain ⟨P0, P1, P2, L0, z0⟩ := cub3_new w c v d u 0 0 24
  generalize hX : ((w.alloc (.cells #[.int .u64 (c : Int), .int .u64 (v : Int)] 24)).alloc (.cells #[.int .u64 (d : Int), .int .u64 (u : Int)] 24)).alloc (.cells #[.int .u64 ((0 : Nat) : Int), .int .u64 ((0 : Nat) : Int)] 24) = X at *
  change ((w.alloc (.cells #[.int .u64 (c : Int), .int .u64 (v : Int)] 24)).alloc (.cells #[.int .u64 (d : Int), .int .u64 (u : Int)] 24)).alloc (.cells #[.int .u64 0, .int .u64 0] 24) = X at hX
  obtain ⟨p0, p1, p2, p3, p4⟩ := id P0
  obtain ⟨q0, q1, q2, q3, q4⟩ := id P1
  have HO := Lib.hid HO
  clear hc hv hd hu hopp
  go_enter Tryd.func22, Tryd.ntmps22
  go_wp2_with fail
  refine ((C1 _).out).mono ?_
  rintro e w1 ⟨rfl, hw1⟩
  have S0 := P0.step hw1
  have S1 := P1.step hw1
  have S2 := P2.step hw1
  obtain ⟨a0, a1, a2, a3, a4⟩ := id S0
  obtain ⟨b0, b1, b2, b3, b4⟩ := id S1
  obtain ⟨c0, c1, c2, c3, c4⟩ := id S2
  have L1 := below_nxt L0 hw1
  clear hw1 P0 P1 P2 p1 p2 p3 p4 q1 q2 q3 q4
  by_cases h : k = 0
  · subst h
    go_wp2_with fail
    refine ((C2 _).out).mono ?_
    rintro e w2 ⟨rfl, hw2⟩
    have T0 := S0.step hw2
    have T1 := S1.step hw2
    have T2 := S2.step hw2
    obtain ⟨d0, d1, d2, d3, d4⟩ := id T0
    obtain ⟨e0, e1, e2, e3, e4⟩ := id T1
    obtain ⟨f0, f1, f2, f3, f4⟩ := id T2
    have L2 := below_nxt L1 hw2
    clear hw2 S0 S1 S2 a1 a2 a3 a4 b1 b2 b3 b4 c1 c2 c3 c4
    have ho : o < 64 := by simpa using HO.out
    by_cases hm : m = 1
    · subst hm
      obtain rfl : r = (((p, q), true), 0) := by have := HR.out; simpa using this
      go_wp2_with (go_at_call 58; refine ((C4 _ ho).out).mono ?_; rintro e w3 ⟨rfl, rfl⟩)
      refine ((C3 _).out).mono ?_
      rintro e w3 ⟨rfl, hw3⟩
      have U2 := T2.step hw3
      have L3 := below_nxt L2 hw3
      clear hw3
      go_wp2_with fail
      refine ((C5 _).out).mono ?_
      rintro e w4 ⟨rfl, hw4⟩
      obtain ⟨g0, g1, g2, g3, g4⟩ := U2.step hw4
      have L4 := below_nxt L3 hw4
      clear hw4
      go_wp2
      exact bodyPost_ret (v := .tuple #[.agg #[.int .u64 p, .int .u64 q], .bool true, .int .i64 0]) (by simp [results, Tryd.results22, go_sem, g1, g2]) rfl ⟨rfl, by (repeat' (first | exact L4 | refine Below.setCell ?_ (by first | exact Nat.le_refl _ | (dsimp only; omega) | (simp; omega)) _ | refine Below.drew ?_))⟩
    · have hm' : ((m : Int) != 1) = true := by simp; omega
      obtain rfl : r = (((0, 0), false), 0) := by have := HR.out; simpa [hm] using this
      go_wp2_with (go_at_call 58; refine ((C4 _ ho).out).mono ?_; rintro e w3 ⟨rfl, rfl⟩)
      exact bodyPost_ret (v := .tuple #[.agg #[.int .u64 0, .int .u64 0], .bool false, .int .i64 0]) (by simp [results, Tryd.results22, go_sem, f1, f2]) rfl ⟨rfl, by (repeat' (first | exact L2 | refine Below.setCell ?_ (by first | exact Nat.le_refl _ | (dsimp only; omega) | (simp; omega)) _ | refine Below.drew ?_))⟩
  · have h' : (k != 0) = true := by simpa using h
    obtain rfl : r = (((0, 0), false), k) := by have := HR.out; simpa [h] using this
    go_wp2
    exact bodyPost_ret (v := .tuple #[.agg #[.int .u64 0, .int .u64 0], .bool false, .int .i64 k]) (by simp [results, Tryd.results22, go_sem, c1, c2]) rfl ⟨rfl, by (repeat' (first | exact L1 | refine Below.setCell ?_ (by first | exact Nat.le_refl _ | (dsimp only; omega) | (simp; omega)) _ | refine Below.drew ?_))⟩
end Go.Proofs.YtabflijfbjdpgaaDoor
