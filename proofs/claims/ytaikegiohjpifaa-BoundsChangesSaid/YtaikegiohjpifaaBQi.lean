/- The statement BoundsChanges. -/
import Derived.Test.YtaikegiohjpifaaBQc
import Derived.Test.YtaikegiohjpifaaBQf
import Derived.Test.YtaikegiohjpifaaBQh
import Derived.Test.YtaikegiohjpifaaBJ
import Derived.Test.YtaikegiohjpifaaBH
namespace Go.Proofs.Ytaikegiohjpifaa
open Go.RowKit
/-- The box of a change. -/
def BoxC (W : World) (g : Nat) (i j m a b : Int) : Prop := g < W.heap.size ∧ W.cell? ⟨g, 0, none⟩ = some (.int .i64 i) ∧ W.cell? ⟨g, 1, none⟩ = some (.int .i64 j) ∧ W.cell? ⟨g, 2, none⟩ = some (.int .i64 m) ∧ W.cell? ⟨g, 3, none⟩ = some (.int .i64 a) ∧ W.cell? ⟨g, 4, none⟩ = some (.int .i64 b)
theorem BoxC.step {W W' : World} {g : Nat} {i j m a b : Int} (h : BoxC W g i j m a b) (hb : Below W.heap.size W W') : BoxC W' g i j m a b :=
  ⟨Nat.lt_of_lt_of_le h.1 hb.size, (hb.cell (p := ⟨g, 0, none⟩) h.1).trans h.2.1, (hb.cell (p := ⟨g, 1, none⟩) h.1).trans h.2.2.1, (hb.cell (p := ⟨g, 2, none⟩) h.1).trans h.2.2.2.1, (hb.cell (p := ⟨g, 3, none⟩) h.1).trans h.2.2.2.2.1, (hb.cell (p := ⟨g, 4, none⟩) h.1).trans h.2.2.2.2.2⟩
theorem proC (w : World) (n i j m a b : Int) (v : Value) : ∃ X, X = ((w.alloc (.cells #[.int .i64 n, v] 24)).alloc (.cells #[.int .i64 i, .int .i64 j, .int .i64 m, .int .i64 a, .int .i64 b] 28)) ∧ BoxB X w.heap.size n v ∧ BoxC X (w.heap.size + 1) i j m a b ∧ Below w.heap.size w X := by
  refine ⟨_, rfl, ?_⟩
  obtain ⟨B0, L0⟩ := boxB_new w n v 24
  have e0 : (w.alloc (.cells #[.int .i64 n, v] 24)).heap.size = w.heap.size + 1 := by simp
  generalize w.alloc (.cells #[.int .i64 n, v] 24) = Y at *
  have L1 : Below Y.heap.size Y (Y.alloc (.cells #[.int .i64 i, .int .i64 j, .int .i64 m, .int .i64 a, .int .i64 b] 28)) := (Below.refl _ _).alloc (Nat.le_refl _) _
  refine ⟨B0.step L1, ?_, below_nxt L0 L1⟩
  rw [← e0]
  unfold BoxC
  simp
set_option maxHeartbeats 8000000 in
set_option maxRecDepth 100000 in
theorem changes_any (n : Int) (v : Value) (R : List (List Int)) (i j m a b : Int) (w : World) (hs : SeesR w v R) :
    Calls Try.prog 3 #[.agg #[.int .i64 n, v], .agg #[.int .i64 i, .int .i64 j, .int .i64 m, .int .i64 a, .int .i64 b]] w fun e w' => e = .returned (.bool true) ∧ Below w.heap.size w w' := by
  have HS := Lib.hid hs
  obtain ⟨ao, cap, rfl, hcap1, hcap2, -⟩ := hs
  obtain ⟨X, hX, hBX, hCX, hLX⟩ := proC w n i j m a b (.slice ao R.length cap)
  have HB := Lib.hid hLX
  have HX := Lib.hid hBX
  have HC := Lib.hid hCX
  obtain ⟨x0, x1, x2⟩ := hBX
  obtain ⟨y0, y1, y2, y3, y4, y5⟩ := hCX
  rw [hX] at x0 x1 x2 y0 y1 y2 y3 y4 y5
  clear hLX
  go_enter Try.func3, Try.ntmps3
  go_wp2_with fail
  rw [← hX]
  clear x0 x1 x2 y0 y1 y2 y3 y4 y5
  have CF := few_any n _ R _ (HS.out.step HB.out)
  generalize hfew : Bn.few n R = fw at CF
  refine CF.mono ?_
  rintro e w1 ⟨rfl, hb1⟩
  have HB1 := Lib.hid (below_nxt HB.out hb1)
  have HX1 := Lib.hid (HX.out.step hb1)
  have HC1 := Lib.hid (HC.out.step hb1)
  obtain ⟨x0, x1, x2⟩ := HX1.out
  obtain ⟨y0, y1, y2, y3, y4, y5⟩ := HC1.out
  clear hb1 HB HX HC CF hfew hX
  cases fw
  · go_wp2_with fail
    refine (awake_any _).mono ?_
    rintro e w2 ⟨rfl, hb2⟩
    have HB2 := Lib.hid (below_nxt HB1.out hb2)
    clear hb2
    go_wp2
    go_ret
    exact ⟨rfl, HB2.out⟩
  · have C1 := fun W (_ : SeesR W (.slice ao R.length cap) R) => Lib.hid (show Calls Try.prog 9 #[.int .i64 i] W (RetB (Bn.newV i) W) from bNew_any i W)
    have C2 := fun W (_ : SeesR W (.slice ao R.length cap) R) => Lib.hid (show Calls Try.prog 10 #[.int .i64 i] W (RetB (Bn.newV i) W) from rNew_any i W)
    have C3 := fun W (h : SeesR W (.slice ao R.length cap) R) => Lib.hid (show Calls Try.prog 11 #[.agg #[.int .i64 n, .slice ao R.length cap], .int .i64 i, .int .i64 j, .int .i64 m] W (RetB (Bn.addV n R i j m) W) from bAdd_any n i j m _ R W h)
    have C4 := fun W (h : SeesR W (.slice ao R.length cap) R) => Lib.hid (show Calls Try.prog 12 #[.agg #[.int .i64 n, .slice ao R.length cap], .int .i64 i, .int .i64 j, .int .i64 m] W (RetB (Bn.addV n R i j m) W) from rAdd_any n i j m _ R W h)
    have C5 := fun W (h : SeesR W (.slice ao R.length cap) R) => Lib.hid (show Calls Try.prog 13 #[.agg #[.int .i64 n, .slice ao R.length cap], .agg #[.int .i64 a, .int .i64 b]] W (RetB (Bn.growV n R a b) W) from bGrow_any n a b _ R W h)
    have C6 := fun W (h : SeesR W (.slice ao R.length cap) R) => Lib.hid (show Calls Try.prog 14 #[.agg #[.int .i64 n, .slice ao R.length cap], .agg #[.int .i64 a, .int .i64 b]] W (RetB (Bn.growV n R a b) W) from rGrow_any n a b _ R W h)
    generalize Bn.newV i = q at *
    generalize Bn.addV n R i j m = p at *
    generalize Bn.growV n R a b = r at *
    obtain ⟨q1, q2, q3⟩ := q
    obtain ⟨p1, p2, p3⟩ := p
    obtain ⟨r1, r2, r3⟩ := r
    go_wp2_with fail
    clear x0 x1 x2 y0 y1 y2 y3 y4 y5
    refine ((C1 w1 (HS.out.step HB1.out)).out).mono ?_
    rintro e w2 ⟨v2, rfl, ⟨u2, rfl, hu2⟩, hb2⟩
    obtain ⟨a2, c2, rfl, -⟩ := id hu2
    dsimp only at hu2
    have L2 := boxB_new w2 q1 (.slice a2 q2.length c2) 24
    have HW2 := Lib.hid (HX1.out.step hb2)
    have HV2 := Lib.hid (HC1.out.step hb2)
    obtain ⟨x0, x1, x2⟩ := HW2.out
    obtain ⟨y0, y1, y2, y3, y4, y5⟩ := HV2.out
    have HX2 := Lib.hid (HW2.out.step L2.2)
    have HC2 := Lib.hid (HV2.out.step L2.2)
    have HU22 := Lib.hid (hu2.step L2.2)
    have HB2 := Lib.hid (below_nxt (below_nxt HB1.out hb2) L2.2)
    have HZ22 := Lib.hid L2.1
    clear hb2 hu2 L2 HX1 HC1 HB1 HW2 HV2 C1
    go_wp2_with fail
    clear x0 x1 x2 y0 y1 y2 y3 y4 y5
    generalize w2.alloc (.cells #[.int .i64 q1, .slice a2 q2.length c2] 24) = X2 at *
    generalize hk2 : w2.heap.size = k2 at *
    clear hk2
    refine ((C2 X2 (HS.out.step HB2.out)).out).mono ?_
    rintro e w3 ⟨v3, rfl, ⟨u3, rfl, hu3⟩, hb3⟩
    obtain ⟨a3, c3, rfl, -⟩ := id hu3
    dsimp only at hu3
    have L3 := boxB_new w3 q1 (.slice a3 q2.length c3) 24
    have HW3 := Lib.hid (HX2.out.step hb3)
    have HV3 := Lib.hid (HC2.out.step hb3)
    obtain ⟨x0, x1, x2⟩ := HW3.out
    obtain ⟨y0, y1, y2, y3, y4, y5⟩ := HV3.out
    have HX3 := Lib.hid (HW3.out.step L3.2)
    have HC3 := Lib.hid (HV3.out.step L3.2)
    have HU33 := Lib.hid (hu3.step L3.2)
    have HB3 := Lib.hid (below_nxt (below_nxt HB2.out hb3) L3.2)
    have HZ33 := Lib.hid L3.1
    have HZ23 := Lib.hid ((HZ22.out.step hb3).step L3.2)
    have HU23 := Lib.hid ((HU22.out.step hb3).step L3.2)
    clear hb3 hu3 L3 HX2 HC2 HB2 HW3 HV3 C2 HZ22 HU22
    go_wp2_with fail
    clear x0 x1 x2 y0 y1 y2 y3 y4 y5
    generalize w3.alloc (.cells #[.int .i64 q1, .slice a3 q2.length c3] 24) = X3 at *
    generalize hk3 : w3.heap.size = k3 at *
    clear hk3
    refine ((C3 X3 (HS.out.step HB3.out)).out).mono ?_
    rintro e w4 ⟨v4, rfl, ⟨u4, rfl, hu4⟩, hb4⟩
    obtain ⟨a4, c4, rfl, -⟩ := id hu4
    dsimp only at hu4
    have L4 := boxB_new w4 p1 (.slice a4 p2.length c4) 24
    have HW4 := Lib.hid (HX3.out.step hb4)
    have HV4 := Lib.hid (HC3.out.step hb4)
    obtain ⟨x0, x1, x2⟩ := HW4.out
    obtain ⟨y0, y1, y2, y3, y4, y5⟩ := HV4.out
    have HX4 := Lib.hid (HW4.out.step L4.2)
    have HC4 := Lib.hid (HV4.out.step L4.2)
    have HU44 := Lib.hid (hu4.step L4.2)
    have HB4 := Lib.hid (below_nxt (below_nxt HB3.out hb4) L4.2)
    have HZ44 := Lib.hid L4.1
    have HZ24 := Lib.hid ((HZ23.out.step hb4).step L4.2)
    have HU24 := Lib.hid ((HU23.out.step hb4).step L4.2)
    have HZ34 := Lib.hid ((HZ33.out.step hb4).step L4.2)
    have HU34 := Lib.hid ((HU33.out.step hb4).step L4.2)
    clear hb4 hu4 L4 HX3 HC3 HB3 HW4 HV4 C3 HZ23 HU23 HZ33 HU33
    go_wp2_with fail
    clear x0 x1 x2 y0 y1 y2 y3 y4 y5
    generalize w4.alloc (.cells #[.int .i64 p1, .slice a4 p2.length c4] 24) = X4 at *
    generalize hk4 : w4.heap.size = k4 at *
    clear hk4
    refine ((C4 X4 (HS.out.step HB4.out)).out).mono ?_
    rintro e w5 ⟨v5, rfl, ⟨u5, rfl, hu5⟩, hb5⟩
    obtain ⟨a5, c5, rfl, -⟩ := id hu5
    dsimp only at hu5
    have L5 := boxB_new w5 p1 (.slice a5 p2.length c5) 24
    have HW5 := Lib.hid (HX4.out.step hb5)
    have HV5 := Lib.hid (HC4.out.step hb5)
    obtain ⟨x0, x1, x2⟩ := HW5.out
    obtain ⟨y0, y1, y2, y3, y4, y5⟩ := HV5.out
    have HX5 := Lib.hid (HW5.out.step L5.2)
    have HC5 := Lib.hid (HV5.out.step L5.2)
    have HU55 := Lib.hid (hu5.step L5.2)
    have HB5 := Lib.hid (below_nxt (below_nxt HB4.out hb5) L5.2)
    have HZ55 := Lib.hid L5.1
    have HZ25 := Lib.hid ((HZ24.out.step hb5).step L5.2)
    have HU25 := Lib.hid ((HU24.out.step hb5).step L5.2)
    have HZ35 := Lib.hid ((HZ34.out.step hb5).step L5.2)
    have HU35 := Lib.hid ((HU34.out.step hb5).step L5.2)
    have HZ45 := Lib.hid ((HZ44.out.step hb5).step L5.2)
    have HU45 := Lib.hid ((HU44.out.step hb5).step L5.2)
    clear hb5 hu5 L5 HX4 HC4 HB4 HW5 HV5 C4 HZ24 HU24 HZ34 HU34 HZ44 HU44
    go_wp2_with fail
    clear x0 x1 x2 y0 y1 y2 y3 y4 y5
    generalize w5.alloc (.cells #[.int .i64 p1, .slice a5 p2.length c5] 24) = X5 at *
    generalize hk5 : w5.heap.size = k5 at *
    clear hk5
    refine ((C5 X5 (HS.out.step HB5.out)).out).mono ?_
    rintro e w6 ⟨v6, rfl, ⟨u6, rfl, hu6⟩, hb6⟩
    obtain ⟨a6, c6, rfl, -⟩ := id hu6
    dsimp only at hu6
    have L6 := boxB_new w6 r1 (.slice a6 r2.length c6) 24
    have HW6 := Lib.hid (HX5.out.step hb6)
    have HV6 := Lib.hid (HC5.out.step hb6)
    obtain ⟨x0, x1, x2⟩ := HW6.out
    obtain ⟨y0, y1, y2, y3, y4, y5⟩ := HV6.out
    have HX6 := Lib.hid (HW6.out.step L6.2)
    have HC6 := Lib.hid (HV6.out.step L6.2)
    have HU66 := Lib.hid (hu6.step L6.2)
    have HB6 := Lib.hid (below_nxt (below_nxt HB5.out hb6) L6.2)
    have HZ66 := Lib.hid L6.1
    have HZ26 := Lib.hid ((HZ25.out.step hb6).step L6.2)
    have HU26 := Lib.hid ((HU25.out.step hb6).step L6.2)
    have HZ36 := Lib.hid ((HZ35.out.step hb6).step L6.2)
    have HU36 := Lib.hid ((HU35.out.step hb6).step L6.2)
    have HZ46 := Lib.hid ((HZ45.out.step hb6).step L6.2)
    have HU46 := Lib.hid ((HU45.out.step hb6).step L6.2)
    have HZ56 := Lib.hid ((HZ55.out.step hb6).step L6.2)
    have HU56 := Lib.hid ((HU55.out.step hb6).step L6.2)
    clear hb6 hu6 L6 HX5 HC5 HB5 HW6 HV6 C5 HZ25 HU25 HZ35 HU35 HZ45 HU45 HZ55 HU55
    go_wp2_with fail
    clear x0 x1 x2 y0 y1 y2 y3 y4 y5
    generalize w6.alloc (.cells #[.int .i64 r1, .slice a6 r2.length c6] 24) = X6 at *
    generalize hk6 : w6.heap.size = k6 at *
    clear hk6
    refine ((C6 X6 (HS.out.step HB6.out)).out).mono ?_
    rintro e w7 ⟨v7, rfl, ⟨u7, rfl, hu7⟩, hb7⟩
    obtain ⟨a7, c7, rfl, -⟩ := id hu7
    dsimp only at hu7
    have L7 := boxB_new w7 r1 (.slice a7 r2.length c7) 24
    have HW7 := Lib.hid (HX6.out.step hb7)
    have HV7 := Lib.hid (HC6.out.step hb7)
    obtain ⟨x0, x1, x2⟩ := HW7.out
    obtain ⟨y0, y1, y2, y3, y4, y5⟩ := HV7.out
    have HX7 := Lib.hid (HW7.out.step L7.2)
    have HC7 := Lib.hid (HV7.out.step L7.2)
    have HU77 := Lib.hid (hu7.step L7.2)
    have HB7 := Lib.hid (below_nxt (below_nxt HB6.out hb7) L7.2)
    have HZ77 := Lib.hid L7.1
    have HZ27 := Lib.hid ((HZ26.out.step hb7).step L7.2)
    have HU27 := Lib.hid ((HU26.out.step hb7).step L7.2)
    have HZ37 := Lib.hid ((HZ36.out.step hb7).step L7.2)
    have HU37 := Lib.hid ((HU36.out.step hb7).step L7.2)
    have HZ47 := Lib.hid ((HZ46.out.step hb7).step L7.2)
    have HU47 := Lib.hid ((HU46.out.step hb7).step L7.2)
    have HZ57 := Lib.hid ((HZ56.out.step hb7).step L7.2)
    have HU57 := Lib.hid ((HU56.out.step hb7).step L7.2)
    have HZ67 := Lib.hid ((HZ66.out.step hb7).step L7.2)
    have HU67 := Lib.hid ((HU66.out.step hb7).step L7.2)
    clear hb7 hu7 L7 HX6 HC6 HB6 HW7 HV7 C6 HZ26 HU26 HZ36 HU36 HZ46 HU46 HZ56 HU56 HZ66 HU66
    go_wp2_with fail
    clear x0 x1 x2 y0 y1 y2 y3 y4 y5
    generalize w7.alloc (.cells #[.int .i64 r1, .slice a7 r2.length c7] 24) = X7 at *
    generalize hk7 : w7.heap.size = k7 at *
    clear hk7
    refine (awake_any _).mono ?_
    rintro e w8 ⟨rfl, hb8⟩
    have HB8 := Lib.hid (below_nxt HB7.out hb8)
    obtain ⟨z20, z21, z22⟩ := HZ27.out.step hb8
    have HU28 := Lib.hid (HU27.out.step hb8)
    have HZ28 := Lib.hid (HZ27.out.step hb8)
    obtain ⟨z30, z31, z32⟩ := HZ37.out.step hb8
    have HU38 := Lib.hid (HU37.out.step hb8)
    have HZ38 := Lib.hid (HZ37.out.step hb8)
    obtain ⟨z40, z41, z42⟩ := HZ47.out.step hb8
    have HU48 := Lib.hid (HU47.out.step hb8)
    have HZ48 := Lib.hid (HZ47.out.step hb8)
    obtain ⟨z50, z51, z52⟩ := HZ57.out.step hb8
    have HU58 := Lib.hid (HU57.out.step hb8)
    have HZ58 := Lib.hid (HZ57.out.step hb8)
    obtain ⟨z60, z61, z62⟩ := HZ67.out.step hb8
    have HU68 := Lib.hid (HU67.out.step hb8)
    have HZ68 := Lib.hid (HZ67.out.step hb8)
    obtain ⟨z70, z71, z72⟩ := HZ77.out.step hb8
    have HU78 := Lib.hid (HU77.out.step hb8)
    have HZ78 := Lib.hid (HZ77.out.step hb8)
    clear hb8 HB7
    go_wp2_with fail
    clear z20 z21 z22 z30 z31 z32 z40 z41 z42 z50 z51 z52 z60 z61 z62 z70 z71 z72
    refine (rSame_yes q1 _ _ q2 _ HU28.out HU38.out).mono ?_
    rintro e w9 ⟨rfl, hb9⟩
    have HB9 := Lib.hid (below_nxt HB8.out hb9)
    obtain ⟨z40, z41, z42⟩ := HZ48.out.step hb9
    have HU49 := Lib.hid (HU48.out.step hb9)
    have HZ49 := Lib.hid (HZ48.out.step hb9)
    obtain ⟨z50, z51, z52⟩ := HZ58.out.step hb9
    have HU59 := Lib.hid (HU58.out.step hb9)
    have HZ59 := Lib.hid (HZ58.out.step hb9)
    obtain ⟨z60, z61, z62⟩ := HZ68.out.step hb9
    have HU69 := Lib.hid (HU68.out.step hb9)
    have HZ69 := Lib.hid (HZ68.out.step hb9)
    obtain ⟨z70, z71, z72⟩ := HZ78.out.step hb9
    have HU79 := Lib.hid (HU78.out.step hb9)
    have HZ79 := Lib.hid (HZ78.out.step hb9)
    clear hb9 HB8
    go_wp2_with fail
    clear z40 z41 z42 z50 z51 z52 z60 z61 z62 z70 z71 z72
    refine (rSame_yes p1 _ _ p2 _ HU49.out HU59.out).mono ?_
    rintro e w10 ⟨rfl, hb10⟩
    have HB10 := Lib.hid (below_nxt HB9.out hb10)
    obtain ⟨z60, z61, z62⟩ := HZ69.out.step hb10
    have HU610 := Lib.hid (HU69.out.step hb10)
    have HZ610 := Lib.hid (HZ69.out.step hb10)
    obtain ⟨z70, z71, z72⟩ := HZ79.out.step hb10
    have HU710 := Lib.hid (HU79.out.step hb10)
    have HZ710 := Lib.hid (HZ79.out.step hb10)
    clear hb10 HB9
    go_wp2_with fail
    clear z60 z61 z62 z70 z71 z72
    refine (rSame_yes r1 _ _ r2 _ HU610.out HU710.out).mono ?_
    rintro e w11 ⟨rfl, hb11⟩
    have HB11 := Lib.hid (below_nxt HB10.out hb11)
    clear hb11 HB10
    go_wp2
    go_ret
    exact ⟨rfl, HB11.out⟩
end Go.Proofs.Ytaikegiohjpifaa
