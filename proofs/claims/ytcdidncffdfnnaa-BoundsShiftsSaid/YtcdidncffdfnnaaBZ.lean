/- The statement BoundsShifts. -/
import Derived.Test.YtcdidncffdfnnaaBX
import Derived.Test.YtcdidncffdfnnaaBY
import Derived.Test.YtcdidncffdfnnaaBJ
import Derived.Test.YtcdidncffdfnnaaBH
namespace Go.Proofs.Ytcdidncffdfnnaa
open Go.RowKit
set_option maxHeartbeats 8000000 in
set_option maxRecDepth 100000 in
theorem shifts_any (n i : Int) (v : Value) (R : List (List Int)) (w : World) (hs : SeesR w v R) :
    Calls Try.prog 8 #[.agg #[.int .i64 n, v], .int .i64 i] w fun e w' => e = .returned (.bool true) ∧ Below w.heap.size w w' := by
  have HS := Lib.hid hs
  obtain ⟨ao, cap, rfl, hcap1, hcap2, -⟩ := hs
  obtain ⟨B0, L0⟩ := boxB_new w n (.slice ao R.length cap) 24
  have HB := Lib.hid L0
  have HX := Lib.hid B0
  obtain ⟨x0, x1, x2⟩ := B0
  clear L0
  go_enter Try.func8, Try.ntmps8
  go_wp2_with fail
  clear x0 x1 x2
  have CF := few_any n _ R _ (HS.out.step HB.out)
  generalize hfew : Bn.few n R = fw at CF
  refine CF.mono ?_
  rintro e w1 ⟨rfl, hb1⟩
  have HB1 := Lib.hid (below_nxt HB.out hb1)
  have HX1 := Lib.hid (HX.out.step hb1)
  obtain ⟨x0, x1, x2⟩ := HX1.out
  clear hb1 HB HX CF hfew
  cases fw
  · go_wp2_with fail
    refine (awake_any _).mono ?_
    rintro e w2 ⟨rfl, hb2⟩
    have HB2 := Lib.hid (below_nxt HB1.out hb2)
    clear hb2
    go_wp2
    go_ret
    exact ⟨rfl, HB2.out⟩
  · have C1 := fun W (h : SeesR W (.slice ao R.length cap) R) => Lib.hid (show Calls Try.prog 38 #[.agg #[.int .i64 n, .slice ao R.length cap], .int .i64 i] W (RetB (Bn.forV n R i) W) from bFgt_any n i _ R W h)
    have C2 := fun W (h : SeesR W (.slice ao R.length cap) R) => Lib.hid (show Calls Try.prog 39 #[.agg #[.int .i64 n, .slice ao R.length cap], .int .i64 i] W (RetB (Bn.forV n R i) W) from rFgt_any n i _ R W h)
    have C3 := fun W (h : SeesR W (.slice ao R.length cap) R) => Lib.hid (show Calls Try.prog 40 #[.agg #[.int .i64 n, .slice ao R.length cap], .int .i64 i] W (RetB (Bn.shiV n R i) W) from bShift_any n i _ R W h)
    have C4 := fun W (h : SeesR W (.slice ao R.length cap) R) => Lib.hid (show Calls Try.prog 41 #[.agg #[.int .i64 n, .slice ao R.length cap], .int .i64 i] W (RetB (Bn.shiV n R i) W) from rShi_any n i _ R W h)
    generalize Bn.forV n R i = q at *
    generalize Bn.shiV n R i = p at *
    obtain ⟨q1, q2, q3⟩ := q
    obtain ⟨p1, p2, p3⟩ := p
    have HY1 := Lib.hid True.intro
    go_wp2_with fail
    clear x0 x1 x2
    refine ((C1 w1 (HS.out.step HB1.out)).out).mono ?_
    rintro e w2 ⟨v2, rfl, ⟨u2, rfl, hu2⟩, hb2⟩
    obtain ⟨a2, c2, rfl, -⟩ := id hu2
    dsimp only at hu2
    have L2 := boxB_new w2 q1 (.slice a2 q2.length c2) 24
    have HW2 := Lib.hid (HX1.out.step hb2)
    obtain ⟨x0, x1, x2⟩ := HW2.out
    have HX2 := Lib.hid (HW2.out.step L2.2)
    have HU22 := Lib.hid (hu2.step L2.2)
    have HB2 := Lib.hid (below_nxt (below_nxt HB1.out hb2) L2.2)
    have HZ22 := Lib.hid L2.1
    clear hb2 hu2 L2 HX1 HB1 HW2 C1
    go_wp2_with fail
    clear x0 x1 x2
    generalize w2.alloc (.cells #[.int .i64 q1, .slice a2 q2.length c2] 24) = X2 at *
    generalize hk2 : w2.heap.size = k2 at *
    clear hk2
    refine ((C2 X2 (HS.out.step HB2.out)).out).mono ?_
    rintro e w3 ⟨v3, rfl, ⟨u3, rfl, hu3⟩, hb3⟩
    obtain ⟨a3, c3, rfl, -⟩ := id hu3
    dsimp only at hu3
    have L3 := boxB_new w3 q1 (.slice a3 q2.length c3) 24
    have HW3 := Lib.hid (HX2.out.step hb3)
    obtain ⟨x0, x1, x2⟩ := HW3.out
    have HX3 := Lib.hid (HW3.out.step L3.2)
    have HU33 := Lib.hid (hu3.step L3.2)
    have HB3 := Lib.hid (below_nxt (below_nxt HB2.out hb3) L3.2)
    have HZ33 := Lib.hid L3.1
    have HZ23 := Lib.hid ((HZ22.out.step hb3).step L3.2)
    have HU23 := Lib.hid ((HU22.out.step hb3).step L3.2)
    clear hb3 hu3 L3 HX2 HB2 HW3 C2 HZ22 HU22
    go_wp2_with fail
    clear x0 x1 x2
    generalize w3.alloc (.cells #[.int .i64 q1, .slice a3 q2.length c3] 24) = X3 at *
    generalize hk3 : w3.heap.size = k3 at *
    clear hk3
    refine ((C3 X3 (HS.out.step HB3.out)).out).mono ?_
    rintro e w4 ⟨v4, rfl, ⟨u4, rfl, hu4⟩, hb4⟩
    obtain ⟨a4, c4, rfl, -⟩ := id hu4
    dsimp only at hu4
    have L4 := boxB_new w4 p1 (.slice a4 p2.length c4) 24
    have HW4 := Lib.hid (HX3.out.step hb4)
    obtain ⟨x0, x1, x2⟩ := HW4.out
    have HX4 := Lib.hid (HW4.out.step L4.2)
    have HU44 := Lib.hid (hu4.step L4.2)
    have HB4 := Lib.hid (below_nxt (below_nxt HB3.out hb4) L4.2)
    have HZ44 := Lib.hid L4.1
    have HZ24 := Lib.hid ((HZ23.out.step hb4).step L4.2)
    have HU24 := Lib.hid ((HU23.out.step hb4).step L4.2)
    have HZ34 := Lib.hid ((HZ33.out.step hb4).step L4.2)
    have HU34 := Lib.hid ((HU33.out.step hb4).step L4.2)
    clear hb4 hu4 L4 HX3 HB3 HW4 C3 HZ23 HU23 HZ33 HU33
    go_wp2_with fail
    clear x0 x1 x2
    generalize w4.alloc (.cells #[.int .i64 p1, .slice a4 p2.length c4] 24) = X4 at *
    generalize hk4 : w4.heap.size = k4 at *
    clear hk4
    refine ((C4 X4 (HS.out.step HB4.out)).out).mono ?_
    rintro e w5 ⟨v5, rfl, ⟨u5, rfl, hu5⟩, hb5⟩
    obtain ⟨a5, c5, rfl, -⟩ := id hu5
    dsimp only at hu5
    have L5 := boxB_new w5 p1 (.slice a5 p2.length c5) 24
    have HW5 := Lib.hid (HX4.out.step hb5)
    obtain ⟨x0, x1, x2⟩ := HW5.out
    have HX5 := Lib.hid (HW5.out.step L5.2)
    have HU55 := Lib.hid (hu5.step L5.2)
    have HB5 := Lib.hid (below_nxt (below_nxt HB4.out hb5) L5.2)
    have HZ55 := Lib.hid L5.1
    have HZ25 := Lib.hid ((HZ24.out.step hb5).step L5.2)
    have HU25 := Lib.hid ((HU24.out.step hb5).step L5.2)
    have HZ35 := Lib.hid ((HZ34.out.step hb5).step L5.2)
    have HU35 := Lib.hid ((HU34.out.step hb5).step L5.2)
    have HZ45 := Lib.hid ((HZ44.out.step hb5).step L5.2)
    have HU45 := Lib.hid ((HU44.out.step hb5).step L5.2)
    clear hb5 hu5 L5 HX4 HB4 HW5 C4 HZ24 HU24 HZ34 HU34 HZ44 HU44
    go_wp2_with fail
    clear x0 x1 x2
    generalize w5.alloc (.cells #[.int .i64 p1, .slice a5 p2.length c5] 24) = X5 at *
    generalize hk5 : w5.heap.size = k5 at *
    clear hk5
    refine (awake_any _).mono ?_
    rintro e w6 ⟨rfl, hb6⟩
    have HB6 := Lib.hid (below_nxt HB5.out hb6)
    obtain ⟨z20, z21, z22⟩ := HZ25.out.step hb6
    have HU26 := Lib.hid (HU25.out.step hb6)
    have HZ26 := Lib.hid (HZ25.out.step hb6)
    obtain ⟨z30, z31, z32⟩ := HZ35.out.step hb6
    have HU36 := Lib.hid (HU35.out.step hb6)
    have HZ36 := Lib.hid (HZ35.out.step hb6)
    obtain ⟨z40, z41, z42⟩ := HZ45.out.step hb6
    have HU46 := Lib.hid (HU45.out.step hb6)
    have HZ46 := Lib.hid (HZ45.out.step hb6)
    obtain ⟨z50, z51, z52⟩ := HZ55.out.step hb6
    have HU56 := Lib.hid (HU55.out.step hb6)
    have HZ56 := Lib.hid (HZ55.out.step hb6)
    clear hb6 HB5
    go_wp2_with fail
    clear z20 z21 z22 z30 z31 z32 z40 z41 z42 z50 z51 z52
    refine (rSame_yes q1 _ _ q2 _ HU26.out HU36.out).mono ?_
    rintro e w7 ⟨rfl, hb7⟩
    have HB7 := Lib.hid (below_nxt HB6.out hb7)
    obtain ⟨z40, z41, z42⟩ := HZ46.out.step hb7
    obtain ⟨z50, z51, z52⟩ := HZ56.out.step hb7
    have HU47 := Lib.hid (HU46.out.step hb7)
    have HU57 := Lib.hid (HU56.out.step hb7)
    clear hb7 HB6
    go_wp2_with fail
    refine (rSame_yes p1 _ _ p2 _ HU47.out HU57.out).mono ?_
    rintro e w8 ⟨rfl, hb8⟩
    have HB8 := Lib.hid (below_nxt HB7.out hb8)
    clear hb8 HB7
    go_wp2
    go_ret
    exact ⟨rfl, HB8.out⟩
end Go.Proofs.Ytcdidncffdfnnaa
