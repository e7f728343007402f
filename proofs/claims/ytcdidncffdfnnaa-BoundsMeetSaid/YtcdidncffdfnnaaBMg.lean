/- The statement BoundsMeet. -/
import Derived.Test.YtcdidncffdfnnaaBMb
import Derived.Test.YtcdidncffdfnnaaBMc
import Derived.Test.YtcdidncffdfnnaaBMe
import Derived.Test.YtcdidncffdfnnaaBMf
import Derived.Test.YtcdidncffdfnnaaBJ
import Derived.Test.YtcdidncffdfnnaaBH
namespace Go.Proofs.Ytcdidncffdfnnaa
open Go.RowKit
set_option maxHeartbeats 8000000 in
set_option maxRecDepth 100000 in
theorem meet_any (n : Int) (v : Value) (R : List (List Int)) (m : Int) (u : Value) (S : List (List Int)) (w : World) (hs : SeesR w v R) (hu : SeesR w u S) :
    Calls Try.prog 5 #[.agg #[.int .i64 n, v], .agg #[.int .i64 m, u]] w fun e w' => e = .returned (.bool true) ∧ Below w.heap.size w w' := by
  have HS := Lib.hid hs
  have HU := Lib.hid hu
  obtain ⟨ao, cap, rfl, hcap1, hcap2, -⟩ := hs
  obtain ⟨bo, cbp, rfl, hcbp1, hcbp2, -⟩ := hu
  obtain ⟨X, hX, hBX, hEX, hLX⟩ := pro22 w n m (.slice ao R.length cap) (.slice bo S.length cbp)
  have HEX := Lib.hid hEX
  have HBX := Lib.hid hBX
  have HLX := Lib.hid hLX
  obtain ⟨x0, x1, x2⟩ := hBX
  obtain ⟨y0, y1, y2⟩ := hEX
  rw [hX] at x0 x1 x2 y0 y1 y2
  clear hLX
  have F1 := fun W (h : SeesR W (.slice ao R.length cap) R) => Lib.hid (few_any n _ R W h)
  have F2 := fun W (h : SeesR W (.slice bo S.length cbp) S) => Lib.hid (few_any m _ S W h)
  have C1 := fun W (h : SeesR W (.slice ao R.length cap) R) (h2 : SeesR W (.slice bo S.length cbp) S) => Lib.hid (show Calls Try.prog 27 #[.agg #[.int .i64 n, .slice ao R.length cap], .agg #[.int .i64 m, .slice bo S.length cbp]] W (RetB (Bn.meeV n R m S) W) from bMet_any n m _ _ R S W h h2)
  have C2 := fun W (h : SeesR W (.slice ao R.length cap) R) (h2 : SeesR W (.slice bo S.length cbp) S) => Lib.hid (show Calls Try.prog 28 #[.agg #[.int .i64 n, .slice ao R.length cap], .agg #[.int .i64 m, .slice bo S.length cbp]] W (RetB (Bn.meeV n R m S) W) from rMet_any n m _ _ R S W h h2)
  have C3 := fun W (h : SeesR W (.slice ao R.length cap) R) (h2 : SeesR W (.slice bo S.length cbp) S) => Lib.hid (bLeq_any n m _ _ R S W h h2)
  have C4 := fun W (h : SeesR W (.slice ao R.length cap) R) (h2 : SeesR W (.slice bo S.length cbp) S) => Lib.hid (rLeq_any n m _ _ R S W h h2)
  generalize Bn.few n R = f1 at *
  generalize Bn.few m S = f2 at *
  generalize Bn.meeV n R m S = q at *
  generalize Bn.leqV n R m S = p at *
  obtain ⟨q1, q2, q3⟩ := q
  obtain ⟨p1, p2⟩ := p
  cases f1
  · go_enter Try.func5, Try.ntmps5
    go_wp2_with fail
    rw [← hX]
    clear x0 x1 x2 y0 y1 y2
    refine ((F1 X (HS.out.step HLX.out)).out).mono ?_
    rintro e w1 ⟨rfl, hb1⟩
    have HB1 := Lib.hid (below_nxt HLX.out hb1)
    clear hb1
    go_wp2_with fail
    refine (awake_any _).mono ?_
    rintro e w2 ⟨rfl, hb2⟩
    have HB2 := Lib.hid (below_nxt HB1.out hb2)
    clear hb2
    go_wp2
    go_ret
    exact ⟨rfl, HB2.out⟩
  · go_enter Try.func5, Try.ntmps5
    go_wp2_with fail
    rw [← hX]
    clear x0 x1 x2 y0 y1 y2
    refine ((F1 X (HS.out.step HLX.out)).out).mono ?_
    rintro e w1 ⟨rfl, hb1⟩
    have HB1 := Lib.hid (below_nxt HLX.out hb1)
    have HX1 := Lib.hid (HBX.out.step hb1)
    have HE1 := Lib.hid (HEX.out.step hb1)
    obtain ⟨y0, y1, y2⟩ := HE1.out
    clear hb1
    go_wp2_with fail
    clear y0 y1 y2
    refine ((F2 w1 (HU.out.step HB1.out)).out).mono ?_
    rintro e w2 ⟨rfl, hb2⟩
    have HB2 := Lib.hid (below_nxt HB1.out hb2)
    have HX2 := Lib.hid (HX1.out.step hb2)
    have HE2 := Lib.hid (HE1.out.step hb2)
    clear hb2 HB1 HX1 HE1
    cases f2
    · go_wp2_with fail
      refine (awake_any _).mono ?_
      rintro e w3 ⟨rfl, hb3⟩
      have HB3 := Lib.hid (below_nxt HB2.out hb3)
      clear hb3
      go_wp2
      go_ret
      exact ⟨rfl, HB3.out⟩
    · obtain ⟨x0, x1, x2⟩ := HX2.out
      obtain ⟨y0, y1, y2⟩ := HE2.out
      go_wp2_with fail
      clear x0 x1 x2 y0 y1 y2
      refine ((C1 w2 (HS.out.step HB2.out) (HU.out.step HB2.out)).out).mono ?_
      rintro e w3 ⟨v3, rfl, ⟨u3, rfl, hu3⟩, hb3⟩
      obtain ⟨a3, c3, rfl, -⟩ := id hu3
      dsimp only at hu3
      have L3 := boxB_new w3 q1 (.slice a3 q2.length c3) 24
      have HW3 := Lib.hid (HX2.out.step hb3)
      have HV3 := Lib.hid (HE2.out.step hb3)
      obtain ⟨x0, x1, x2⟩ := HW3.out
      obtain ⟨y0, y1, y2⟩ := HV3.out
      have HX3 := Lib.hid (HW3.out.step L3.2)
      have HE3 := Lib.hid (HV3.out.step L3.2)
      have HU3 := Lib.hid (hu3.step L3.2)
      have HB3 := Lib.hid (below_nxt (below_nxt HB2.out hb3) L3.2)
      have HZ3 := Lib.hid L3.1
      clear hb3 hu3 L3 HX2 HE2 HB2 HW3 HV3 C1
      go_wp2_with fail
      clear x0 x1 x2 y0 y1 y2
      generalize w3.alloc (.cells #[.int .i64 q1, .slice a3 q2.length c3] 24) = X3 at *
      generalize hk3 : w3.heap.size = k3 at *
      clear hk3
      refine ((C2 X3 (HS.out.step HB3.out) (HU.out.step HB3.out)).out).mono ?_
      rintro e w4 ⟨v4, rfl, ⟨u4, rfl, hu4⟩, hb4⟩
      obtain ⟨a4, c4, rfl, -⟩ := id hu4
      dsimp only at hu4
      have L4 := boxB_new w4 q1 (.slice a4 q2.length c4) 24
      have HW4 := Lib.hid (HX3.out.step hb4)
      have HV4 := Lib.hid (HE3.out.step hb4)
      obtain ⟨x0, x1, x2⟩ := HW4.out
      obtain ⟨y0, y1, y2⟩ := HV4.out
      have HX4 := Lib.hid (HW4.out.step L4.2)
      have HE4 := Lib.hid (HV4.out.step L4.2)
      have HU4 := Lib.hid ((HU3.out.step hb4).step L4.2)
      have HT4 := Lib.hid (hu4.step L4.2)
      have HB4 := Lib.hid (below_nxt (below_nxt HB3.out hb4) L4.2)
      have HZ4 := Lib.hid ((HZ3.out.step hb4).step L4.2)
      have HY4 := Lib.hid L4.1
      clear hb4 hu4 L4 HX3 HE3 HB3 HW4 HV4 C2 HU3 HZ3
      go_wp2_with fail
      clear x0 x1 x2 y0 y1 y2
      generalize w4.alloc (.cells #[.int .i64 q1, .slice a4 q2.length c4] 24) = X4 at *
      generalize hk4 : w4.heap.size = k4 at *
      clear hk4
      refine ((C3 X4 (HS.out.step HB4.out) (HU.out.step HB4.out)).out).mono ?_
      rintro e w5 ⟨rfl, hb5⟩
      have HX5 := Lib.hid (HX4.out.step hb5)
      have HE5 := Lib.hid (HE4.out.step hb5)
      have HU5 := Lib.hid (HU4.out.step hb5)
      have HT5 := Lib.hid (HT4.out.step hb5)
      have HB5 := Lib.hid (below_nxt HB4.out hb5)
      have HZ5 := Lib.hid (HZ4.out.step hb5)
      have HY5 := Lib.hid (HY4.out.step hb5)
      obtain ⟨x0, x1, x2⟩ := HX5.out
      obtain ⟨y0, y1, y2⟩ := HE5.out
      clear hb5 HX4 HE4 HU4 HT4 HB4 HZ4 HY4 C3
      go_wp2_with fail
      clear x0 x1 x2 y0 y1 y2
      refine ((C4 w5 (HS.out.step HB5.out) (HU.out.step HB5.out)).out).mono ?_
      rintro e w6 ⟨rfl, hb6⟩
      have HU6 := Lib.hid (HU5.out.step hb6)
      have HT6 := Lib.hid (HT5.out.step hb6)
      have HB6 := Lib.hid (below_nxt HB5.out hb6)
      have HZ6 := Lib.hid (HZ5.out.step hb6)
      have HY6 := Lib.hid (HY5.out.step hb6)
      clear hb6 HX5 HE5 HU5 HT5 HB5 HZ5 HY5 C4
      go_wp2_with fail
      refine (awake_any _).mono ?_
      rintro e w7 ⟨rfl, hb7⟩
      have HU7 := Lib.hid (HU6.out.step hb7)
      have HT7 := Lib.hid (HT6.out.step hb7)
      have HB7 := Lib.hid (below_nxt HB6.out hb7)
      obtain ⟨x0, x1, x2⟩ := HZ6.out.step hb7
      obtain ⟨y0, y1, y2⟩ := HY6.out.step hb7
      clear hb7 HU6 HT6 HB6 HZ6 HY6
      go_wp2_with fail
      clear x0 x1 x2 y0 y1 y2
      refine (rSame_yes q1 _ _ q2 _ HU7.out HT7.out).mono ?_
      rintro e w8 ⟨rfl, hb8⟩
      have HB8 := Lib.hid (below_nxt HB7.out hb8)
      clear hb8 HB7
      go_wp2
      go_ret
      exact ⟨rfl, HB8.out⟩
end Go.Proofs.Ytcdidncffdfnnaa
