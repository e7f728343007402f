/- The statement BoundsExtends. -/
import Derived.Test.YtcdidncffdfnnaaBJ
import Derived.Test.YtcdidncffdfnnaaBH
namespace Go.Proofs.Ytcdidncffdfnnaa
open Go.RowKit
set_option maxHeartbeats 8000000 in
set_option maxRecDepth 100000 in
theorem extends_any (n i : Int) (v : Value) (R : List (List Int)) (w : World) (hs : SeesR w v R) :
    Calls Try.prog 7 #[.agg #[.int .i64 n, v], .int .i64 i] w fun e w' => e = .returned (.bool true) ∧ Below w.heap.size w w' := by
  have HS := Lib.hid hs
  obtain ⟨ao, cap, rfl, hcap1, hcap2, -⟩ := hs
  obtain ⟨B0, L0⟩ := boxB_new w n (.slice ao R.length cap) 24
  have HB := Lib.hid L0
  have HX := Lib.hid B0
  obtain ⟨x0, x1, x2⟩ := B0
  clear L0
  go_enter Try.func7, Try.ntmps7
  go_wp2_with fail
  clear x0 x1 x2
  have CF := few_any n _ R _ (HS.out.step HB.out)
  generalize hfew : Bn.few n R = fw at CF
  refine CF.mono ?_
  rintro e w1 ⟨rfl, hb1⟩
  have HB1 := Lib.hid (below_nxt HB.out hb1)
  have HX1 := Lib.hid (HX.out.step hb1)
  obtain ⟨x0, x1, x2⟩ := HX1.out
  clear hb1 HB HX CF
  cases fw
  · go_wp2_with fail
    refine (awake_any _).mono ?_
    rintro e w2 ⟨rfl, hb2⟩
    have HB2 := Lib.hid (below_nxt HB1.out hb2)
    clear hb2
    go_wp2
    go_ret
    exact ⟨rfl, HB2.out⟩
  · go_wp2_with fail
    clear x0 x1 x2
    refine (bExt_any n i _ R _ (HS.out.step HB1.out)).mono ?_
    rintro e w2 ⟨rfl, hb2⟩
    have HB2 := Lib.hid (below_nxt HB1.out hb2)
    have HX2 := Lib.hid (HX1.out.step hb2)
    obtain ⟨x0, x1, x2⟩ := HX2.out
    clear hb2 HB1 HX1
    go_wp2_with fail
    clear x0 x1 x2
    refine (rExt_any n i _ R _ (HS.out.step HB2.out)).mono ?_
    rintro e w3 ⟨rfl, hb3⟩
    have HB3 := Lib.hid (below_nxt HB2.out hb3)
    have HX3 := Lib.hid (HX2.out.step hb3)
    obtain ⟨x0, x1, x2⟩ := HX3.out
    clear hb3 HB2 HX2
    generalize Bn.extV n R i = q at *
    go_wp2_with fail
    clear x0 x1 x2
    refine (bWit_any n _ R _ (HS.out.step HB3.out)).mono ?_
    rintro e w4 ⟨v4, rfl, hv4, hb4⟩
    have HB4 := Lib.hid (below_nxt HB3.out hb4)
    have HX4 := Lib.hid (HX3.out.step hb4)
    obtain ⟨x0, x1, x2⟩ := HX4.out
    have HV4 := Lib.hid hv4
    clear hb4 hv4 HB3 HX3
    go_wp2_with fail
    clear x0 x1 x2
    refine (rWit_any n _ R _ (HS.out.step HB4.out)).mono ?_
    rintro e w5 ⟨v5, rfl, hv5, hb5⟩
    have HB5 := Lib.hid (below_nxt HB4.out hb5)
    have HV45 := Lib.hid (SeesI.step HV4.out hb5)
    have HV5 := Lib.hid hv5
    clear hb5 hv5 HB4 HX4 HV4
    generalize Bn.witV n R = r at *
    go_wp2_with fail
    refine (awake_any _).mono ?_
    rintro e w6 ⟨rfl, hb6⟩
    have HB6 := Lib.hid (below_nxt HB5.out hb6)
    have HV46 := Lib.hid (SeesI.step HV45.out hb6)
    have HV56 := Lib.hid (SeesI.step HV5.out hb6)
    clear hb6 HB5 HV45 HV5
    go_wp2_with fail
    refine (eq_yes _ _ _ _ HV46.out.see HV56.out.see).mono ?_
    rintro e w7 ⟨rfl, hb7⟩
    have HB7 := Lib.hid (below_nxt HB6.out hb7)
    clear hb7 HB6
    go_wp2
    go_ret
    exact ⟨rfl, HB7.out⟩
end Go.Proofs.Ytcdidncffdfnnaa
