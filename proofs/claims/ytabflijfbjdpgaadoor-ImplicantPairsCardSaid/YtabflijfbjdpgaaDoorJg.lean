/- The call of ImplicantPairs. -/
import Derived.Test.YtabflijfbjdpgaaDoorIw
import Derived.Test.YtabflijfbjdpgaaDoorJc
import Derived.Test.YtabflijfbjdpgaaDoorJf
namespace Go.Proofs.YtabflijfbjdpgaaDoor
open Go.RowKit Go.Shelf

set_option linter.unusedSimpArgs false in
set_option maxHeartbeats 8000000 in
set_option maxRecDepth 100000 in
theorem lawPairs_any (n : Int) (c v d u : Nat) (w : World) (hst : St w) (hc : c < 2 ^ 64) (hv : v < 2 ^ 64) (hd : d < 2 ^ 64) (hu : u < 2 ^ 64) :
    Calls Tryd.prog 4 #[.int .i64 n, .agg #[.int .u64 c, .int .u64 v], .agg #[.int .u64 d, .int .u64 u]] w fun e w' => e = .returned (.bool true) ∧ Below w.heap.size w w' := by
  have I1 := fun W => Lib.hid (iIns_any n c v d u W hc hv hd hu)
  have I2 := fun W => Lib.hid (rcIns_any n c v d u W hc hv hd hu)
  have M1 := fun W => Lib.hid (iMeet_any n c v d u W hc hv hd hu)
  have M2 := fun W => Lib.hid (rcMeet_any n c v d u W hc hv hd hu)
  have N1 := fun W => Lib.hid (iCons_any n c v d u W hc hv hd hu)
  have N2 := fun W => Lib.hid (rcCons_any n c v d u W hc hv hd hu)
  have HST := Lib.hid hst
  generalize Ic.insV n c v d u = iv at *
  generalize Ic.meetV n c v d u = mt at *
  generalize Ic.consV n c v d u = ct at *
  obtain ⟨ib, ie⟩ := iv
  obtain ⟨⟨⟨mc, mv⟩, mb⟩, me⟩ := mt
  obtain ⟨⟨⟨nc, nv⟩, nb⟩, ne⟩ := ct
  dsimp only at I1 I2 M1 M2 N1 N2
  obtain ⟨Va, Vb, L0, z0⟩ := cub2_new w c v d u 24
  generalize hX : (w.alloc (.cells #[.int .u64 (c : Int), .int .u64 (v : Int)] 24)).alloc (.cells #[.int .u64 (d : Int), .int .u64 (u : Int)] 24) = X0 at *
  have HB := Lib.hid L0
  obtain ⟨a0, a1, a2, a3, a4⟩ := id Va
  obtain ⟨b0, b1, b2, b3, b4⟩ := id Vb
  have Ha := Lib.hid Va
  have Hb := Lib.hid Vb
  clear Va Vb L0 hst hc hv hd hu
  go_enter Tryd.func4, Tryd.ntmps4
  go_wp2_with fail
  have hE := HB.out
  refine ((I1 _).out).mono ?_
  rintro e w1 ⟨rfl, hb⟩
  have Va := Ha.out.step hb
  have Vb := Hb.out.step hb
  have HB' := Lib.hid (below_nxt HB.out hb)
  clear HB hE hb
  have HB := HB'
  clear HB'
  clear Ha a0 a1 a2 a3 a4 Hb b0 b1 b2 b3 b4
  obtain ⟨a0, a1, a2, a3, a4⟩ := id Va
  have Ha := Lib.hid Va
  clear Va
  obtain ⟨b0, b1, b2, b3, b4⟩ := id Vb
  have Hb := Lib.hid Vb
  clear Vb
  go_wp2_with fail
  have hE := HB.out
  refine ((I2 _).out).mono ?_
  rintro e w2 ⟨rfl, hb⟩
  have Va := Ha.out.step hb
  have Vb := Hb.out.step hb
  have HB' := Lib.hid (below_nxt HB.out hb)
  clear HB hE hb
  have HB := HB'
  clear HB'
  clear Ha a0 a1 a2 a3 a4 Hb b0 b1 b2 b3 b4
  obtain ⟨a0, a1, a2, a3, a4⟩ := id Va
  have Ha := Lib.hid Va
  clear Va
  obtain ⟨b0, b1, b2, b3, b4⟩ := id Vb
  have Hb := Lib.hid Vb
  clear Vb
  go_wp2_with fail
  have hE := HB.out
  refine ((M1 _).out).mono ?_
  rintro e w3 ⟨rfl, hb⟩
  have Va := Ha.out.step hb
  have Vb := Hb.out.step hb
  have HB' := Lib.hid (below_nxt HB.out hb)
  clear HB hE hb
  have HB := HB'
  clear HB'
  clear Ha a0 a1 a2 a3 a4 Hb b0 b1 b2 b3 b4
  obtain ⟨a0, a1, a2, a3, a4⟩ := id Va
  have Ha := Lib.hid Va
  clear Va
  obtain ⟨b0, b1, b2, b3, b4⟩ := id Vb
  have Hb := Lib.hid Vb
  clear Vb
  go_wp2_with fail
  have hE := HB.out.alloc HB.out.size (.cells #[.int .u64 (mc : Int), .int .u64 (mv : Int)] 24)
  refine ((M2 _).out).mono ?_
  rintro e w4 ⟨rfl, hb⟩
  have Va := Ha.out.box hb
  have Vb := Hb.out.box hb
  have Vp := cubI_box (c := mc) (v := mv) hb
  have HB' := Lib.hid (below_nxtb HB.out hb)
  clear HB hE hb
  have HB := HB'
  clear HB'
  clear Ha a0 a1 a2 a3 a4 Hb b0 b1 b2 b3 b4
  obtain ⟨a0, a1, a2, a3, a4⟩ := id Va
  have Ha := Lib.hid Va
  clear Va
  obtain ⟨b0, b1, b2, b3, b4⟩ := id Vb
  have Hb := Lib.hid Vb
  clear Vb
  obtain ⟨p0, p1, p2, p3, p4⟩ := id Vp
  have Hp := Lib.hid Vp
  clear Vp
  go_wp2_with fail
  have hE := HB.out.alloc HB.out.size (.cells #[.int .u64 (mc : Int), .int .u64 (mv : Int)] 24)
  refine ((N1 _).out).mono ?_
  rintro e w5 ⟨rfl, hb⟩
  have Va := Ha.out.box hb
  have Vb := Hb.out.box hb
  have Vp := Hp.out.box hb
  have Vq := cubI_box (c := mc) (v := mv) hb
  have HB' := Lib.hid (below_nxtb HB.out hb)
  clear HB hE hb
  have HB := HB'
  clear HB'
  clear Ha a0 a1 a2 a3 a4 Hb b0 b1 b2 b3 b4 Hp p0 p1 p2 p3 p4
  obtain ⟨a0, a1, a2, a3, a4⟩ := id Va
  have Ha := Lib.hid Va
  clear Va
  obtain ⟨b0, b1, b2, b3, b4⟩ := id Vb
  have Hb := Lib.hid Vb
  clear Vb
  obtain ⟨p0, p1, p2, p3, p4⟩ := id Vp
  have Hp := Lib.hid Vp
  clear Vp
  obtain ⟨q0, q1, q2, q3, q4⟩ := id Vq
  have Hq := Lib.hid Vq
  clear Vq
  go_wp2_with fail
  have hE := HB.out.alloc HB.out.size (.cells #[.int .u64 (nc : Int), .int .u64 (nv : Int)] 24)
  refine ((N2 _).out).mono ?_
  rintro e w6 ⟨rfl, hb⟩
  have Va := Ha.out.box hb
  have Vb := Hb.out.box hb
  have Vp := Hp.out.box hb
  have Vq := Hq.out.box hb
  have Vr := cubI_box (c := nc) (v := nv) hb
  have HB' := Lib.hid (below_nxtb HB.out hb)
  clear HB hE hb
  have HB := HB'
  clear HB'
  clear Ha a0 a1 a2 a3 a4 Hb b0 b1 b2 b3 b4 Hp p0 p1 p2 p3 p4 Hq q0 q1 q2 q3 q4
  obtain ⟨a0, a1, a2, a3, a4⟩ := id Va
  have Ha := Lib.hid Va
  clear Va
  obtain ⟨b0, b1, b2, b3, b4⟩ := id Vb
  have Hb := Lib.hid Vb
  clear Vb
  obtain ⟨p0, p1, p2, p3, p4⟩ := id Vp
  have Hp := Lib.hid Vp
  clear Vp
  obtain ⟨q0, q1, q2, q3, q4⟩ := id Vq
  have Hq := Lib.hid Vq
  clear Vq
  obtain ⟨r0, r1, r2, r3, r4⟩ := id Vr
  have Hr := Lib.hid Vr
  clear Vr
  go_wp2_with fail
  have hE := HB.out.alloc HB.out.size (.cells #[.int .u64 (nc : Int), .int .u64 (nv : Int)] 24)
  refine (awake_any _ (HST.out.next hE)).mono ?_
  rintro e w7 ⟨rfl, hb⟩
  have Va := Ha.out.box hb
  have Vb := Hb.out.box hb
  have Vp := Hp.out.box hb
  have Vq := Hq.out.box hb
  have Vr := Hr.out.box hb
  have Vs := cubI_box (c := nc) (v := nv) hb
  have HB' := Lib.hid (below_nxtb HB.out hb)
  clear HB hE hb
  have HB := HB'
  clear HB'
  clear Ha a0 a1 a2 a3 a4 Hb b0 b1 b2 b3 b4 Hp p0 p1 p2 p3 p4 Hq q0 q1 q2 q3 q4 Hr r0 r1 r2 r3 r4
  obtain ⟨a0, a1, a2, a3, a4⟩ := id Va
  have Ha := Lib.hid Va
  clear Va
  obtain ⟨b0, b1, b2, b3, b4⟩ := id Vb
  have Hb := Lib.hid Vb
  clear Vb
  obtain ⟨p0, p1, p2, p3, p4⟩ := id Vp
  have Hp := Lib.hid Vp
  clear Vp
  obtain ⟨q0, q1, q2, q3, q4⟩ := id Vq
  have Hq := Lib.hid Vq
  clear Vq
  obtain ⟨r0, r1, r2, r3, r4⟩ := id Vr
  have Hr := Lib.hid Vr
  clear Vr
  obtain ⟨s0, s1, s2, s3, s4⟩ := id Vs
  have Hs := Lib.hid Vs
  clear Vs
  go_wp2
  go_ret
  exact ⟨rfl, HB.out⟩
theorem lawPairs_card (x0 x1 y1 x2 y2 : Int) (W : World) (hst : St W) (_ : -9223372036854775808 ≤ x0) (_ : x0 ≤ 9223372036854775807) (h0 : 0 ≤ x1) (h1 : x1 ≤ 18446744073709551615) (h2 : 0 ≤ y1) (h3 : y1 ≤ 18446744073709551615) (h4 : 0 ≤ x2) (h5 : x2 ≤ 18446744073709551615) (h6 : 0 ≤ y2) (h7 : y2 ≤ 18446744073709551615) :
    Calls Tryd.prog 4 #[.int .i64 x0, .agg #[.int .u64 x1, .int .u64 y1], .agg #[.int .u64 x2, .int .u64 y2]] W fun e w' => e = .returned (.bool true) ∧ Below W.heap.size W w' := by
  obtain ⟨c, rfl⟩ := Int.eq_ofNat_of_zero_le h0
  obtain ⟨v, rfl⟩ := Int.eq_ofNat_of_zero_le h2
  obtain ⟨d, rfl⟩ := Int.eq_ofNat_of_zero_le h4
  obtain ⟨u, rfl⟩ := Int.eq_ofNat_of_zero_le h6
  exact lawPairs_any x0 c v d u W hst (by omega) (by omega) (by omega) (by omega)
end Go.Proofs.YtabflijfbjdpgaaDoor
