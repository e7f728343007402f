/- The calls of the statements TimespanOrders, TimespanMeets. -/
import Derived.Test.YtgblodnggeabjabDoorTo
namespace Go.Proofs.YtgblodnggeabjabDoor
open Go.RowKit

set_option maxRecDepth 100000 in
set_option maxHeartbeats 4000000 in
theorem lawOrders_any (l h m k : Int) (w : World) (hst : St w) :
    Calls Tryd.prog 4 #[.agg #[.int .i64 l, .int .i64 h], .agg #[.int .i64 m, .int .i64 k]] w fun e w' => e = .returned (.bool true) ∧ Below w.heap.size w w' := by
  have HST := Lib.hid hst
  clear hst
  have C1 := fun W => Lib.hid (tLater_any l h m k W)
  have C2 := fun W => Lib.hid (rLater_any l h m k W)
  have C3 := fun W => Lib.hid (tEarlier_any l h m k W)
  have C4 := fun W => Lib.hid (rEarlier_any l h m k W)
  have C5 := fun W => Lib.hid (tHull_any l h m k W)
  have C6 := fun W => Lib.hid (rHull_any l h m k W)
  generalize Tm.opV Tm.great Tm.great l h m k = r1 at *
  generalize Tm.opV Tm.less Tm.less l h m k = r2 at *
  generalize Tm.opV Tm.less Tm.great l h m k = r3 at *
  obtain ⟨⟨x1, y1⟩, z1⟩ := r1
  obtain ⟨⟨x2, y2⟩, z2⟩ := r2
  obtain ⟨⟨x3, y3⟩, z3⟩ := r3
  simp only [] at C1 C2 C3 C4 C5 C6
  have hB0 := w2_below w l h m k
  have HF := fun W hW => Lib.hid (w2_facts w l h m k (W := W) hW)
  have hs := hB0.size
  unfold W2 at *
  go_enter Tryd.func4, Tryd.ntmps4
  go_wp2_with fail
  refine ((C1 _).out).mono ?_
  rintro e w1 ⟨rfl, hb⟩
  obtain ⟨V1, V2⟩ := (HF _ hb).out
  have hB := hB0.trans (hb.mono hs)
  clear hb HF hB0 hs
  have n1_1 : w.heap.size < w1.heap.size := V1.1
  have n1_2 : (w.heap.size + 1) < w1.heap.size := V2.1
  obtain ⟨a10, a11, a12, a13, a14⟩ := id V1
  obtain ⟨a20, a21, a22, a23, a24⟩ := id V2
  have H1 := Lib.hid V1
  have H2 := Lib.hid V2
  clear V1 V2
  go_wp2_with fail
  refine ((C2 _).out).mono ?_
  rintro e w2 ⟨rfl, hb⟩
  have V1 := H1.out.box hb
  have V2 := H2.out.box hb
  have V3 := pairI_box hb
  have hB' := below_nextb hB hb
  clear hb hB a10 a11 a12 a13 a14 H1 a20 a21 a22 a23 a24 H2
  have hB := hB'
  clear hB'
  have n2_1 : w.heap.size < w2.heap.size := V1.1
  have n2_2 : (w.heap.size + 1) < w2.heap.size := V2.1
  have n2_3 : w1.heap.size < w2.heap.size := V3.1
  obtain ⟨a10, a11, a12, a13, a14⟩ := id V1
  obtain ⟨a20, a21, a22, a23, a24⟩ := id V2
  obtain ⟨a30, a31, a32, a33, a34⟩ := id V3
  have H1 := Lib.hid V1
  have H2 := Lib.hid V2
  have H3 := Lib.hid V3
  clear V1 V2 V3
  go_wp2_with fail
  refine ((C3 _).out).mono ?_
  rintro e w3 ⟨rfl, hb⟩
  have V1 := H1.out.box hb
  have V2 := H2.out.box hb
  have V3 := H3.out.box hb
  have V4 := pairI_box hb
  have hB' := below_nextb hB hb
  clear hb hB a10 a11 a12 a13 a14 H1 a20 a21 a22 a23 a24 H2 a30 a31 a32 a33 a34 H3
  have hB := hB'
  clear hB'
  have U1 := V1.other (g := w1.heap.size) (by omega) x2 y2
  have U2 := V2.other (g := w1.heap.size) (by omega) x2 y2
  have U3 := V3.same x2 y2
  have U4 := V4.other (g := w1.heap.size) (by omega) x2 y2
  have hB' := below_put (g := w1.heap.size) hB (by omega) x2 y2
  obtain ⟨s0, s1, s2, s3, s4⟩ := id V3
  unfold Put at *
  clear hB V1 V2 V3 V4
  have hB := hB'
  clear hB'
  obtain ⟨a10, a11, a12, a13, a14⟩ := id U1
  obtain ⟨a20, a21, a22, a23, a24⟩ := id U2
  obtain ⟨a30, a31, a32, a33, a34⟩ := id U3
  obtain ⟨a40, a41, a42, a43, a44⟩ := id U4
  have H1 := Lib.hid U1
  have H2 := Lib.hid U2
  have H3 := Lib.hid U3
  have H4 := Lib.hid U4
  clear U1 U2 U3 U4
  go_wp2_with fail
  refine ((C4 _).out).mono ?_
  rintro e w4 ⟨rfl, hb⟩
  have V1 := H1.out.step hb
  have V2 := H2.out.step hb
  have V3 := H3.out.step hb
  have V4 := H4.out.step hb
  have hB' := below_next hB hb
  clear hb hB a10 a11 a12 a13 a14 H1 a20 a21 a22 a23 a24 H2 a30 a31 a32 a33 a34 H3 a40 a41 a42 a43 a44 H4
  have hB := hB'
  clear hB'
  have U1 := V1.other (g := w2.heap.size) (by omega) x2 y2
  have U2 := V2.other (g := w2.heap.size) (by omega) x2 y2
  have U3 := V3.other (g := w2.heap.size) (by omega) x2 y2
  have U4 := V4.same x2 y2
  have hB' := below_put (g := w2.heap.size) hB (by omega) x2 y2
  obtain ⟨s0, s1, s2, s3, s4⟩ := id V4
  unfold Put at *
  clear hB V1 V2 V3 V4
  have hB := hB'
  clear hB'
  obtain ⟨a10, a11, a12, a13, a14⟩ := id U1
  obtain ⟨a20, a21, a22, a23, a24⟩ := id U2
  obtain ⟨a30, a31, a32, a33, a34⟩ := id U3
  obtain ⟨a40, a41, a42, a43, a44⟩ := id U4
  have H1 := Lib.hid U1
  have H2 := Lib.hid U2
  have H3 := Lib.hid U3
  have H4 := Lib.hid U4
  clear U1 U2 U3 U4
  go_wp2_with fail
  refine ((C5 _).out).mono ?_
  rintro e w5 ⟨rfl, hb⟩
  have V1 := H1.out.step hb
  have V2 := H2.out.step hb
  have V3 := H3.out.step hb
  have V4 := H4.out.step hb
  have hB' := below_next hB hb
  clear hb hB a10 a11 a12 a13 a14 H1 a20 a21 a22 a23 a24 H2 a30 a31 a32 a33 a34 H3 a40 a41 a42 a43 a44 H4
  have hB := hB'
  clear hB'
  have n5_1 : w.heap.size < w5.heap.size := V1.1
  have n5_2 : (w.heap.size + 1) < w5.heap.size := V2.1
  have n5_3 : w1.heap.size < w5.heap.size := V3.1
  have n5_4 : w2.heap.size < w5.heap.size := V4.1
  obtain ⟨a10, a11, a12, a13, a14⟩ := id V1
  obtain ⟨a20, a21, a22, a23, a24⟩ := id V2
  obtain ⟨a30, a31, a32, a33, a34⟩ := id V3
  obtain ⟨a40, a41, a42, a43, a44⟩ := id V4
  have H1 := Lib.hid V1
  have H2 := Lib.hid V2
  have H3 := Lib.hid V3
  have H4 := Lib.hid V4
  clear V1 V2 V3 V4
  go_wp2_with fail
  refine ((C6 _).out).mono ?_
  rintro e w6 ⟨rfl, hb⟩
  have V1 := H1.out.box hb
  have V2 := H2.out.box hb
  have V3 := H3.out.box hb
  have V4 := H4.out.box hb
  have V5 := pairI_box hb
  have hB' := below_nextb hB hb
  clear hb hB a10 a11 a12 a13 a14 H1 a20 a21 a22 a23 a24 H2 a30 a31 a32 a33 a34 H3 a40 a41 a42 a43 a44 H4
  have hB := hB'
  clear hB'
  have n6_1 : w.heap.size < w6.heap.size := V1.1
  have n6_2 : (w.heap.size + 1) < w6.heap.size := V2.1
  have n6_3 : w1.heap.size < w6.heap.size := V3.1
  have n6_4 : w2.heap.size < w6.heap.size := V4.1
  have n6_5 : w5.heap.size < w6.heap.size := V5.1
  obtain ⟨a10, a11, a12, a13, a14⟩ := id V1
  obtain ⟨a20, a21, a22, a23, a24⟩ := id V2
  obtain ⟨a30, a31, a32, a33, a34⟩ := id V3
  obtain ⟨a40, a41, a42, a43, a44⟩ := id V4
  obtain ⟨a50, a51, a52, a53, a54⟩ := id V5
  have H1 := Lib.hid V1
  have H2 := Lib.hid V2
  have H3 := Lib.hid V3
  have H4 := Lib.hid V4
  have H5 := Lib.hid V5
  clear V1 V2 V3 V4 V5
  have hE := hB.alloc hB.size (.cells #[.int .i64 x3, .int .i64 y3] 23)
  go_wp2_with fail
  refine (awake_any _ (HST.out.next hE)).mono ?_
  rintro e wz ⟨rfl, hb⟩
  have hF := below_next hE hb
  go_wp2
  go_ret
  exact ⟨rfl, hF⟩

set_option maxRecDepth 100000 in
set_option maxHeartbeats 4000000 in
theorem lawMeets_any (l h m k : Int) (w : World) (hst : St w) :
    Calls Tryd.prog 5 #[.agg #[.int .i64 l, .int .i64 h], .agg #[.int .i64 m, .int .i64 k]] w fun e w' => e = .returned (.bool true) ∧ Below w.heap.size w w' := by
  have HST := Lib.hid hst
  clear hst
  have C1 := fun W => Lib.hid (tMeet_any l h m k W)
  have C2 := fun W => Lib.hid (rMeet_any l h m k W)
  have C3 := fun W => Lib.hid (tWithin_any l h m k W)
  have C4 := fun W => Lib.hid (rWithin_any l h m k W)
  have C5 := fun W => Lib.hid (tCompare_any l h m k W)
  have C6 := fun W => Lib.hid (rCompare_any l h m k W)
  generalize Tm.meeV l h m k = r1 at *
  generalize Tm.witV l h m k = r2 at *
  generalize Tm.cmpV l h m k = r3 at *
  obtain ⟨⟨⟨x1, y1⟩, b1⟩, z1⟩ := r1
  obtain ⟨b2, z2⟩ := r2
  obtain ⟨x3, z3⟩ := r3
  simp only [] at C1 C2 C3 C4 C5 C6
  have hB0 := w2_below w l h m k
  have HF := fun W hW => Lib.hid (w2_facts w l h m k (W := W) hW)
  have hs := hB0.size
  unfold W2 at *
  go_enter Tryd.func5, Tryd.ntmps5
  go_wp2_with fail
  refine ((C1 _).out).mono ?_
  rintro e w1 ⟨rfl, hb⟩
  obtain ⟨V1, V2⟩ := (HF _ hb).out
  have hB := hB0.trans (hb.mono hs)
  clear hb HF hB0 hs
  have n1_1 : w.heap.size < w1.heap.size := V1.1
  have n1_2 : (w.heap.size + 1) < w1.heap.size := V2.1
  obtain ⟨a10, a11, a12, a13, a14⟩ := id V1
  obtain ⟨a20, a21, a22, a23, a24⟩ := id V2
  have H1 := Lib.hid V1
  have H2 := Lib.hid V2
  clear V1 V2
  go_wp2_with fail
  refine ((C2 _).out).mono ?_
  rintro e w2 ⟨rfl, hb⟩
  have V1 := H1.out.box hb
  have V2 := H2.out.box hb
  have V3 := pairI_box hb
  have hB' := below_nextb hB hb
  clear hb hB a10 a11 a12 a13 a14 H1 a20 a21 a22 a23 a24 H2
  have hB := hB'
  clear hB'
  have n2_1 : w.heap.size < w2.heap.size := V1.1
  have n2_2 : (w.heap.size + 1) < w2.heap.size := V2.1
  have n2_3 : w1.heap.size < w2.heap.size := V3.1
  obtain ⟨a10, a11, a12, a13, a14⟩ := id V1
  obtain ⟨a20, a21, a22, a23, a24⟩ := id V2
  obtain ⟨a30, a31, a32, a33, a34⟩ := id V3
  have H1 := Lib.hid V1
  have H2 := Lib.hid V2
  have H3 := Lib.hid V3
  clear V1 V2 V3
  go_wp2_with fail
  refine ((C3 _).out).mono ?_
  rintro e w3 ⟨rfl, hb⟩
  have V1 := H1.out.box hb
  have V2 := H2.out.box hb
  have V3 := H3.out.box hb
  have V4 := pairI_box hb
  have hB' := below_nextb hB hb
  clear hb hB a10 a11 a12 a13 a14 H1 a20 a21 a22 a23 a24 H2 a30 a31 a32 a33 a34 H3
  have hB := hB'
  clear hB'
  obtain ⟨a10, a11, a12, a13, a14⟩ := id V1
  obtain ⟨a20, a21, a22, a23, a24⟩ := id V2
  obtain ⟨a30, a31, a32, a33, a34⟩ := id V3
  obtain ⟨a40, a41, a42, a43, a44⟩ := id V4
  have H1 := Lib.hid V1
  have H2 := Lib.hid V2
  have H3 := Lib.hid V3
  have H4 := Lib.hid V4
  clear V1 V2 V3 V4
  go_wp2_with fail
  refine ((C4 _).out).mono ?_
  rintro e w4 ⟨rfl, hb⟩
  have V1 := H1.out.step hb
  have V2 := H2.out.step hb
  have V3 := H3.out.step hb
  have V4 := H4.out.step hb
  have hB' := below_next hB hb
  clear hb hB a10 a11 a12 a13 a14 H1 a20 a21 a22 a23 a24 H2 a30 a31 a32 a33 a34 H3 a40 a41 a42 a43 a44 H4
  have hB := hB'
  clear hB'
  obtain ⟨a10, a11, a12, a13, a14⟩ := id V1
  obtain ⟨a20, a21, a22, a23, a24⟩ := id V2
  obtain ⟨a30, a31, a32, a33, a34⟩ := id V3
  obtain ⟨a40, a41, a42, a43, a44⟩ := id V4
  have H1 := Lib.hid V1
  have H2 := Lib.hid V2
  have H3 := Lib.hid V3
  have H4 := Lib.hid V4
  clear V1 V2 V3 V4
  go_wp2_with fail
  refine ((C5 _).out).mono ?_
  rintro e w5 ⟨rfl, hb⟩
  have V1 := H1.out.step hb
  have V2 := H2.out.step hb
  have V3 := H3.out.step hb
  have V4 := H4.out.step hb
  have hB' := below_next hB hb
  clear hb hB a10 a11 a12 a13 a14 H1 a20 a21 a22 a23 a24 H2 a30 a31 a32 a33 a34 H3 a40 a41 a42 a43 a44 H4
  have hB := hB'
  clear hB'
  obtain ⟨a10, a11, a12, a13, a14⟩ := id V1
  obtain ⟨a20, a21, a22, a23, a24⟩ := id V2
  obtain ⟨a30, a31, a32, a33, a34⟩ := id V3
  obtain ⟨a40, a41, a42, a43, a44⟩ := id V4
  have H1 := Lib.hid V1
  have H2 := Lib.hid V2
  have H3 := Lib.hid V3
  have H4 := Lib.hid V4
  clear V1 V2 V3 V4
  go_wp2_with fail
  refine ((C6 _).out).mono ?_
  rintro e w6 ⟨rfl, hb⟩
  have V1 := H1.out.step hb
  have V2 := H2.out.step hb
  have V3 := H3.out.step hb
  have V4 := H4.out.step hb
  have hB' := below_next hB hb
  clear hb hB a10 a11 a12 a13 a14 H1 a20 a21 a22 a23 a24 H2 a30 a31 a32 a33 a34 H3 a40 a41 a42 a43 a44 H4
  have hB := hB'
  clear hB'
  obtain ⟨a10, a11, a12, a13, a14⟩ := id V1
  obtain ⟨a20, a21, a22, a23, a24⟩ := id V2
  obtain ⟨a30, a31, a32, a33, a34⟩ := id V3
  obtain ⟨a40, a41, a42, a43, a44⟩ := id V4
  have H1 := Lib.hid V1
  have H2 := Lib.hid V2
  have H3 := Lib.hid V3
  have H4 := Lib.hid V4
  clear V1 V2 V3 V4
  go_wp2_with fail
  refine (awake_any _ (HST.out.next hB)).mono ?_
  rintro e wz ⟨rfl, hb⟩
  have hF := below_next hB hb
  go_wp2
  go_ret
  exact ⟨rfl, hF⟩

end Go.Proofs.YtgblodnggeabjabDoor
