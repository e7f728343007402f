/- The examples of the statements about tables. -/
import Derived.Test.YtmmcakeedejbnaaDoorUo
namespace Go.Proofs.YtmmcakeedejbnaaDoor
open Go.RowKit

theorem cVar0 (W : World) (h : St W) : Calls Tryd.prog 13 #[.int .i64 2, .int .i64 0] W fun e w' => e = .returned (.tuple #[.agg #[.int .i64 2, .int .u64 10], .int .i64 0]) ∧ Below W.heap.size W w' := tVar_ok 2 0 W (by decide) (by decide) h.col h.h2
theorem cVar1 (W : World) (h : St W) : Calls Tryd.prog 13 #[.int .i64 2, .int .i64 1] W fun e w' => e = .returned (.tuple #[.agg #[.int .i64 2, .int .u64 12], .int .i64 0]) ∧ Below W.heap.size W w' := tVar_ok 2 1 W (by decide) (by decide) h.col h.h2
theorem cAnd (W : World) : Calls Tryd.prog 25 #[.agg #[.int .i64 2, .int .u64 10], .agg #[.int .i64 2, .int .u64 12]] W fun e w' => e = .returned (.tuple #[.agg #[.int .i64 2, .int .u64 8], .int .i64 0]) ∧ Below W.heap.size W w' := tAnd_ok 2 10 12 W (by decide) (by decide) (by decide) (by decide)
theorem cXor (W : World) : Calls Tryd.prog 29 #[.agg #[.int .i64 2, .int .u64 10], .agg #[.int .i64 2, .int .u64 12]] W fun e w' => e = .returned (.tuple #[.agg #[.int .i64 2, .int .u64 6], .int .i64 0]) ∧ Below W.heap.size W w' := tXor_ok 2 10 12 W (by decide) (by decide) (by decide) (by decide)
theorem cText1 (W : World) (h : St W) : Calls Tryd.prog 39 #[.agg #[.int .i64 2, .int .u64 8]] W fun e w' => e = .returned (.tuple #[.string ⟨#[48, 48, 48, 49]⟩, .int .i64 0]) ∧ Below W.heap.size W w' := tText_any 2 8 W (by decide) (by decide) h.tz h.h1
theorem cText2 (W : World) (h : St W) : Calls Tryd.prog 39 #[.agg #[.int .i64 2, .int .u64 6]] W fun e w' => e = .returned (.tuple #[.string ⟨#[48, 49, 49, 48]⟩, .int .i64 0]) ∧ Below W.heap.size W w' := tText_any 2 6 W (by decide) (by decide) h.tz h.h1
theorem cText3 (W : World) (h : St W) : Calls Tryd.prog 39 #[.agg #[.int .i64 3, .int .u64 204]] W fun e w' => e = .returned (.tuple #[.string ⟨#[48, 48, 49, 49, 48, 48, 49, 49]⟩, .int .i64 0]) ∧ Below W.heap.size W w' := tText_any 3 204 W (by decide) (by decide) h.tz h.h1
theorem cParse (W : World) (h : St W) : Calls Tryd.prog 41 #[.string ⟨#[48, 49, 48, 49, 48, 48, 49, 49]⟩] W fun e w' => e = .returned (.tuple #[.agg #[.int .i64 3, .int .u64 202], .int .i64 0]) ∧ Below W.heap.size W w' := tParse_any 3 202 W (by decide) (by decide) h.tz h.h1
theorem cCof (W : World) (h : St W) : Calls Tryd.prog 31 #[.agg #[.int .i64 3, .int .u64 202], .int .i64 2, .bool true] W fun e w' => e = .returned (.tuple #[.agg #[.int .i64 3, .int .u64 204], .int .i64 0]) ∧ Below W.heap.size W w' := tCofactor_ok 3 202 2 true W (by decide) (by decide) (by decide) h.col h.h2
theorem cUna (W : World) (h : St W) : Calls Tryd.prog 35 #[.agg #[.int .i64 2, .int .u64 6], .int .i64 1] W fun e w' => e = .returned (.tuple #[.bool false, .bool false, .int .i64 0]) ∧ Below W.heap.size W w' := tUnate_ok 2 6 1 W (by decide) (by decide) (by decide) h.col h.h2

set_option maxRecDepth 100000 in
set_option maxHeartbeats 4000000 in
theorem awake_any (w : World) (hst : St w) : Calls Tryd.prog 22 #[] w fun e w' => e = .returned (.bool true) ∧ Below w.heap.size w w' := by
  have HST := Lib.hid hst
  go_enter Tryd.func22, Tryd.ntmps22
  go_wp2_with fail
  refine (cVar0 _ hst).mono ?_
  rintro e w1 ⟨rfl, hb⟩
  have hB := hb
  clear hb
  go_wp2_with fail
  have hE := hB.alloc hB.size (.cells #[.int .i64 2, .int .u64 10] 24)
  refine (cVar1 _ (HST.out.next hE)).mono ?_
  rintro e w2 ⟨rfl, hb⟩
  clear hE
  have V1 := tabI_box hb
  have hB' := below_nxtb hB hb
  clear hb hB 
  have hB := hB'
  clear hB'
  have n2_1 : w1.heap.size < w2.heap.size := V1.1
  obtain ⟨a10, a11, a12, a13, a14⟩ := id V1
  have H1 := Lib.hid V1
  clear V1
  go_wp2_with fail
  refine (cAnd _).mono ?_
  rintro e w3 ⟨rfl, hb⟩
  have V1 := H1.out.box hb
  have V2 := tabI_box hb
  have hB' := below_nxtb hB hb
  clear hb hB a10 a11 a12 a13 a14 H1
  have hB := hB'
  clear hB'
  have n3_1 : w1.heap.size < w3.heap.size := V1.1
  have n3_2 : w2.heap.size < w3.heap.size := V2.1
  obtain ⟨a10, a11, a12, a13, a14⟩ := id V1
  obtain ⟨a20, a21, a22, a23, a24⟩ := id V2
  have H1 := Lib.hid V1
  have H2 := Lib.hid V2
  clear V1 V2
  go_wp2_with fail
  refine (cXor _).mono ?_
  rintro e w4 ⟨rfl, hb⟩
  have V1 := H1.out.box hb
  have V2 := H2.out.box hb
  have V3 := tabI_box hb
  have hB' := below_nxtb hB hb
  clear hb hB a10 a11 a12 a13 a14 H1 a20 a21 a22 a23 a24 H2
  have hB := hB'
  clear hB'
  have n4_1 : w1.heap.size < w4.heap.size := V1.1
  have n4_2 : w2.heap.size < w4.heap.size := V2.1
  have n4_3 : w3.heap.size < w4.heap.size := V3.1
  obtain ⟨a10, a11, a12, a13, a14⟩ := id V1
  obtain ⟨a20, a21, a22, a23, a24⟩ := id V2
  obtain ⟨a30, a31, a32, a33, a34⟩ := id V3
  have H1 := Lib.hid V1
  have H2 := Lib.hid V2
  have H3 := Lib.hid V3
  clear V1 V2 V3
  go_wp2_with fail
  have hE := hB.alloc hB.size (.cells #[.int .i64 2, .int .u64 6] 24)
  refine (cText1 _ (HST.out.next hE)).mono ?_
  rintro e w5 ⟨rfl, hb⟩
  clear hE
  have V1 := H1.out.box hb
  have V2 := H2.out.box hb
  have V3 := H3.out.box hb
  have V4 := tabI_box hb
  have hB' := below_nxtb hB hb
  clear hb hB a10 a11 a12 a13 a14 H1 a20 a21 a22 a23 a24 H2 a30 a31 a32 a33 a34 H3
  have hB := hB'
  clear hB'
  obtain ⟨a10, a11, a12, a13, a14⟩ := id V1
  obtain ⟨a20, a21, a22, a23, a24⟩ := id V2
  obtain ⟨a30, a31, a32, a33, a34⟩ := id V3
  obtain ⟨a40, a41, a42, a43, a44⟩ := id V4
  have H1 := Lib.hid V1
  have H2 := Lib.hid V2
  have H3 := Lib.hid V3
  have H4 := Lib.hid V4
  clear V1 V2 V3 V4
  go_wp2_with fail
  have hE := hB
  refine (cText2 _ (HST.out.next hE)).mono ?_
  rintro e w6 ⟨rfl, hb⟩
  clear hE
  have V1 := H1.out.step hb
  have V2 := H2.out.step hb
  have V3 := H3.out.step hb
  have V4 := H4.out.step hb
  have hB' := below_nxt hB hb
  clear hb hB a10 a11 a12 a13 a14 H1 a20 a21 a22 a23 a24 H2 a30 a31 a32 a33 a34 H3 a40 a41 a42 a43 a44 H4
  have hB := hB'
  clear hB'
  obtain ⟨a10, a11, a12, a13, a14⟩ := id V1
  obtain ⟨a20, a21, a22, a23, a24⟩ := id V2
  obtain ⟨a30, a31, a32, a33, a34⟩ := id V3
  obtain ⟨a40, a41, a42, a43, a44⟩ := id V4
  have H1 := Lib.hid V1
  have H2 := Lib.hid V2
  have H3 := Lib.hid V3
  have H4 := Lib.hid V4
  clear V1 V2 V3 V4
  go_wp2_with fail
  have hE := hB
  refine (cParse _ (HST.out.next hE)).mono ?_
  rintro e w7 ⟨rfl, hb⟩
  clear hE
  have V1 := H1.out.step hb
  have V2 := H2.out.step hb
  have V3 := H3.out.step hb
  have V4 := H4.out.step hb
  have hB' := below_nxt hB hb
  clear hb hB a10 a11 a12 a13 a14 H1 a20 a21 a22 a23 a24 H2 a30 a31 a32 a33 a34 H3 a40 a41 a42 a43 a44 H4
  have hB := hB'
  clear hB'
  have n7_1 : w1.heap.size < w7.heap.size := V1.1
  have n7_2 : w2.heap.size < w7.heap.size := V2.1
  have n7_3 : w3.heap.size < w7.heap.size := V3.1
  have n7_4 : w4.heap.size < w7.heap.size := V4.1
  obtain ⟨a10, a11, a12, a13, a14⟩ := id V1
  obtain ⟨a20, a21, a22, a23, a24⟩ := id V2
  obtain ⟨a30, a31, a32, a33, a34⟩ := id V3
  obtain ⟨a40, a41, a42, a43, a44⟩ := id V4
  have H1 := Lib.hid V1
  have H2 := Lib.hid V2
  have H3 := Lib.hid V3
  have H4 := Lib.hid V4
  clear V1 V2 V3 V4
  go_wp2_with fail
  have hE := hB.alloc hB.size (.cells #[.int .i64 3, .int .u64 202] 24)
  refine (cCof _ (HST.out.next hE)).mono ?_
  rintro e w8 ⟨rfl, hb⟩
  clear hE
  have V1 := H1.out.box hb
  have V2 := H2.out.box hb
  have V3 := H3.out.box hb
  have V4 := H4.out.box hb
  have V5 := tabI_box hb
  have hB' := below_nxtb hB hb
  clear hb hB a10 a11 a12 a13 a14 H1 a20 a21 a22 a23 a24 H2 a30 a31 a32 a33 a34 H3 a40 a41 a42 a43 a44 H4
  have hB := hB'
  clear hB'
  have n8_1 : w1.heap.size < w8.heap.size := V1.1
  have n8_2 : w2.heap.size < w8.heap.size := V2.1
  have n8_3 : w3.heap.size < w8.heap.size := V3.1
  have n8_4 : w4.heap.size < w8.heap.size := V4.1
  have n8_5 : w7.heap.size < w8.heap.size := V5.1
  obtain ⟨a10, a11, a12, a13, a14⟩ := id V1
  obtain ⟨a20, a21, a22, a23, a24⟩ := id V2
  obtain ⟨a30, a31, a32, a33, a34⟩ := id V3
  obtain ⟨a40, a41, a42, a43, a44⟩ := id V4
  obtain ⟨a50, a51, a52, a53, a54⟩ := id V5
  have H1 := Lib.hid V1
  have H2 := Lib.hid V2
  have H3 := Lib.hid V3
  have H4 := Lib.hid V4
  have H5 := Lib.hid V5
  clear V1 V2 V3 V4 V5
  go_wp2_with fail
  have hE := hB.alloc hB.size (.cells #[.int .i64 3, .int .u64 204] 24)
  refine (cText3 _ (HST.out.next hE)).mono ?_
  rintro e w9 ⟨rfl, hb⟩
  clear hE
  have V1 := H1.out.box hb
  have V2 := H2.out.box hb
  have V3 := H3.out.box hb
  have V4 := H4.out.box hb
  have V5 := H5.out.box hb
  have V6 := tabI_box hb
  have hB' := below_nxtb hB hb
  clear hb hB a10 a11 a12 a13 a14 H1 a20 a21 a22 a23 a24 H2 a30 a31 a32 a33 a34 H3 a40 a41 a42 a43 a44 H4 a50 a51 a52 a53 a54 H5
  have hB := hB'
  clear hB'
  obtain ⟨a10, a11, a12, a13, a14⟩ := id V1
  obtain ⟨a20, a21, a22, a23, a24⟩ := id V2
  obtain ⟨a30, a31, a32, a33, a34⟩ := id V3
  obtain ⟨a40, a41, a42, a43, a44⟩ := id V4
  obtain ⟨a50, a51, a52, a53, a54⟩ := id V5
  obtain ⟨a60, a61, a62, a63, a64⟩ := id V6
  have H1 := Lib.hid V1
  have H2 := Lib.hid V2
  have H3 := Lib.hid V3
  have H4 := Lib.hid V4
  have H5 := Lib.hid V5
  have H6 := Lib.hid V6
  clear V1 V2 V3 V4 V5 V6
  go_wp2_with fail
  have hE := hB
  refine (cUna _ (HST.out.next hE)).mono ?_
  rintro e w10 ⟨rfl, hb⟩
  clear hE
  have V1 := H1.out.step hb
  have V2 := H2.out.step hb
  have V3 := H3.out.step hb
  have V4 := H4.out.step hb
  have V5 := H5.out.step hb
  have V6 := H6.out.step hb
  have hB' := below_nxt hB hb
  clear hb hB a10 a11 a12 a13 a14 H1 a20 a21 a22 a23 a24 H2 a30 a31 a32 a33 a34 H3 a40 a41 a42 a43 a44 H4 a50 a51 a52 a53 a54 H5 a60 a61 a62 a63 a64 H6
  have hB := hB'
  clear hB'
  obtain ⟨a10, a11, a12, a13, a14⟩ := id V1
  obtain ⟨a20, a21, a22, a23, a24⟩ := id V2
  obtain ⟨a30, a31, a32, a33, a34⟩ := id V3
  obtain ⟨a40, a41, a42, a43, a44⟩ := id V4
  obtain ⟨a50, a51, a52, a53, a54⟩ := id V5
  obtain ⟨a60, a61, a62, a63, a64⟩ := id V6
  have H1 := Lib.hid V1
  have H2 := Lib.hid V2
  have H3 := Lib.hid V3
  have H4 := Lib.hid V4
  have H5 := Lib.hid V5
  have H6 := Lib.hid V6
  clear V1 V2 V3 V4 V5 V6
  go_wp2
  go_ret
  exact ⟨rfl, hB⟩

end Go.Proofs.YtmmcakeedejbnaaDoor
