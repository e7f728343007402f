/- The call of the statement TruthMakes. -/
import Derived.Test.YtmmcakeedejbnaaDoorVq
import Derived.Test.YtmmcakeedejbnaaDoorUz
namespace Go.Proofs.YtmmcakeedejbnaaDoor
open Go.RowKit

set_option maxRecDepth 100000 in
set_option maxHeartbeats 4000000 in
theorem lawMakes_any (m : Int) (b : Nat) (n i : Int) (w : World) (hst : St w) (hb : b < 2 ^ 64) :
    Calls Tryd.prog 3 #[.agg #[.int .i64 m, .int .u64 b], .int .i64 n, .int .i64 i] w fun e w' => e = .returned (.bool true) ∧ Below w.heap.size w w' := by
  have HST := Lib.hid hst
  clear hst
  have C1 := fun W => Lib.hid (tConst_any n (i.tmod 2 == 0) W)
  have C2 := fun W => Lib.hid (rConst_any n (i.tmod 2 == 0) W)
  generalize Tt.constV n (i.tmod 2 == 0) = r1 at *
  obtain ⟨⟨x1, y1⟩, z1⟩ := r1
  have C3 := fun W h => Lib.hid (tVar_any n i W h)
  have C4 := fun W => Lib.hid (rVar_any n i W)
  generalize Tt.varV n i = r2 at *
  obtain ⟨⟨x2, y2⟩, z2⟩ := r2
  have C5 := fun W => Lib.hid (tValue_any m b i W hb)
  have C6 := fun W => Lib.hid (rValue_any m b i W hb)
  generalize Tt.valV m b i = r3 at *
  obtain ⟨v3, z3⟩ := r3
  have C7 := fun W h => Lib.hid (tPts_any m b W hb h)
  have C8 := fun W => Lib.hid (rPts_any m b W hb)
  have HL : Hid ((Tt.ptsL m b).length ≤ 1048576) := Lib.hid (by have := Tt.ptsL_len m b; omega)
  have C9 := fun W => Lib.hid (tCheck_any m b W hb)
  have C10 := fun W => Lib.hid (rCheck_any m b W hb)
  simp only [] at C1 C2 C3 C4 C5 C6
  generalize Tt.ptsL m b = l at *
  generalize Tt.chk m b = k at *
  obtain ⟨P0, L0, z0⟩ := tab1_new w m b 24
  clear hb
  go_enter Tryd.func3, Tryd.ntmps3
  go_wp2_with fail
  refine ((C1 _).out).mono ?_
  rintro e w1 ⟨rfl, hb⟩
  have hz := hb.size
  have V1 := P0.below (by simp <;> omega) hb
  have hB := L0.trans (hb.mono (by simp <;> omega))
  clear hb P0 L0
  have n1_1 : w.heap.size < w1.heap.size := V1.1
  obtain ⟨a10, a11, a12, a13, a14⟩ := id V1
  have H1 := Lib.hid V1
  clear V1
  go_wp2_with fail
  refine ((C2 _).out).mono ?_
  rintro e w2 ⟨rfl, hb⟩
  have V1 := H1.out.box hb
  have V2 := tabI_box hb
  have hB' := below_nxtb hB hb
  clear hb hB a10 a11 a12 a13 a14 H1
  have hB := hB'
  clear hB'
  have n2_1 : w.heap.size < w2.heap.size := V1.1
  have n2_2 : w1.heap.size < w2.heap.size := V2.1
  obtain ⟨a10, a11, a12, a13, a14⟩ := id V1
  obtain ⟨a20, a21, a22, a23, a24⟩ := id V2
  have H1 := Lib.hid V1
  have H2 := Lib.hid V2
  clear V1 V2
  go_wp2_with fail
  have hE := hB.alloc hB.size (.cells #[.int .i64 x1, .int .u64 y1] 24)
  refine ((C3 _ (HST.out.next hE)).out).mono ?_
  rintro e w3 ⟨rfl, hb⟩
  clear hE
  have V1 := H1.out.box hb
  have V2 := H2.out.box hb
  have V3 := tabI_box hb
  have hB' := below_nxtb hB hb
  clear hb hB a10 a11 a12 a13 a14 H1 a20 a21 a22 a23 a24 H2
  have hB := hB'
  clear hB'
  have n3_1 : w.heap.size < w3.heap.size := V1.1
  have n3_2 : w1.heap.size < w3.heap.size := V2.1
  have n3_3 : w2.heap.size < w3.heap.size := V3.1
  obtain ⟨a10, a11, a12, a13, a14⟩ := id V1
  obtain ⟨a20, a21, a22, a23, a24⟩ := id V2
  obtain ⟨a30, a31, a32, a33, a34⟩ := id V3
  have H1 := Lib.hid V1
  have H2 := Lib.hid V2
  have H3 := Lib.hid V3
  clear V1 V2 V3
  go_wp2_with fail
  refine ((C4 _).out).mono ?_
  rintro e w4 ⟨rfl, hb⟩
  have V1 := H1.out.box hb
  have V2 := H2.out.box hb
  have V3 := H3.out.box hb
  have V4 := tabI_box hb
  have hB' := below_nxtb hB hb
  clear hb hB a10 a11 a12 a13 a14 H1 a20 a21 a22 a23 a24 H2 a30 a31 a32 a33 a34 H3
  have hB := hB'
  clear hB'
  have n4_1 : w.heap.size < w4.heap.size := V1.1
  have n4_2 : w1.heap.size < w4.heap.size := V2.1
  have n4_3 : w2.heap.size < w4.heap.size := V3.1
  have n4_4 : w3.heap.size < w4.heap.size := V4.1
  obtain ⟨a10, a11, a12, a13, a14⟩ := id V1
  obtain ⟨a20, a21, a22, a23, a24⟩ := id V2
  obtain ⟨a30, a31, a32, a33, a34⟩ := id V3
  obtain ⟨a40, a41, a42, a43, a44⟩ := id V4
  have H1 := Lib.hid V1
  have H2 := Lib.hid V2
  have H3 := Lib.hid V3
  have H4 := Lib.hid V4
  clear V1 V2 V3 V4
  go_wp2_with fail
  refine ((C5 _).out).mono ?_
  rintro e w5 ⟨rfl, hb⟩
  have V1 := H1.out.box hb
  have V2 := H2.out.box hb
  have V3 := H3.out.box hb
  have V4 := H4.out.box hb
  have V5 := tabI_box hb
  have hB' := below_nxtb hB hb
  clear hb hB a10 a11 a12 a13 a14 H1 a20 a21 a22 a23 a24 H2 a30 a31 a32 a33 a34 H3 a40 a41 a42 a43 a44 H4
  have hB := hB'
  clear hB'
  obtain ⟨a10, a11, a12, a13, a14⟩ := id V1
  obtain ⟨a20, a21, a22, a23, a24⟩ := id V2
  obtain ⟨a30, a31, a32, a33, a34⟩ := id V3
  obtain ⟨a40, a41, a42, a43, a44⟩ := id V4
  obtain ⟨a50, a51, a52, a53, a54⟩ := id V5
  have H1 := Lib.hid V1
  have H2 := Lib.hid V2
  have H3 := Lib.hid V3
  have H4 := Lib.hid V4
  have H5 := Lib.hid V5
  clear V1 V2 V3 V4 V5
  go_wp2_with fail
  refine ((C6 _).out).mono ?_
  rintro e w6 ⟨rfl, hb⟩
  have V1 := H1.out.step hb
  have V2 := H2.out.step hb
  have V3 := H3.out.step hb
  have V4 := H4.out.step hb
  have V5 := H5.out.step hb
  have hB' := below_nxt hB hb
  clear hb hB a10 a11 a12 a13 a14 H1 a20 a21 a22 a23 a24 H2 a30 a31 a32 a33 a34 H3 a40 a41 a42 a43 a44 H4 a50 a51 a52 a53 a54 H5
  have hB := hB'
  clear hB'
  obtain ⟨a10, a11, a12, a13, a14⟩ := id V1
  obtain ⟨a20, a21, a22, a23, a24⟩ := id V2
  obtain ⟨a30, a31, a32, a33, a34⟩ := id V3
  obtain ⟨a40, a41, a42, a43, a44⟩ := id V4
  obtain ⟨a50, a51, a52, a53, a54⟩ := id V5
  have H1 := Lib.hid V1
  have H2 := Lib.hid V2
  have H3 := Lib.hid V3
  have H4 := Lib.hid V4
  have H5 := Lib.hid V5
  clear V1 V2 V3 V4 V5
  go_wp2_with fail
  have hE := hB
  refine ((C7 _ (HST.out.next hE)).out).mono ?_
  rintro e w7 ⟨u3, rfl, hs7, hb⟩
  clear hE
  have V1 := H1.out.step hb
  have V2 := H2.out.step hb
  have V3 := H3.out.step hb
  have V4 := H4.out.step hb
  have V5 := H5.out.step hb
  have hB' := below_nxt hB hb
  clear hb hB a10 a11 a12 a13 a14 H1 a20 a21 a22 a23 a24 H2 a30 a31 a32 a33 a34 H3 a40 a41 a42 a43 a44 H4 a50 a51 a52 a53 a54 H5
  have hB := hB'
  clear hB'
  obtain ⟨a10, a11, a12, a13, a14⟩ := id V1
  obtain ⟨a20, a21, a22, a23, a24⟩ := id V2
  obtain ⟨a30, a31, a32, a33, a34⟩ := id V3
  obtain ⟨a40, a41, a42, a43, a44⟩ := id V4
  obtain ⟨a50, a51, a52, a53, a54⟩ := id V5
  have H1 := Lib.hid V1
  have H2 := Lib.hid V2
  have H3 := Lib.hid V3
  have H4 := Lib.hid V4
  have H5 := Lib.hid V5
  clear V1 V2 V3 V4 V5
  go_wp2_with fail
  refine ((C8 _).out).mono ?_
  rintro e w8 ⟨u4, rfl, hs8, hb⟩
  have V1 := H1.out.step hb
  have V2 := H2.out.step hb
  have V3 := H3.out.step hb
  have V4 := H4.out.step hb
  have V5 := H5.out.step hb
  have hB' := below_nxt hB hb
  have hs7' := hs7.below (hb) (Nat.le_refl _)
  clear hs7
  have hs7 := hs7'
  clear hs7'
  clear hb hB a10 a11 a12 a13 a14 H1 a20 a21 a22 a23 a24 H2 a30 a31 a32 a33 a34 H3 a40 a41 a42 a43 a44 H4 a50 a51 a52 a53 a54 H5
  have hB := hB'
  clear hB'
  obtain ⟨a10, a11, a12, a13, a14⟩ := id V1
  obtain ⟨a20, a21, a22, a23, a24⟩ := id V2
  obtain ⟨a30, a31, a32, a33, a34⟩ := id V3
  obtain ⟨a40, a41, a42, a43, a44⟩ := id V4
  obtain ⟨a50, a51, a52, a53, a54⟩ := id V5
  have H1 := Lib.hid V1
  have H2 := Lib.hid V2
  have H3 := Lib.hid V3
  have H4 := Lib.hid V4
  have H5 := Lib.hid V5
  clear V1 V2 V3 V4 V5
  go_wp2
  have hBx : Below w8.heap.size w8 w8.drew := (Below.refl _ _).drew
  have KS := Lib.hid (And.intro hs7 hs8)
  clear hs7 hs8
  go_region_held3 (fun W => (((((((((W.cell? ⟨w.heap.size, 0, none⟩ = some (.int .i64 m)) ∧ W.cell? ⟨w.heap.size, 1, none⟩ = some (.int .u64 b)) ∧ W.cell? ⟨w1.heap.size, 0, none⟩ = some (.int .i64 x1)) ∧ W.cell? ⟨w1.heap.size, 1, none⟩ = some (.int .u64 y1)) ∧ W.cell? ⟨w2.heap.size, 0, none⟩ = some (.int .i64 x1)) ∧ W.cell? ⟨w2.heap.size, 1, none⟩ = some (.int .u64 y1)) ∧ W.cell? ⟨w3.heap.size, 0, none⟩ = some (.int .i64 x2)) ∧ W.cell? ⟨w3.heap.size, 1, none⟩ = some (.int .u64 y2)) ∧ W.cell? ⟨w4.heap.size, 0, none⟩ = some (.int .i64 x2)) ∧ W.cell? ⟨w4.heap.size, 1, none⟩ = some (.int .u64 y2))
    (first | (go_split_ands; refine ⟨⟨⟨⟨⟨⟨⟨⟨⟨?_, ?_⟩, ?_⟩, ?_⟩, ?_⟩, ?_⟩, ?_⟩, ?_⟩, ?_⟩, ?_⟩ <;> (exact (hBx.cell (by dsimp only <;> omega)).trans (by assumption))) | go_keep)
    (first
      | (go_at_call 19; (with_reducible refine ((C9 _).out).mono ?_); rintro e v ⟨rfl, hb⟩; have hBx' := below_nxt hBx hb; clear hBx hb; have hBx := hBx'; clear hBx')
      | (go_at_call 20; (with_reducible refine ((C10 _).out).mono ?_); rintro e v ⟨rfl, hb⟩; have hBx' := below_nxt hBx hb; clear hBx hb; have hBx := hBx'; clear hBx')
      | (go_at_call 21; refine (sEqual_any u3 u4 l _ HL.out (KS.out.1.below hBx (Nat.le_refl _)) (KS.out.2.below hBx (Nat.le_refl _))).mono ?_; rintro e v' ⟨rfl, q, rfl⟩; have hBx' := hBx.trans (below_drewN _ q); clear hBx; have hBx := hBx'; clear hBx')
      | (go_at_call 22; refine (awake_any _ (HST.out.next (hB.trans (hBx.mono hB.size)))).mono ?_; rintro e v ⟨rfl, hb⟩; have hBx' := below_nxt hBx hb; clear hBx hb; have hBx := hBx'; clear hBx'))
  go_wp2
  go_ret
  exact ⟨rfl, hB.trans (hBx.mono hB.size)⟩

end Go.Proofs.YtmmcakeedejbnaaDoor
