/- The call of the statement TruthDepends. -/
import Derived.Test.YtmmcakeedejbnaaDoorUz
namespace Go.Proofs.YtmmcakeedejbnaaDoor
open Go.RowKit

set_option maxRecDepth 100000 in
set_option maxHeartbeats 4000000 in
theorem lawDepends_any (n : Int) (b : Nat) (i : Int) (v : Bool) (w : World) (hst : St w) (hb : b < 2 ^ 64) :
    Calls Tryd.prog 5 #[.agg #[.int .i64 n, .int .u64 b], .int .i64 i, .bool v] w fun e w' => e = .returned (.bool true) ∧ Below w.heap.size w w' := by
  have HST := Lib.hid hst
  clear hst
  have C1 := fun W h => Lib.hid (tCofactor_any n b i v W hb h)
  have C2 := fun W => Lib.hid (rCofactor_any n b i v W hb)
  generalize cofV n b i v = r1 at *
  obtain ⟨⟨x1, y1⟩, z1⟩ := r1
  simp only [] at C1 C2
  have C3 := fun W h => Lib.hid (tDepends_any n b W hb h)
  have C4 := fun W => Lib.hid (rDepends_any n b W hb)
  have hl := depL_len n b
  have HL : Hid ((depL n b).length ≤ 1048576) := Lib.hid (by omega)
  clear hl
  generalize depL n b = l at *
  generalize Tt.chk n b = k at *
  have C5 := fun W h => Lib.hid (tUnate_any n b i W hb h)
  have C6 := fun W => Lib.hid (rUnate_any n b i W hb)
  generalize unaV n b i = r2 at *
  obtain ⟨⟨s1, s2⟩, z2⟩ := r2
  simp only [] at C5 C6
  obtain ⟨P0, L0, z0⟩ := tab1_new w n b 24
  clear hb
  go_enter Tryd.func5, Tryd.ntmps5
  go_wp2_with fail
  refine ((C1 _ (HST.out.next L0)).out).mono ?_
  rintro e w1 ⟨rfl, hb⟩
  have hz := hb.size
  have V1 := P0.below (by simp <;> omega) hb
  have hB := L0.trans (hb.mono (by simp <;> omega))
  clear hb P0 L0
  have n1_1 : w.heap.size < w1.heap.size := V1.1
  obtain ⟨a10, a11, a12, a13, a14⟩ := id V1
  have H1 := Lib.hid V1
  clear V1
  go_wp2_with fail
  refine ((C2 _).out).mono ?_
  rintro e w2 ⟨rfl, hb⟩
  have V1 := H1.out.box hb
  have V2 := tabI_box hb
  have hB' := below_nxtb hB hb
  clear hb hB a10 a11 a12 a13 a14 H1
  have hB := hB'
  clear hB'
  have n2_1 : w.heap.size < w2.heap.size := V1.1
  have n2_2 : w1.heap.size < w2.heap.size := V2.1
  obtain ⟨a10, a11, a12, a13, a14⟩ := id V1
  obtain ⟨a20, a21, a22, a23, a24⟩ := id V2
  have H1 := Lib.hid V1
  have H2 := Lib.hid V2
  clear V1 V2
  go_wp2_with fail
  have hE := hB.alloc hB.size (.cells #[.int .i64 x1, .int .u64 y1] 24)
  refine ((C3 _ (HST.out.next hE)).out).mono ?_
  rintro e w3 ⟨u3, rfl, hs3, hb⟩
  clear hE
  have V1 := H1.out.box hb
  have V2 := H2.out.box hb
  have V3 := tabI_box hb
  have hB' := below_nxtb hB hb
  clear hb hB a10 a11 a12 a13 a14 H1 a20 a21 a22 a23 a24 H2
  have hB := hB'
  clear hB'
  obtain ⟨a10, a11, a12, a13, a14⟩ := id V1
  obtain ⟨a20, a21, a22, a23, a24⟩ := id V2
  obtain ⟨a30, a31, a32, a33, a34⟩ := id V3
  have H1 := Lib.hid V1
  have H2 := Lib.hid V2
  have H3 := Lib.hid V3
  clear V1 V2 V3
  go_wp2_with fail
  refine ((C4 _).out).mono ?_
  rintro e w4 ⟨u4, rfl, hs4, hb⟩
  have V1 := H1.out.step hb
  have V2 := H2.out.step hb
  have V3 := H3.out.step hb
  have hB' := below_nxt hB hb
  have hs3' := hs3.below (hb) (Nat.le_refl _)
  clear hs3
  have hs3 := hs3'
  clear hs3'
  clear hb hB a10 a11 a12 a13 a14 H1 a20 a21 a22 a23 a24 H2 a30 a31 a32 a33 a34 H3
  have hB := hB'
  clear hB'
  obtain ⟨a10, a11, a12, a13, a14⟩ := id V1
  obtain ⟨a20, a21, a22, a23, a24⟩ := id V2
  obtain ⟨a30, a31, a32, a33, a34⟩ := id V3
  have H1 := Lib.hid V1
  have H2 := Lib.hid V2
  have H3 := Lib.hid V3
  clear V1 V2 V3
  go_wp2_with fail
  have hE := hB
  refine ((C5 _ (HST.out.next hE)).out).mono ?_
  rintro e w5 ⟨rfl, hb⟩
  clear hE
  have V1 := H1.out.step hb
  have V2 := H2.out.step hb
  have V3 := H3.out.step hb
  have hB' := below_nxt hB hb
  have hs3' := hs3.below (hb) (Nat.le_refl _)
  clear hs3
  have hs3 := hs3'
  clear hs3'
  have hs4' := hs4.below (hb) (Nat.le_refl _)
  clear hs4
  have hs4 := hs4'
  clear hs4'
  clear hb hB a10 a11 a12 a13 a14 H1 a20 a21 a22 a23 a24 H2 a30 a31 a32 a33 a34 H3
  have hB := hB'
  clear hB'
  obtain ⟨a10, a11, a12, a13, a14⟩ := id V1
  obtain ⟨a20, a21, a22, a23, a24⟩ := id V2
  obtain ⟨a30, a31, a32, a33, a34⟩ := id V3
  have H1 := Lib.hid V1
  have H2 := Lib.hid V2
  have H3 := Lib.hid V3
  clear V1 V2 V3
  go_wp2_with fail
  refine ((C6 _).out).mono ?_
  rintro e w6 ⟨rfl, hb⟩
  have V1 := H1.out.step hb
  have V2 := H2.out.step hb
  have V3 := H3.out.step hb
  have hB' := below_nxt hB hb
  have hs3' := hs3.below (hb) (Nat.le_refl _)
  clear hs3
  have hs3 := hs3'
  clear hs3'
  have hs4' := hs4.below (hb) (Nat.le_refl _)
  clear hs4
  have hs4 := hs4'
  clear hs4'
  clear hb hB a10 a11 a12 a13 a14 H1 a20 a21 a22 a23 a24 H2 a30 a31 a32 a33 a34 H3
  have hB := hB'
  clear hB'
  obtain ⟨a10, a11, a12, a13, a14⟩ := id V1
  obtain ⟨a20, a21, a22, a23, a24⟩ := id V2
  obtain ⟨a30, a31, a32, a33, a34⟩ := id V3
  have H1 := Lib.hid V1
  have H2 := Lib.hid V2
  have H3 := Lib.hid V3
  clear V1 V2 V3
  go_wp2_with fail
  refine (sEqual_any u3 u4 l _ HL.out hs3 hs4).mono ?_
  rintro e wE ⟨rfl, q, rfl⟩
  have hE := hB.trans (below_drewN w6 q)
  go_wp2_with fail
  refine (awake_any _ (HST.out.next hE)).mono ?_
  rintro e wz ⟨rfl, hb⟩
  have hF := below_nxt hE hb
  go_wp2
  go_ret
  exact ⟨rfl, hF⟩

end Go.Proofs.YtmmcakeedejbnaaDoor
