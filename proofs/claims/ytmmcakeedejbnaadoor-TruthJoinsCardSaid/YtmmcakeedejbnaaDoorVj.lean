/- The call of the statement TruthJoins. -/
import Derived.Test.YtmmcakeedejbnaaDoorUz
import Derived.Laws.EntriesVeiled
namespace Go.Proofs.YtmmcakeedejbnaaDoor
open Go.RowKit

/-- The functions of the list. -/
def FnI (W : World) (S : Nat) : Prop := S < W.heap.size ∧ W.cell? ⟨S, 0, none⟩ = some (.func (.func 25) #[] #[]) ∧ W.cell? ⟨S, 1, none⟩ = some (.func (.func 26) #[] #[]) ∧ W.cell? ⟨S, 2, none⟩ = some (.func (.func 27) #[] #[]) ∧ W.cell? ⟨S, 3, none⟩ = some (.func (.func 28) #[] #[]) ∧ W.cell? ⟨S, 4, none⟩ = some (.func (.func 29) #[] #[]) ∧ W.cell? ⟨S, 5, none⟩ = some (.func (.func 30) #[] #[])
theorem FnI.below {W W' : World} {S B : Nat} (h : FnI W S) (hB : S < B) (hb : Below B W W') : FnI W' S := by
  obtain ⟨h0, h1, h2, h3, h4, h5, h6⟩ := h
  exact ⟨Nat.lt_of_lt_of_le h0 hb.size, (hb.cell (p := ⟨S, 0, none⟩) hB).trans h1, (hb.cell (p := ⟨S, 1, none⟩) hB).trans h2, (hb.cell (p := ⟨S, 2, none⟩) hB).trans h3, (hb.cell (p := ⟨S, 3, none⟩) hB).trans h4, (hb.cell (p := ⟨S, 4, none⟩) hB).trans h5, (hb.cell (p := ⟨S, 5, none⟩) hB).trans h6⟩
theorem FnI.step {W W' : World} {S : Nat} (h : FnI W S) (hb : Below W.heap.size W W') : FnI W' S := h.below h.1 hb
theorem FnI.box {W W' : World} {S : Nat} {o : Obj} (h : FnI W S) (hb : Below (W.alloc o).heap.size (W.alloc o) W') : FnI W' S :=
  (h.below h.1 ((Below.refl _ _).alloc (Nat.le_refl _) o)).below (by simp; have := h.1; omega) hb
theorem fnI_new (W : World) (T : TypeId) : FnI (W.alloc (.cells #[.func (.func 25) #[] #[], .func (.func 26) #[] #[], .func (.func 27) #[] #[], .func (.func 28) #[] #[], .func (.func 29) #[] #[], .func (.func 30) #[] #[]] T)) W.heap.size := by
  unfold FnI
  simp

set_option maxRecDepth 100000 in
set_option maxHeartbeats 4000000 in
theorem lawJoins_any (n : Int) (b : Nat) (m : Int) (c : Nat) (w : World) (hst : St w) (hb : b < 2 ^ 64) (hc : c < 2 ^ 64) :
    Calls Tryd.prog 4 #[.agg #[.int .i64 n, .int .u64 b], .agg #[.int .i64 m, .int .u64 c]] w fun e w' => e = .returned (.bool true) ∧ Below w.heap.size w w' := by
  have HST := Lib.hid hst
  clear hst
  have C1 := fun W => Lib.hid (tNot_any n b W hb)
  have C2 := fun W => Lib.hid (rNot_any n b W hb)
  generalize Tt.notV n b = r1 at *
  obtain ⟨⟨x1, y1⟩, z1⟩ := r1
  simp only [] at C1 C2
  have D1 := fun W => Lib.hid (tAnd_any n b m c W hb hc)
  have D2 := fun W => Lib.hid (rAnd_any n b m c W hb hc)
  generalize Tt.andV n b m c = r2 at *
  obtain ⟨⟨x2, y2⟩, z2⟩ := r2
  have D3 := fun W => Lib.hid (tOr_any n b m c W hb hc)
  have D4 := fun W => Lib.hid (rOr_any n b m c W hb hc)
  generalize Tt.orV n b m c = r3 at *
  obtain ⟨⟨x3, y3⟩, z3⟩ := r3
  have D5 := fun W => Lib.hid (tXor_any n b m c W hb hc)
  have D6 := fun W => Lib.hid (rXor_any n b m c W hb hc)
  generalize Tt.xorV n b m c = r4 at *
  obtain ⟨⟨x4, y4⟩, z4⟩ := r4
  simp only [] at D1 D2 D3 D4 D5 D6
  obtain ⟨P0, P1, L0, z0⟩ := tab2_new w n b m c 24
  clear hb hc
  go_enter Tryd.func4, Tryd.ntmps4
  go_wp2_with fail
  refine ((C1 _).out).mono ?_
  rintro e w1 ⟨rfl, hb⟩
  have hz := hb.size
  have V1 := P0.below (by simp <;> omega) hb
  have V2 := P1.below (by simp <;> omega) hb
  have hB := L0.trans (hb.mono (by simp <;> omega))
  clear hb P0 P1 L0
  have n1_1 : w.heap.size < w1.heap.size := V1.1
  have n1_2 : (w.heap.size + 1) < w1.heap.size := V2.1
  obtain ⟨a10, a11, a12, a13, a14⟩ := id V1
  obtain ⟨a20, a21, a22, a23, a24⟩ := id V2
  have H1 := Lib.hid V1
  have H2 := Lib.hid V2
  clear V1 V2
  go_wp2_with fail
  refine ((C2 _).out).mono ?_
  rintro e w2 ⟨rfl, hb⟩
  have V1 := H1.out.box hb
  have V2 := H2.out.box hb
  have V3 := tabI_box hb
  have hB' := below_nxtb hB hb
  clear hb hB a10 a11 a12 a13 a14 H1 a20 a21 a22 a23 a24 H2
  have hB := hB'
  clear hB'
  have n2_1 : w.heap.size < w2.heap.size := V1.1
  have n2_2 : (w.heap.size + 1) < w2.heap.size := V2.1
  have n2_3 : w1.heap.size < w2.heap.size := V3.1
  obtain ⟨a10, a11, a12, a13, a14⟩ := id V1
  obtain ⟨a20, a21, a22, a23, a24⟩ := id V2
  obtain ⟨a30, a31, a32, a33, a34⟩ := id V3
  have H1 := Lib.hid V1
  have H2 := Lib.hid V2
  have H3 := Lib.hid V3
  clear V1 V2 V3
  go_wp2
  have hs2 : w.heap.size + 2 ≤ w2.heap.size := by have := a20; omega
  have V1 := (H1.out.step ((Below.refl w2.heap.size w2).alloc (Nat.le_refl _) (.cells #[.int .i64 x1, .int .u64 y1] 24))).step ((Below.refl _ _).alloc (Nat.le_refl _) (.cells #[.func (.func 25) #[] #[], .func (.func 26) #[] #[], .func (.func 27) #[] #[], .func (.func 28) #[] #[], .func (.func 29) #[] #[], .func (.func 30) #[] #[]] 50))
  have V2 := (H2.out.step ((Below.refl w2.heap.size w2).alloc (Nat.le_refl _) (.cells #[.int .i64 x1, .int .u64 y1] 24))).step ((Below.refl _ _).alloc (Nat.le_refl _) (.cells #[.func (.func 25) #[] #[], .func (.func 26) #[] #[], .func (.func 27) #[] #[], .func (.func 28) #[] #[], .func (.func 29) #[] #[], .func (.func 30) #[] #[]] 50))
  have K0 := fnI_new (w2.alloc (.cells #[.int .i64 x1, .int .u64 y1] 24)) 50
  rw [World.size_alloc] at K0
  have hE := (hB.alloc hB.size (.cells #[.int .i64 x1, .int .u64 y1] 24)).alloc (by simp; omega) (.cells #[.func (.func 25) #[] #[], .func (.func 26) #[] #[], .func (.func 27) #[] #[], .func (.func 28) #[] #[], .func (.func 29) #[] #[], .func (.func 30) #[] #[]] 50)
  have hS : w.heap.size + 2 ≤ w2.heap.size + 1 := by omega
  clear hB H1 H2 H3 a11 a12 a13 a14 a21 a22 a23 a24 a31 a32 a33 a34
  generalize w2.heap.size + 1 = S at *
  go_loopw [38] (fun s38 wr => ∃ j : Nat, j ≤ 3 ∧ s38 = .int .i64 j ∧ TabI wr w.heap.size n b ∧ TabI wr (w.heap.size + 1) m c ∧ FnI wr S ∧ Hid (Below w.heap.size w wr)) (fun s38 _ => 3 - (intOf s38).toNat)
  case atStart => exact ⟨0, by omega, rfl, V1, V2, K0, Lib.hid hE⟩
  case round =>
    clear V1 V2 K0 hE
    obtain ⟨j, hj, rfl, T0, T1, K, HW⟩ := hrel
    have hwb : w.heap.size ≤ wr.heap.size := HW.out.size
    obtain ⟨a00, a01, a02, a03, a04⟩ := id T0
    obtain ⟨a10, a11, a12, a13, a14⟩ := id T1
    rcases (show j = 0 ∨ j = 1 ∨ j = 2 ∨ j = 3 by omega) with rfl | rfl | rfl | rfl
    · obtain ⟨g0, g1, g2, g3, g4, g5, g6⟩ := id K
      go_wp2_with fail
      refine ((D1 _).out).mono ?_
      rintro e v1 ⟨rfl, hb⟩
      have zb := hb.size
      simp at zb
      have V1 := T0.box hb
      have V2 := T1.box hb
      have K' := K.box hb
      have o1 : v1.cell? ⟨wr.heap.size, 1, none⟩ = some (.func (.func 26) #[] #[]) := (hb.cell (p := ⟨wr.heap.size, 1, none⟩) (by simp)).trans (by simp)
      have HW' := Lib.hid (HW.out.trans ((Below.refl wr.heap.size wr).alloc (Nat.le_refl _) (.cells #[.func (.func 25) #[] #[], .func (.func 26) #[] #[]] 50) |>.mono hwb) |>.trans (hb.mono (by simp; omega)))
      clear hb T0 T1 K HW a00 a01 a02 a03 a04 a10 a11 a12 a13 a14 g0 g1 g2 g3 g4 g5 g6
      obtain ⟨a00, a01, a02, a03, a04⟩ := id V1
      obtain ⟨a10, a11, a12, a13, a14⟩ := id V2
      have n1 : wr.heap.size < v1.heap.size := by omega
      go_wp2_with fail
      refine ((D2 _).out).mono ?_
      rintro e v2 ⟨rfl, hb⟩
      have zb2 := hb.size
      simp at zb2
      have U1 := V1.box hb
      have U2 := V2.box hb
      have U3 := tabI_box hb
      have K2 := K'.box hb
      have HW2 := Lib.hid (HW'.out.trans ((Below.refl v1.heap.size v1).alloc (Nat.le_refl _) (.cells #[.int .i64 x2, .int .u64 y2] 24) |>.mono (show w.heap.size ≤ v1.heap.size by omega)) |>.trans (hb.mono (by simp; omega)))
      clear hb V1 V2 K' o1 HW' a00 a01 a02 a03 a04 a10 a11 a12 a13 a14
      obtain ⟨u0, u1, u2, u3, u4⟩ := id U3
      go_wp2
      go_roundw
      case rel => exact ⟨1, by omega, by go_num, U1.step ((Below.refl v2.heap.size v2).alloc (Nat.le_refl _) _), U2.step ((Below.refl v2.heap.size v2).alloc (Nat.le_refl _) _), K2.step ((Below.refl v2.heap.size v2).alloc (Nat.le_refl _) _), Lib.hid (HW2.out.alloc (by omega) _)⟩
      case measure => simp [intOf]
    · obtain ⟨g0, g1, g2, g3, g4, g5, g6⟩ := id K
      go_wp2_with fail
      refine ((D3 _).out).mono ?_
      rintro e v1 ⟨rfl, hb⟩
      have zb := hb.size
      simp at zb
      have V1 := T0.box hb
      have V2 := T1.box hb
      have K' := K.box hb
      have o1 : v1.cell? ⟨wr.heap.size, 1, none⟩ = some (.func (.func 28) #[] #[]) := (hb.cell (p := ⟨wr.heap.size, 1, none⟩) (by simp)).trans (by simp)
      have HW' := Lib.hid (HW.out.trans ((Below.refl wr.heap.size wr).alloc (Nat.le_refl _) (.cells #[.func (.func 27) #[] #[], .func (.func 28) #[] #[]] 50) |>.mono hwb) |>.trans (hb.mono (by simp; omega)))
      clear hb T0 T1 K HW a00 a01 a02 a03 a04 a10 a11 a12 a13 a14 g0 g1 g2 g3 g4 g5 g6
      obtain ⟨a00, a01, a02, a03, a04⟩ := id V1
      obtain ⟨a10, a11, a12, a13, a14⟩ := id V2
      have n1 : wr.heap.size < v1.heap.size := by omega
      go_wp2_with fail
      refine ((D4 _).out).mono ?_
      rintro e v2 ⟨rfl, hb⟩
      have zb2 := hb.size
      simp at zb2
      have U1 := V1.box hb
      have U2 := V2.box hb
      have U3 := tabI_box hb
      have K2 := K'.box hb
      have HW2 := Lib.hid (HW'.out.trans ((Below.refl v1.heap.size v1).alloc (Nat.le_refl _) (.cells #[.int .i64 x3, .int .u64 y3] 24) |>.mono (show w.heap.size ≤ v1.heap.size by omega)) |>.trans (hb.mono (by simp; omega)))
      clear hb V1 V2 K' o1 HW' a00 a01 a02 a03 a04 a10 a11 a12 a13 a14
      obtain ⟨u0, u1, u2, u3, u4⟩ := id U3
      go_wp2
      go_roundw
      case rel => exact ⟨2, by omega, by go_num, U1.step ((Below.refl v2.heap.size v2).alloc (Nat.le_refl _) _), U2.step ((Below.refl v2.heap.size v2).alloc (Nat.le_refl _) _), K2.step ((Below.refl v2.heap.size v2).alloc (Nat.le_refl _) _), Lib.hid (HW2.out.alloc (by omega) _)⟩
      case measure => simp [intOf]
    · obtain ⟨g0, g1, g2, g3, g4, g5, g6⟩ := id K
      go_wp2_with fail
      refine ((D5 _).out).mono ?_
      rintro e v1 ⟨rfl, hb⟩
      have zb := hb.size
      simp at zb
      have V1 := T0.box hb
      have V2 := T1.box hb
      have K' := K.box hb
      have o1 : v1.cell? ⟨wr.heap.size, 1, none⟩ = some (.func (.func 30) #[] #[]) := (hb.cell (p := ⟨wr.heap.size, 1, none⟩) (by simp)).trans (by simp)
      have HW' := Lib.hid (HW.out.trans ((Below.refl wr.heap.size wr).alloc (Nat.le_refl _) (.cells #[.func (.func 29) #[] #[], .func (.func 30) #[] #[]] 50) |>.mono hwb) |>.trans (hb.mono (by simp; omega)))
      clear hb T0 T1 K HW a00 a01 a02 a03 a04 a10 a11 a12 a13 a14 g0 g1 g2 g3 g4 g5 g6
      obtain ⟨a00, a01, a02, a03, a04⟩ := id V1
      obtain ⟨a10, a11, a12, a13, a14⟩ := id V2
      have n1 : wr.heap.size < v1.heap.size := by omega
      go_wp2_with fail
      refine ((D6 _).out).mono ?_
      rintro e v2 ⟨rfl, hb⟩
      have zb2 := hb.size
      simp at zb2
      have U1 := V1.box hb
      have U2 := V2.box hb
      have U3 := tabI_box hb
      have K2 := K'.box hb
      have HW2 := Lib.hid (HW'.out.trans ((Below.refl v1.heap.size v1).alloc (Nat.le_refl _) (.cells #[.int .i64 x4, .int .u64 y4] 24) |>.mono (show w.heap.size ≤ v1.heap.size by omega)) |>.trans (hb.mono (by simp; omega)))
      clear hb V1 V2 K' o1 HW' a00 a01 a02 a03 a04 a10 a11 a12 a13 a14
      obtain ⟨u0, u1, u2, u3, u4⟩ := id U3
      go_wp2
      go_roundw
      case rel => exact ⟨3, by omega, by go_num, U1.step ((Below.refl v2.heap.size v2).alloc (Nat.le_refl _) _), U2.step ((Below.refl v2.heap.size v2).alloc (Nat.le_refl _) _), K2.step ((Below.refl v2.heap.size v2).alloc (Nat.le_refl _) _), Lib.hid (HW2.out.alloc (by omega) _)⟩
      case measure => simp [intOf]
    · go_wp2_with fail
      refine (awake_any _ (HST.out.next HW.out)).mono ?_
      rintro e v1 ⟨rfl, hb⟩
      have hF := below_nxt HW.out hb
      go_wp2
      go_ret
      exact ⟨rfl, hF⟩

end Go.Proofs.YtmmcakeedejbnaaDoor
