/- The call of the statement TruthAlgebra, as a whole. -/
import Derived.Test.YtmmcakeedejbnaaDoorVb
namespace Go.Proofs.YtmmcakeedejbnaaDoor
open Go.RowKit

set_option maxRecDepth 100000 in
set_option maxHeartbeats 4000000 in
theorem algebra_other (n : Int) (a : Nat) (m : Int) (b : Nat) (k : Int) (c : Nat) (w : World) (hst : St w) (ha : a < 2 ^ 64) (hb : b < 2 ^ 64) (hc : c < 2 ^ 64)
    (h : ¬ (Tt.chk n a = 0 ∧ Tt.chk m b = 0 ∧ Tt.chk k c = 0 ∧ n = m ∧ m = k)) :
    Calls Tryd.prog 8 #[.agg #[.int .i64 n, .int .u64 a], .agg #[.int .i64 m, .int .u64 b], .agg #[.int .i64 k, .int .u64 c]] w fun e w' => e = .returned (.bool true) ∧ Below w.heap.size w w' := by
  have HST := Lib.hid hst
  clear hst
  have C1 := fun W => Lib.hid (rCheck_any n a W ha)
  have C2 := fun W => Lib.hid (rCheck_any m b W hb)
  have C3 := fun W => Lib.hid (rCheck_any k c W hc)
  obtain ⟨P0, P1, P2, L0, z0⟩ := tab3_new w n a m b k c 24
  clear ha hb hc
  generalize Tt.chk n a = k1 at *
  generalize Tt.chk m b = k2 at *
  generalize Tt.chk k c = k3 at *
  by_cases h1 : k1 = 0
  · subst h1
    by_cases h2 : k2 = 0
    · subst h2
      by_cases h3 : k3 = 0
      · subst h3
        by_cases h4 : n = m
        · subst h4
          have h5 : ¬ n = k := fun e => h ⟨rfl, rfl, rfl, rfl, e⟩
          have g5 : (n != k) = true := by simpa using h5
          have g6 : (n == k) = false := by simpa using h5
          clear h
          go_enter Tryd.func8, Tryd.ntmps8
          go_wp2_with fail
          refine ((C1 _).out).mono ?_
          rintro e w1 ⟨rfl, hb⟩
          have hz := hb.size
          have V1 := P0.below (by simp <;> omega) hb
          have V2 := P1.below (by simp <;> omega) hb
          have V3 := P2.below (by simp <;> omega) hb
          have hB := L0.trans (hb.mono (by simp <;> omega))
          clear hb P0 P1 P2 L0
          obtain ⟨a10, a11, a12, a13, a14⟩ := id V1
          obtain ⟨a20, a21, a22, a23, a24⟩ := id V2
          obtain ⟨a30, a31, a32, a33, a34⟩ := id V3
          have H1 := Lib.hid V1
          have H2 := Lib.hid V2
          have H3 := Lib.hid V3
          clear V1 V2 V3
          go_wp2_with fail
          refine ((C2 _).out).mono ?_
          rintro e w2 ⟨rfl, hb⟩
          have V1 := H1.out.step hb
          have V2 := H2.out.step hb
          have V3 := H3.out.step hb
          have hB' := below_nxt hB hb
          clear hb hB a10 a11 a12 a13 a14 H1 a20 a21 a22 a23 a24 H2 a30 a31 a32 a33 a34 H3
          have hB := hB'
          clear hB'
          obtain ⟨a10, a11, a12, a13, a14⟩ := id V1
          obtain ⟨a20, a21, a22, a23, a24⟩ := id V2
          obtain ⟨a30, a31, a32, a33, a34⟩ := id V3
          have H1 := Lib.hid V1
          have H2 := Lib.hid V2
          have H3 := Lib.hid V3
          clear V1 V2 V3
          go_wp2_with fail
          refine ((C3 _).out).mono ?_
          rintro e w3 ⟨rfl, hb⟩
          have V1 := H1.out.step hb
          have V2 := H2.out.step hb
          have V3 := H3.out.step hb
          have hB' := below_nxt hB hb
          clear hb hB a10 a11 a12 a13 a14 H1 a20 a21 a22 a23 a24 H2 a30 a31 a32 a33 a34 H3
          have hB := hB'
          clear hB'
          obtain ⟨a10, a11, a12, a13, a14⟩ := id V1
          obtain ⟨a20, a21, a22, a23, a24⟩ := id V2
          obtain ⟨a30, a31, a32, a33, a34⟩ := id V3
          have H1 := Lib.hid V1
          have H2 := Lib.hid V2
          have H3 := Lib.hid V3
          clear V1 V2 V3
          go_wp2_with fail
          have hE := hB
          refine (awake_any _ (HST.out.next hE)).mono ?_
          rintro e wz ⟨rfl, hb⟩
          have hF := below_nxt hE hb
          go_wp2
          go_ret
          exact ⟨rfl, hF⟩
        · have g5 : (n != m) = true := by simpa using h4
          have g6 : (n == m) = false := by simpa using h4
          clear h
          go_enter Tryd.func8, Tryd.ntmps8
          go_wp2_with fail
          refine ((C1 _).out).mono ?_
          rintro e w1 ⟨rfl, hb⟩
          have hz := hb.size
          have V1 := P0.below (by simp <;> omega) hb
          have V2 := P1.below (by simp <;> omega) hb
          have V3 := P2.below (by simp <;> omega) hb
          have hB := L0.trans (hb.mono (by simp <;> omega))
          clear hb P0 P1 P2 L0
          obtain ⟨a10, a11, a12, a13, a14⟩ := id V1
          obtain ⟨a20, a21, a22, a23, a24⟩ := id V2
          obtain ⟨a30, a31, a32, a33, a34⟩ := id V3
          have H1 := Lib.hid V1
          have H2 := Lib.hid V2
          have H3 := Lib.hid V3
          clear V1 V2 V3
          go_wp2_with fail
          refine ((C2 _).out).mono ?_
          rintro e w2 ⟨rfl, hb⟩
          have V1 := H1.out.step hb
          have V2 := H2.out.step hb
          have V3 := H3.out.step hb
          have hB' := below_nxt hB hb
          clear hb hB a10 a11 a12 a13 a14 H1 a20 a21 a22 a23 a24 H2 a30 a31 a32 a33 a34 H3
          have hB := hB'
          clear hB'
          obtain ⟨a10, a11, a12, a13, a14⟩ := id V1
          obtain ⟨a20, a21, a22, a23, a24⟩ := id V2
          obtain ⟨a30, a31, a32, a33, a34⟩ := id V3
          have H1 := Lib.hid V1
          have H2 := Lib.hid V2
          have H3 := Lib.hid V3
          clear V1 V2 V3
          go_wp2_with fail
          refine ((C3 _).out).mono ?_
          rintro e w3 ⟨rfl, hb⟩
          have V1 := H1.out.step hb
          have V2 := H2.out.step hb
          have V3 := H3.out.step hb
          have hB' := below_nxt hB hb
          clear hb hB a10 a11 a12 a13 a14 H1 a20 a21 a22 a23 a24 H2 a30 a31 a32 a33 a34 H3
          have hB := hB'
          clear hB'
          obtain ⟨a10, a11, a12, a13, a14⟩ := id V1
          obtain ⟨a20, a21, a22, a23, a24⟩ := id V2
          obtain ⟨a30, a31, a32, a33, a34⟩ := id V3
          have H1 := Lib.hid V1
          have H2 := Lib.hid V2
          have H3 := Lib.hid V3
          clear V1 V2 V3
          go_wp2_with fail
          have hE := hB
          refine (awake_any _ (HST.out.next hE)).mono ?_
          rintro e wz ⟨rfl, hb⟩
          have hF := below_nxt hE hb
          go_wp2
          go_ret
          exact ⟨rfl, hF⟩
      · have g5 : (k3 != 0) = true := by simpa using h3
        clear h
        go_enter Tryd.func8, Tryd.ntmps8
        go_wp2_with fail
        refine ((C1 _).out).mono ?_
        rintro e w1 ⟨rfl, hb⟩
        have hz := hb.size
        have V1 := P0.below (by simp <;> omega) hb
        have V2 := P1.below (by simp <;> omega) hb
        have V3 := P2.below (by simp <;> omega) hb
        have hB := L0.trans (hb.mono (by simp <;> omega))
        clear hb P0 P1 P2 L0
        obtain ⟨a10, a11, a12, a13, a14⟩ := id V1
        obtain ⟨a20, a21, a22, a23, a24⟩ := id V2
        obtain ⟨a30, a31, a32, a33, a34⟩ := id V3
        have H1 := Lib.hid V1
        have H2 := Lib.hid V2
        have H3 := Lib.hid V3
        clear V1 V2 V3
        go_wp2_with fail
        refine ((C2 _).out).mono ?_
        rintro e w2 ⟨rfl, hb⟩
        have V1 := H1.out.step hb
        have V2 := H2.out.step hb
        have V3 := H3.out.step hb
        have hB' := below_nxt hB hb
        clear hb hB a10 a11 a12 a13 a14 H1 a20 a21 a22 a23 a24 H2 a30 a31 a32 a33 a34 H3
        have hB := hB'
        clear hB'
        obtain ⟨a10, a11, a12, a13, a14⟩ := id V1
        obtain ⟨a20, a21, a22, a23, a24⟩ := id V2
        obtain ⟨a30, a31, a32, a33, a34⟩ := id V3
        have H1 := Lib.hid V1
        have H2 := Lib.hid V2
        have H3 := Lib.hid V3
        clear V1 V2 V3
        go_wp2_with fail
        refine ((C3 _).out).mono ?_
        rintro e w3 ⟨rfl, hb⟩
        have V1 := H1.out.step hb
        have V2 := H2.out.step hb
        have V3 := H3.out.step hb
        have hB' := below_nxt hB hb
        clear hb hB a10 a11 a12 a13 a14 H1 a20 a21 a22 a23 a24 H2 a30 a31 a32 a33 a34 H3
        have hB := hB'
        clear hB'
        obtain ⟨a10, a11, a12, a13, a14⟩ := id V1
        obtain ⟨a20, a21, a22, a23, a24⟩ := id V2
        obtain ⟨a30, a31, a32, a33, a34⟩ := id V3
        have H1 := Lib.hid V1
        have H2 := Lib.hid V2
        have H3 := Lib.hid V3
        clear V1 V2 V3
        go_wp2_with fail
        have hE := hB
        refine (awake_any _ (HST.out.next hE)).mono ?_
        rintro e wz ⟨rfl, hb⟩
        have hF := below_nxt hE hb
        go_wp2
        go_ret
        exact ⟨rfl, hF⟩
    · have g5 : (k2 != 0) = true := by simpa using h2
      clear h
      go_enter Tryd.func8, Tryd.ntmps8
      go_wp2_with fail
      refine ((C1 _).out).mono ?_
      rintro e w1 ⟨rfl, hb⟩
      have hz := hb.size
      have V1 := P0.below (by simp <;> omega) hb
      have V2 := P1.below (by simp <;> omega) hb
      have V3 := P2.below (by simp <;> omega) hb
      have hB := L0.trans (hb.mono (by simp <;> omega))
      clear hb P0 P1 P2 L0
      obtain ⟨a10, a11, a12, a13, a14⟩ := id V1
      obtain ⟨a20, a21, a22, a23, a24⟩ := id V2
      obtain ⟨a30, a31, a32, a33, a34⟩ := id V3
      have H1 := Lib.hid V1
      have H2 := Lib.hid V2
      have H3 := Lib.hid V3
      clear V1 V2 V3
      go_wp2_with fail
      refine ((C2 _).out).mono ?_
      rintro e w2 ⟨rfl, hb⟩
      have V1 := H1.out.step hb
      have V2 := H2.out.step hb
      have V3 := H3.out.step hb
      have hB' := below_nxt hB hb
      clear hb hB a10 a11 a12 a13 a14 H1 a20 a21 a22 a23 a24 H2 a30 a31 a32 a33 a34 H3
      have hB := hB'
      clear hB'
      obtain ⟨a10, a11, a12, a13, a14⟩ := id V1
      obtain ⟨a20, a21, a22, a23, a24⟩ := id V2
      obtain ⟨a30, a31, a32, a33, a34⟩ := id V3
      have H1 := Lib.hid V1
      have H2 := Lib.hid V2
      have H3 := Lib.hid V3
      clear V1 V2 V3
      go_wp2_with fail
      have hE := hB
      refine (awake_any _ (HST.out.next hE)).mono ?_
      rintro e wz ⟨rfl, hb⟩
      have hF := below_nxt hE hb
      go_wp2
      go_ret
      exact ⟨rfl, hF⟩
  · have g5 : (k1 != 0) = true := by simpa using h1
    clear h
    go_enter Tryd.func8, Tryd.ntmps8
    go_wp2_with fail
    refine ((C1 _).out).mono ?_
    rintro e w1 ⟨rfl, hb⟩
    have hz := hb.size
    have V1 := P0.below (by simp <;> omega) hb
    have V2 := P1.below (by simp <;> omega) hb
    have V3 := P2.below (by simp <;> omega) hb
    have hB := L0.trans (hb.mono (by simp <;> omega))
    clear hb P0 P1 P2 L0
    obtain ⟨a10, a11, a12, a13, a14⟩ := id V1
    obtain ⟨a20, a21, a22, a23, a24⟩ := id V2
    obtain ⟨a30, a31, a32, a33, a34⟩ := id V3
    have H1 := Lib.hid V1
    have H2 := Lib.hid V2
    have H3 := Lib.hid V3
    clear V1 V2 V3
    go_wp2_with fail
    have hE := hB
    refine (awake_any _ (HST.out.next hE)).mono ?_
    rintro e wz ⟨rfl, hb⟩
    have hF := below_nxt hE hb
    go_wp2
    go_ret
    exact ⟨rfl, hF⟩

theorem lawAlgebra_card (x0 y0 x1 y1 x2 y2 : Int) (W : World) (hst : St W) (_ : -9223372036854775808 ≤ x0) (_ : x0 ≤ 9223372036854775807) (h0 : 0 ≤ y0) (h1 : y0 ≤ 18446744073709551615) (_ : -9223372036854775808 ≤ x1) (_ : x1 ≤ 9223372036854775807) (h2 : 0 ≤ y1) (h3 : y1 ≤ 18446744073709551615) (_ : -9223372036854775808 ≤ x2) (_ : x2 ≤ 9223372036854775807) (h4 : 0 ≤ y2) (h5 : y2 ≤ 18446744073709551615) :
    Calls Tryd.prog 8 #[.agg #[.int .i64 x0, .int .u64 y0], .agg #[.int .i64 x1, .int .u64 y1], .agg #[.int .i64 x2, .int .u64 y2]] W fun e w' => e = .returned (.bool true) ∧ Below W.heap.size W w' := by
  obtain ⟨a, rfl⟩ := Int.eq_ofNat_of_zero_le h0
  obtain ⟨b, rfl⟩ := Int.eq_ofNat_of_zero_le h2
  obtain ⟨c, rfl⟩ := Int.eq_ofNat_of_zero_le h4
  by_cases h : Tt.chk x0 a = 0 ∧ Tt.chk x1 b = 0 ∧ Tt.chk x2 c = 0 ∧ x0 = x1 ∧ x1 = x2
  · obtain ⟨c1, c2, c3, rfl, rfl⟩ := h
    obtain ⟨n, rfl, hn, ha⟩ := chk_nat c1
    exact algebra_main n a b c W hst hn ha (by simpa using (Tt.chk_zero.1 c2).2.2) (by simpa using (Tt.chk_zero.1 c3).2.2)
  · exact algebra_other x0 a x1 b x2 c W hst (by omega) (by omega) (by omega) h

end Go.Proofs.YtmmcakeedejbnaaDoor
