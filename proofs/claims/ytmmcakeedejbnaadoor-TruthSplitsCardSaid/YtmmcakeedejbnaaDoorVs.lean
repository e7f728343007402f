/- The call of the statement TruthSplits. -/
import Derived.Test.YtmmcakeedejbnaaDoorUz
namespace Tt
theorem wth_wth : ∀ i, i < 6 → ∀ k, k < 64 → ∀ v u : Bool, wth (wth k i v) i u = wth k i u := by decide +kernel
theorem wth_64 : ∀ i, i < 6 → ∀ k, k < 64 → ∀ v : Bool, wth k i v < 64 := by decide +kernel
theorem wth_self : ∀ i, i < 6 → ∀ k, k < 64 → wth k i (k.testBit i) = k := by decide +kernel
theorem full_bit {n k : Nat} : (full n).testBit k = decide (k < 2 ^ n) := by unfold full; rw [Nat.testBit_two_pow_sub_one]
theorem not_bit {x k : Nat} (hx : x < 2 ^ 64) (hk : k < 64) : (18446744073709551615 - x).testBit k = !x.testBit k := by
  rw [show (18446744073709551615 : Nat) - x = 2 ^ 64 - (x + 1) by omega, Nat.testBit_two_pow_sub_succ (by omega)]
  simp [hk]
theorem full_fits (n : Nat) : full n < 2 ^ 2 ^ n := by
  have h2 : 0 < 2 ^ 2 ^ n := Nat.pow_pos (by omega)
  unfold full; omega
/-- A table is its cofactors, chosen by the variable. -/
theorem split {n b i : Nat} (hn : n ≤ 6) (hi' : i < n) (hb : b < 2 ^ 2 ^ n) :
    ((full n &&& (18446744073709551615 - (col i &&& full n))) &&& lo b i) ||| ((col i &&& full n) &&& hi b i) = b := by
  have h1 := lo_fits hn hi' hb
  have h2 := hi_fits hn hi' hb
  have hf := w64 hn (full_fits n)
  refine same (n := n) (Nat.or_lt_two_pow (Nat.lt_of_le_of_lt Nat.and_le_right h1) (Nat.lt_of_le_of_lt Nat.and_le_right h2)) hb fun k hk => ?_
  have hk64 : k < 64 := Nat.lt_of_lt_of_le hk (size_le hn)
  have hc := col_bit i (by omega) k hk64
  have hw := wth_self i (by omega) k hk64
  rw [Nat.testBit_or, Nat.testBit_and, Nat.testBit_and, Nat.testBit_and, Nat.testBit_and, not_bit (Nat.lt_of_le_of_lt Nat.and_le_right hf) hk64, Nat.testBit_and, hc, full_bit, lo_bit (by omega) hk64, hi_bit (by omega) hk64 (w64 hn hb)]
  cases hv : k.testBit i
  · rw [hv] at hw; rw [hw]; simp [hk]
  · rw [hv] at hw; rw [hw]; simp [hk]
theorem lo_free {n b i : Nat} (hn : n ≤ 6) (hi' : i < n) (hb : b < 2 ^ 2 ^ n) : lo (lo b i) i = hi (lo b i) i := by
  have h1 := lo_fits hn hi' hb
  refine same (n := n) (lo_fits hn hi' h1) (hi_fits hn hi' h1) fun k hk => ?_
  have hk64 : k < 64 := Nat.lt_of_lt_of_le hk (size_le hn)
  rw [lo_bit (by omega) hk64, hi_bit (by omega) hk64 (w64 hn h1), lo_bit (by omega) (wth_64 i (by omega) k hk64 _), lo_bit (by omega) (wth_64 i (by omega) k hk64 _), wth_wth i (by omega) k hk64, wth_wth i (by omega) k hk64]
end Tt
namespace Go.Proofs.YtmmcakeedejbnaaDoor
open Go.RowKit

/-- slices.Contains of a slice that reads as a list. -/
theorem sContains_any (v : Value) (l : List Nat) (x : Nat) (w : World) (hl : l.length ≤ 1048576) (h1 : Sees .i64 w v l) : Calls Tryd.prog 45 #[v, .int .i64 x] w fun e w' => e = .returned (.bool (inB l x)) ∧ w = w' := by
  rcases Nat.eq_zero_or_pos l.length with h0 | hp
  · obtain rfl := List.eq_nil_of_length_eq_zero h0
    obtain ⟨a1, c1, rfl, _, _⟩ := h1.form
    refine (Tryd.slices_Contains_int_empty a1 c1 x w).mono ?_
    rintro e w' ⟨rfl, rfl⟩
    exact ⟨rfl, rfl⟩
  · obtain ⟨b1, o1, c1, rfl, _, _, _, k1⟩ := h1.pos hp
    have e1 : ∀ j, (l.map (fun n : Nat => (n : Int))).getD j 0 = ((l.getD j 0 : Nat) : Int) := by
      intro j
      simp only [List.getD_eq_getElem?_getD, List.getElem?_map]
      cases l[j]? <;> simp
    refine (Tryd.slices_Contains_int b1 o1 l.length c1 (l.map fun n : Nat => (n : Int)) x w (by simp) (by omega) (fun j hj => by rw [e1]; exact k1 j (by simpa using hj))).mono ?_
    rintro e w' ⟨rfl, rfl⟩
    refine ⟨?_, rfl⟩
    have e2 : ((l.map fun n : Nat => (n : Int)).take l.length).contains (x : Int) = inB l x := by
      rw [List.take_of_length_le (by simp)]
      unfold inB
      rw [Bool.eq_iff_iff, List.contains_iff_mem, List.contains_iff_mem, List.mem_map]
      constructor
      · rintro ⟨a, ha, h⟩
        obtain rfl := Int.ofNat.inj h
        exact ha
      · exact fun h => ⟨x, h, rfl⟩
    rw [e2]

set_option maxRecDepth 100000 in
set_option maxHeartbeats 4000000 in
theorem lawSplits_any (n : Int) (b x : Nat) (w : World) (hst : St w) (hb : b < 2 ^ 64) (hx : x < 256) :
    Calls Tryd.prog 9 #[.agg #[.int .i64 n, .int .u64 b], .int .u8 x] w fun e w' => e = .returned (.bool true) ∧ Below w.heap.size w w' := by
  have HST := Lib.hid hst
  clear hst
  have C1 := fun W => Lib.hid (rCheck_any n b W hb)
  obtain ⟨P0, L0, z0⟩ := tab1_new w n b 24
  by_cases hc : Tt.chk n b = 0
  · rw [hc] at C1
    obtain ⟨m, rfl, hm, hb2⟩ := chk_nat hc
    clear hc hb
    rcases Nat.eq_zero_or_pos m with rfl | hp
    · go_enter Tryd.func9, Tryd.ntmps9
      go_wp2_with fail
      refine ((C1 _).out).mono ?_
      rintro e w1 ⟨rfl, hb⟩
      have hz := hb.size
      have V1 := P0.below (by simp <;> omega) hb
      have hB := L0.trans (hb.mono (by simp <;> omega))
      clear hb P0 L0
      obtain ⟨a10, a11, a12, a13, a14⟩ := id V1
      have H1 := Lib.hid V1
      clear V1
      go_wp2_with fail
      have hE := hB
      refine (awake_any _ (HST.out.next hE)).mono ?_
      rintro e wz ⟨rfl, hb⟩
      have hF := below_nxt hE hb
      go_wp2
      go_ret
      exact ⟨rfl, hF⟩
    · have hm0 : ((m : Int) == 0) = false := by simp; omega
      have hmp : (0 : Int) < (m : Int) := by omega
      obtain ⟨i, hi⟩ : ∃ i, x % m = i := ⟨_, rfl⟩
      have him : i < m := by rw [← hi]; exact Nat.mod_lt _ hp
      have hxm : (x : Int) % (m : Int) = (i : Int) := by rw [← hi]; simp
      clear hi
      have v64 : Tt.col i &&& Tt.full m < 2 ^ 64 := Nat.lt_of_le_of_lt Nat.and_le_right (Tt.w64 hm (Tt.full_fits m))
      have vfit : Tt.col i &&& Tt.full m < 2 ^ 2 ^ m := Nat.lt_of_le_of_lt Nat.and_le_right (Tt.full_fits m)
      have nfit : Tt.full m &&& (18446744073709551615 - (Tt.col i &&& Tt.full m)) < 2 ^ 2 ^ m := Nat.lt_of_le_of_lt Nat.and_le_left (Tt.full_fits m)
      have lfit := Tt.lo_fits hm him hb2
      have hfit := Tt.hi_fits hm him hb2
      have afit : (Tt.full m &&& (18446744073709551615 - (Tt.col i &&& Tt.full m))) &&& Tt.lo b i < 2 ^ 2 ^ m := Nat.lt_of_le_of_lt Nat.and_le_right lfit
      have bfit : (Tt.col i &&& Tt.full m) &&& Tt.hi b i < 2 ^ 2 ^ m := Nat.lt_of_le_of_lt Nat.and_le_right hfit
      have C2 := fun W (h : St W) => Lib.hid (tVar_ok m i W hm him h.col h.h2)
      have C3 := fun W (h : St W) => Lib.hid (tCofactor_ok m b i false W hm hb2 him h.col h.h2)
      have C4 := fun W (h : St W) => Lib.hid (tCofactor_ok m b i true W hm hb2 him h.col h.h2)
      simp only [Tt.cof, cond_false, cond_true] at C3 C4
      have C5 := fun W => Lib.hid (tNot_ok m (Tt.col i &&& Tt.full m) W hm v64 (Tt.chk_ok hm vfit))
      have C6 := fun W => Lib.hid (tAnd_ok m _ _ W (Tt.w64 hm nfit) (Tt.w64 hm lfit) (Tt.chk_ok hm nfit) (Tt.chk_ok hm lfit))
      have C7 := fun W => Lib.hid (tAnd_ok m _ _ W v64 (Tt.w64 hm hfit) (Tt.chk_ok hm vfit) (Tt.chk_ok hm hfit))
      have C8 := fun W => Lib.hid (tOr_ok m _ _ W (Tt.w64 hm afit) (Tt.w64 hm bfit) (Tt.chk_ok hm afit) (Tt.chk_ok hm bfit))
      rw [Tt.split hm him hb2] at C8
      have C9 := fun W (h : St W) => Lib.hid (tDepends_any m b W (Tt.w64 hm hb2) h)
      have C10 := fun W (h : St W) => Lib.hid (tDepends_any m (Tt.lo b i) W (Tt.w64 hm lfit) h)
      rw [Tt.chk_ok hm hb2] at C9
      rw [Tt.chk_ok hm lfit] at C10
      have C11 := fun W (h : St W) => Lib.hid (tUnate_ok m b i W hm hb2 him h.col h.h2)
      have e1 := and_not (b := Tt.lo b i) (m := Tt.hi b i) (Tt.lo_lt b i) (Tt.hi_lt b i)
      have e2 := and_not (b := Tt.hi b i) (m := Tt.lo b i) (Tt.hi_lt b i) (Tt.lo_lt b i)
      have U1 := Tt.under_int (Tt.lo b i) (Tt.hi b i)
      have U2 := Tt.under_int (Tt.hi b i) (Tt.lo b i)
      have K1 : inB (depL m b) i = (Tt.lo b i != Tt.hi b i) := by
        unfold depL
        rw [if_pos (Tt.chk_ok hm hb2), inB_pts, Int.toNat_natCast]
        simp [him]
      have K2 : inB (depL m (Tt.lo b i)) i = false := by
        unfold depL
        rw [if_pos (Tt.chk_ok hm lfit), inB_pts, Int.toNat_natCast]
        have := Tt.lo_free hm him hb2
        simp [this]
      have HL1 : Hid ((depL m b).length ≤ 1048576) := Lib.hid (by have := depL_len m b; omega)
      have HL2 : Hid ((depL m (Tt.lo b i)).length ≤ 1048576) := Lib.hid (by have := depL_len m (Tt.lo b i); omega)
      have D1 := fun v W h => Lib.hid (sContains_any v (depL m b) i W HL1.out h)
      have D2 := fun v W h => Lib.hid (sContains_any v (depL m (Tt.lo b i)) i W HL2.out h)
      rw [K1] at D1
      rw [K2] at D2
      have HNE : ∀ r : Bool, (Tt.lo b i != Tt.hi b i) = r → (((Tt.lo b i : Nat) : Int) == ((Tt.hi b i : Nat) : Int)) = !r := fun r h => by
        cases r
        · simp at h ⊢; omega
        · simp at h ⊢; omega
      clear K1 K2 HL1 HL2 v64 vfit nfit lfit hfit afit bfit hb2 hp
      generalize depL m b = l1 at *
      generalize depL m (Tt.lo b i) = l2 at *
      generalize Tt.under (Tt.lo b i) (Tt.hi b i) = r1 at *
      generalize Tt.under (Tt.hi b i) (Tt.lo b i) = r2 at *
      generalize (Tt.lo b i &&& (18446744073709551615 - Tt.hi b i)) = q1 at *
      generalize (Tt.hi b i &&& (18446744073709551615 - Tt.lo b i)) = q2 at *
      generalize (Tt.full m &&& (18446744073709551615 - (Tt.col i &&& Tt.full m))) &&& Tt.lo b i = ya at *
      generalize (Tt.col i &&& Tt.full m) &&& Tt.hi b i = yb at *
      generalize Tt.full m &&& (18446744073709551615 - (Tt.col i &&& Tt.full m)) = yn at *
      generalize Tt.col i &&& Tt.full m = yv at *
      generalize Tt.lo b i = yl at *
      generalize Tt.hi b i = yh at *
      generalize hr0 : (yl != yh) = r0 at *
      have hne := HNE r0 rfl
      clear HNE hr0
      go_enter Tryd.func9, Tryd.ntmps9
      go_wp2_with fail
      refine ((C1 _).out).mono ?_
      rintro e w1 ⟨rfl, hb⟩
      have hz := hb.size
      have V1 := P0.below (by simp <;> omega) hb
      have hB := L0.trans (hb.mono (by simp <;> omega))
      clear hb P0 L0
      obtain ⟨a10, a11, a12, a13, a14⟩ := id V1
      have H1 := Lib.hid V1
      clear V1
      go_wp2_with fail
      have hE := hB
      refine ((C2 _ (HST.out.next hE)).out).mono ?_
      rintro e w2 ⟨rfl, hb⟩
      clear hE
      have V1 := H1.out.step hb
      have hB' := below_nxt hB hb
      clear hb hB a10 a11 a12 a13 a14 H1
      have hB := hB'
      clear hB'
      have n2_1 : w.heap.size < w2.heap.size := V1.1
      obtain ⟨a10, a11, a12, a13, a14⟩ := id V1
      have H1 := Lib.hid V1
      clear V1
      go_wp2_with fail
      have hE := hB.alloc hB.size (.cells #[.int .i64 m, .int .u64 yv] 24)
      refine ((C3 _ (HST.out.next hE)).out).mono ?_
      rintro e w3 ⟨rfl, hb⟩
      clear hE
      have V1 := H1.out.box hb
      have V2 := tabI_box hb
      have hB' := below_nxtb hB hb
      clear hb hB a10 a11 a12 a13 a14 H1
      have hB := hB'
      clear hB'
      have n3_1 : w.heap.size < w3.heap.size := V1.1
      have n3_2 : w2.heap.size < w3.heap.size := V2.1
      obtain ⟨a10, a11, a12, a13, a14⟩ := id V1
      obtain ⟨a20, a21, a22, a23, a24⟩ := id V2
      have H1 := Lib.hid V1
      have H2 := Lib.hid V2
      clear V1 V2
      go_wp2_with fail
      have hE := hB.alloc hB.size (.cells #[.int .i64 m, .int .u64 yl] 24)
      refine ((C4 _ (HST.out.next hE)).out).mono ?_
      rintro e w4 ⟨rfl, hb⟩
      clear hE
      have V1 := H1.out.box hb
      have V2 := H2.out.box hb
      have V3 := tabI_box hb
      have hB' := below_nxtb hB hb
      clear hb hB a10 a11 a12 a13 a14 H1 a20 a21 a22 a23 a24 H2
      have hB := hB'
      clear hB'
      have n4_1 : w.heap.size < w4.heap.size := V1.1
      have n4_2 : w2.heap.size < w4.heap.size := V2.1
      have n4_3 : w3.heap.size < w4.heap.size := V3.1
      obtain ⟨a10, a11, a12, a13, a14⟩ := id V1
      obtain ⟨a20, a21, a22, a23, a24⟩ := id V2
      obtain ⟨a30, a31, a32, a33, a34⟩ := id V3
      have H1 := Lib.hid V1
      have H2 := Lib.hid V2
      have H3 := Lib.hid V3
      clear V1 V2 V3
      go_wp2_with fail
      refine ((C5 _).out).mono ?_
      rintro e w5 ⟨rfl, hb⟩
      have V1 := H1.out.box hb
      have V2 := H2.out.box hb
      have V3 := H3.out.box hb
      have V4 := tabI_box hb
      have hB' := below_nxtb hB hb
      clear hb hB a10 a11 a12 a13 a14 H1 a20 a21 a22 a23 a24 H2 a30 a31 a32 a33 a34 H3
      have hB := hB'
      clear hB'
      have n5_1 : w.heap.size < w5.heap.size := V1.1
      have n5_2 : w2.heap.size < w5.heap.size := V2.1
      have n5_3 : w3.heap.size < w5.heap.size := V3.1
      have n5_4 : w4.heap.size < w5.heap.size := V4.1
      obtain ⟨a10, a11, a12, a13, a14⟩ := id V1
      obtain ⟨a20, a21, a22, a23, a24⟩ := id V2
      obtain ⟨a30, a31, a32, a33, a34⟩ := id V3
      obtain ⟨a40, a41, a42, a43, a44⟩ := id V4
      have H1 := Lib.hid V1
      have H2 := Lib.hid V2
      have H3 := Lib.hid V3
      have H4 := Lib.hid V4
      clear V1 V2 V3 V4
      go_wp2_with fail
      refine ((C6 _).out).mono ?_
      rintro e w6 ⟨rfl, hb⟩
      have V1 := H1.out.box hb
      have V2 := H2.out.box hb
      have V3 := H3.out.box hb
      have V4 := H4.out.box hb
      have V5 := tabI_box hb
      have hB' := below_nxtb hB hb
      clear hb hB a10 a11 a12 a13 a14 H1 a20 a21 a22 a23 a24 H2 a30 a31 a32 a33 a34 H3 a40 a41 a42 a43 a44 H4
      have hB := hB'
      clear hB'
      have n6_1 : w.heap.size < w6.heap.size := V1.1
      have n6_2 : w2.heap.size < w6.heap.size := V2.1
      have n6_3 : w3.heap.size < w6.heap.size := V3.1
      have n6_4 : w4.heap.size < w6.heap.size := V4.1
      have n6_5 : w5.heap.size < w6.heap.size := V5.1
      obtain ⟨a10, a11, a12, a13, a14⟩ := id V1
      obtain ⟨a20, a21, a22, a23, a24⟩ := id V2
      obtain ⟨a30, a31, a32, a33, a34⟩ := id V3
      obtain ⟨a40, a41, a42, a43, a44⟩ := id V4
      obtain ⟨a50, a51, a52, a53, a54⟩ := id V5
      have H1 := Lib.hid V1
      have H2 := Lib.hid V2
      have H3 := Lib.hid V3
      have H4 := Lib.hid V4
      have H5 := Lib.hid V5
      clear V1 V2 V3 V4 V5
      go_wp2_with fail
      refine ((C7 _).out).mono ?_
      rintro e w7 ⟨rfl, hb⟩
      have V1 := H1.out.box hb
      have V2 := H2.out.box hb
      have V3 := H3.out.box hb
      have V4 := H4.out.box hb
      have V5 := H5.out.box hb
      have V6 := tabI_box hb
      have hB' := below_nxtb hB hb
      clear hb hB a10 a11 a12 a13 a14 H1 a20 a21 a22 a23 a24 H2 a30 a31 a32 a33 a34 H3 a40 a41 a42 a43 a44 H4 a50 a51 a52 a53 a54 H5
      have hB := hB'
      clear hB'
      have n7_1 : w.heap.size < w7.heap.size := V1.1
      have n7_2 : w2.heap.size < w7.heap.size := V2.1
      have n7_3 : w3.heap.size < w7.heap.size := V3.1
      have n7_4 : w4.heap.size < w7.heap.size := V4.1
      have n7_5 : w5.heap.size < w7.heap.size := V5.1
      have n7_6 : w6.heap.size < w7.heap.size := V6.1
      obtain ⟨a10, a11, a12, a13, a14⟩ := id V1
      obtain ⟨a20, a21, a22, a23, a24⟩ := id V2
      obtain ⟨a30, a31, a32, a33, a34⟩ := id V3
      obtain ⟨a40, a41, a42, a43, a44⟩ := id V4
      obtain ⟨a50, a51, a52, a53, a54⟩ := id V5
      obtain ⟨a60, a61, a62, a63, a64⟩ := id V6
      have H1 := Lib.hid V1
      have H2 := Lib.hid V2
      have H3 := Lib.hid V3
      have H4 := Lib.hid V4
      have H5 := Lib.hid V5
      have H6 := Lib.hid V6
      clear V1 V2 V3 V4 V5 V6
      go_wp2_with fail
      refine ((C8 _).out).mono ?_
      rintro e w8 ⟨rfl, hb⟩
      have V1 := H1.out.box hb
      have V2 := H2.out.box hb
      have V3 := H3.out.box hb
      have V4 := H4.out.box hb
      have V5 := H5.out.box hb
      have V6 := H6.out.box hb
      have V7 := tabI_box hb
      have hB' := below_nxtb hB hb
      clear hb hB a10 a11 a12 a13 a14 H1 a20 a21 a22 a23 a24 H2 a30 a31 a32 a33 a34 H3 a40 a41 a42 a43 a44 H4 a50 a51 a52 a53 a54 H5 a60 a61 a62 a63 a64 H6
      have hB := hB'
      clear hB'
      have n8_1 : w.heap.size < w8.heap.size := V1.1
      have n8_2 : w2.heap.size < w8.heap.size := V2.1
      have n8_3 : w3.heap.size < w8.heap.size := V3.1
      have n8_4 : w4.heap.size < w8.heap.size := V4.1
      have n8_5 : w5.heap.size < w8.heap.size := V5.1
      have n8_6 : w6.heap.size < w8.heap.size := V6.1
      have n8_7 : w7.heap.size < w8.heap.size := V7.1
      obtain ⟨a10, a11, a12, a13, a14⟩ := id V1
      obtain ⟨a20, a21, a22, a23, a24⟩ := id V2
      obtain ⟨a30, a31, a32, a33, a34⟩ := id V3
      obtain ⟨a40, a41, a42, a43, a44⟩ := id V4
      obtain ⟨a50, a51, a52, a53, a54⟩ := id V5
      obtain ⟨a60, a61, a62, a63, a64⟩ := id V6
      obtain ⟨a70, a71, a72, a73, a74⟩ := id V7
      have H1 := Lib.hid V1
      have H2 := Lib.hid V2
      have H3 := Lib.hid V3
      have H4 := Lib.hid V4
      have H5 := Lib.hid V5
      have H6 := Lib.hid V6
      have H7 := Lib.hid V7
      clear V1 V2 V3 V4 V5 V6 V7
      go_wp2_with fail
      have hE := hB.alloc hB.size (.cells #[.int .i64 m, .int .u64 b] 24)
      refine ((C9 _ (HST.out.next hE)).out).mono ?_
      rintro e w9 ⟨u3, rfl, hs9, hb⟩
      clear hE
      have V1 := H1.out.box hb
      have V2 := H2.out.box hb
      have V3 := H3.out.box hb
      have V4 := H4.out.box hb
      have V5 := H5.out.box hb
      have V6 := H6.out.box hb
      have V7 := H7.out.box hb
      have V8 := tabI_box hb
      have hB' := below_nxtb hB hb
      clear hb hB a10 a11 a12 a13 a14 H1 a20 a21 a22 a23 a24 H2 a30 a31 a32 a33 a34 H3 a40 a41 a42 a43 a44 H4 a50 a51 a52 a53 a54 H5 a60 a61 a62 a63 a64 H6 a70 a71 a72 a73 a74 H7
      have hB := hB'
      clear hB'
      obtain ⟨a10, a11, a12, a13, a14⟩ := id V1
      obtain ⟨a20, a21, a22, a23, a24⟩ := id V2
      obtain ⟨a30, a31, a32, a33, a34⟩ := id V3
      obtain ⟨a40, a41, a42, a43, a44⟩ := id V4
      obtain ⟨a50, a51, a52, a53, a54⟩ := id V5
      obtain ⟨a60, a61, a62, a63, a64⟩ := id V6
      obtain ⟨a70, a71, a72, a73, a74⟩ := id V7
      obtain ⟨a80, a81, a82, a83, a84⟩ := id V8
      have H1 := Lib.hid V1
      have H2 := Lib.hid V2
      have H3 := Lib.hid V3
      have H4 := Lib.hid V4
      have H5 := Lib.hid V5
      have H6 := Lib.hid V6
      have H7 := Lib.hid V7
      have H8 := Lib.hid V8
      clear V1 V2 V3 V4 V5 V6 V7 V8
      go_wp2_with fail
      have hE := hB
      refine ((C10 _ (HST.out.next hE)).out).mono ?_
      rintro e w10 ⟨u4, rfl, hs10, hb⟩
      clear hE
      have V1 := H1.out.step hb
      have V2 := H2.out.step hb
      have V3 := H3.out.step hb
      have V4 := H4.out.step hb
      have V5 := H5.out.step hb
      have V6 := H6.out.step hb
      have V7 := H7.out.step hb
      have V8 := H8.out.step hb
      have hB' := below_nxt hB hb
      have hs9' := hs9.below (hb) (Nat.le_refl _)
      clear hs9
      have hs9 := hs9'
      clear hs9'
      clear hb hB a10 a11 a12 a13 a14 H1 a20 a21 a22 a23 a24 H2 a30 a31 a32 a33 a34 H3 a40 a41 a42 a43 a44 H4 a50 a51 a52 a53 a54 H5 a60 a61 a62 a63 a64 H6 a70 a71 a72 a73 a74 H7 a80 a81 a82 a83 a84 H8
      have hB := hB'
      clear hB'
      obtain ⟨a10, a11, a12, a13, a14⟩ := id V1
      obtain ⟨a20, a21, a22, a23, a24⟩ := id V2
      obtain ⟨a30, a31, a32, a33, a34⟩ := id V3
      obtain ⟨a40, a41, a42, a43, a44⟩ := id V4
      obtain ⟨a50, a51, a52, a53, a54⟩ := id V5
      obtain ⟨a60, a61, a62, a63, a64⟩ := id V6
      obtain ⟨a70, a71, a72, a73, a74⟩ := id V7
      obtain ⟨a80, a81, a82, a83, a84⟩ := id V8
      have H1 := Lib.hid V1
      have H2 := Lib.hid V2
      have H3 := Lib.hid V3
      have H4 := Lib.hid V4
      have H5 := Lib.hid V5
      have H6 := Lib.hid V6
      have H7 := Lib.hid V7
      have H8 := Lib.hid V8
      clear V1 V2 V3 V4 V5 V6 V7 V8
      go_wp2_with fail
      have hE := hB
      refine ((C11 _ (HST.out.next hE)).out).mono ?_
      rintro e w11 ⟨rfl, hb⟩
      clear hE
      have V1 := H1.out.step hb
      have V2 := H2.out.step hb
      have V3 := H3.out.step hb
      have V4 := H4.out.step hb
      have V5 := H5.out.step hb
      have V6 := H6.out.step hb
      have V7 := H7.out.step hb
      have V8 := H8.out.step hb
      have hB' := below_nxt hB hb
      have hs9' := hs9.below (hb) (Nat.le_refl _)
      clear hs9
      have hs9 := hs9'
      clear hs9'
      have hs10' := hs10.below (hb) (Nat.le_refl _)
      clear hs10
      have hs10 := hs10'
      clear hs10'
      clear hb hB a10 a11 a12 a13 a14 H1 a20 a21 a22 a23 a24 H2 a30 a31 a32 a33 a34 H3 a40 a41 a42 a43 a44 H4 a50 a51 a52 a53 a54 H5 a60 a61 a62 a63 a64 H6 a70 a71 a72 a73 a74 H7 a80 a81 a82 a83 a84 H8
      have hB := hB'
      clear hB'
      obtain ⟨a10, a11, a12, a13, a14⟩ := id V1
      obtain ⟨a20, a21, a22, a23, a24⟩ := id V2
      obtain ⟨a30, a31, a32, a33, a34⟩ := id V3
      obtain ⟨a40, a41, a42, a43, a44⟩ := id V4
      obtain ⟨a50, a51, a52, a53, a54⟩ := id V5
      obtain ⟨a60, a61, a62, a63, a64⟩ := id V6
      obtain ⟨a70, a71, a72, a73, a74⟩ := id V7
      obtain ⟨a80, a81, a82, a83, a84⟩ := id V8
      have H1 := Lib.hid V1
      have H2 := Lib.hid V2
      have H3 := Lib.hid V3
      have H4 := Lib.hid V4
      have H5 := Lib.hid V5
      have H6 := Lib.hid V6
      have H7 := Lib.hid V7
      have H8 := Lib.hid V8
      clear V1 V2 V3 V4 V5 V6 V7 V8
      have k9 : Sees .i64 w11.drew u3 l1 := hs9.drewN 1
      have k10 : Sees .i64 w11.drew u4 l2 := hs10.drewN 1
      have HU := Lib.hid (And.intro U1 U2)
      have HE := Lib.hid (And.intro e1 e2)
      clear U1 U2 e1 e2
      cases r0
      all_goals
        go_wp2
        go_region_held3 (fun W => (W.cell? ⟨w.heap.size, 0, none⟩ = some (.int .i64 m) ∧ W.cell? ⟨w.heap.size, 1, none⟩ = some (.int .u64 b)) ∧ (W.cell? ⟨w3.heap.size, 0, none⟩ = some (.int .i64 m) ∧ W.cell? ⟨w3.heap.size, 1, none⟩ = some (.int .u64 yl)) ∧ (W.cell? ⟨w4.heap.size, 0, none⟩ = some (.int .i64 m) ∧ W.cell? ⟨w4.heap.size, 1, none⟩ = some (.int .u64 yh)) ∧ (W.cell? ⟨w8.heap.size, 0, none⟩ = some (.int .i64 m) ∧ W.cell? ⟨w8.heap.size, 1, none⟩ = some (.int .u64 b)))
          (first | (go_split_ands; refine ⟨⟨?_, ?_⟩, ⟨?_, ?_⟩, ⟨?_, ?_⟩, ⟨?_, ?_⟩⟩ <;> assumption) | go_keep)
          (first
            | (go_at_call 45; (with_reducible refine ((D1 u3 _ k9).out).mono ?_); rintro e v1 ⟨rfl, rfl⟩)
            | (go_at_call 45; (with_reducible refine ((D2 u4 _ k10).out).mono ?_); rintro e v1 ⟨rfl, rfl⟩))
        obtain ⟨U1, U2⟩ := HU.out
        obtain ⟨e1, e2⟩ := HE.out
        have hE := hB.drew
        go_wp2_with fail
        refine (awake_any _ (HST.out.next hE)).mono ?_
        rintro e wz ⟨rfl, hb⟩
        have hF := below_nxt hE hb
        go_wp2
        go_ret
        exact ⟨rfl, hF⟩
  · generalize Tt.chk n b = k at *
    have g4 : (k != 0) = true := by simpa using hc
    clear hc hb
    go_enter Tryd.func9, Tryd.ntmps9
    go_wp2_with fail
    refine ((C1 _).out).mono ?_
    rintro e w1 ⟨rfl, hb⟩
    have hz := hb.size
    have V1 := P0.below (by simp <;> omega) hb
    have hB := L0.trans (hb.mono (by simp <;> omega))
    clear hb P0 L0
    obtain ⟨a10, a11, a12, a13, a14⟩ := id V1
    have H1 := Lib.hid V1
    clear V1
    go_wp2_with fail
    have hE := hB
    refine (awake_any _ (HST.out.next hE)).mono ?_
    rintro e wz ⟨rfl, hb⟩
    have hF := below_nxt hE hb
    go_wp2
    go_ret
    exact ⟨rfl, hF⟩

end Go.Proofs.YtmmcakeedejbnaaDoor
