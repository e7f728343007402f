/- The call of the statement SequenceWords. -/
import Derived.BigQuiet
import Derived.Test.YtjpbccpleflkhaaDoorG17
import Derived.Test.YtjpbccpleflkhaaDoorG23
namespace Sq
open Sk
theorem wd_ge {n : Int} {L : List Stp} (h : Rt n L) : ∀ {i : Nat}, i ≤ L.length → i ≤ (wdI L i).length
  | 0, _ => Nat.zero_le _
  | i + 1, hi => by
    have h1 := (chkP_ok (stE_ok (h.stp i (by omega))).1).1.pos
    have h2 := wd_ge h (i := i) (by omega)
    rw [wdI_succ (by omega), List.length_append]; omega
theorem wd_two {n : Nat} {L : List Stp} (h : Rt (n : Int) L) : 2 ≤ (wdI L L.length).length := by
  have h1 := h.n1
  have he := mv_even h (a := 0) (by omega)
  have hs := mv_some h (a := 0) (by omega)
  have hl := mvI_len L ((0 : Nat) : Int) L.length
  have := wd_ge h (Nat.le_refl _)
  omega
theorem swp_set : ∀ {k : Nat} {l : List Str}, k + 1 < l.length → (l.set k (l.getD (k + 1) d0)).set (k + 1) (l.getD k d0) = swp k l
  | 0, a :: b :: l, _ => rfl
  | 0, [], h => by simp at h
  | 0, [_], h => by simp at h
  | k + 1, [], h => by simp at h
  | k + 1, a :: l, h => by
    have := swp_set (k := k) (l := l) (by simpa using h)
    show a :: ((l.set k (l.getD (k + 1) d0)).set (k + 1) (l.getD k d0)) = a :: swp k l
    rw [this]
end Sq
namespace Go.Proofs.YtjpbccpleflkhaaDoor
open Go.RowKit Go.Shelf
attribute [local go_sem] Oper.semAt_some
set_option maxHeartbeats 32000000 in
set_option maxRecDepth 100000 in
theorem words14_any (n : Int) (v : Value) (L : List Sk.Stp) (x : Int) (w : World) (hst : StQ w) (hs : SeeT w v L) (hx0 : 0 ≤ x) (hx : x < 256) : Calls Tryd.prog 8 #[.agg #[.int .i64 n, v], .int .u8 x] w fun e w' => e = .returned (.bool true) ∧ Below w.heap.size w w' := by
  obtain ⟨i0, hi0, hz0, hz1, hz2⟩ := info_str2
  have HST := Lib.hid hst
  have HS := Lib.hid hs
  obtain ⟨ao, cap, rfl, hcap1, hcap2, hC⟩ := hs
  have HC := Lib.hid hC
  have CF := fun V (h : SeeT V (.slice ao L.length cap) L) => Lib.hid (lRgt_any n (.slice ao L.length cap) L V h)
  obtain ⟨P0, L0, z0⟩ := boxP_new w (.int .i64 n) (.slice ao L.length cap) 32
  have HL0 := Lib.hid L0
  have HP0 := Lib.hid P0
  obtain ⟨p0, p1, p2⟩ := P0
  clear L0 z0 hst hC
  cases hf : (Sq.fewV L && decide (Sq.chk n L = 0))
  · rw [hf] at CF
    clear hf
    go_enter Tryd.func8, Tryd.ntmps8
    go_wp2_with fail
    refine ((CF _ (HS.out.step HL0.out)).out).mono ?_
    rintro e w1 ⟨rfl, hb1⟩
    have HB1 := Lib.hid (below_nxt HL0.out hb1)
    clear hb1 p0 p1 p2
    go_wp2_with fail
    refine (awake14_any _ (HST.out.step HB1.out)).mono ?_
    rintro e wz ⟨rfl, hbz⟩
    have HBz := Lib.hid (below_nxt HB1.out hbz)
    clear hbz
    go_wp2
    go_ret
    exact ⟨rfl, HBz.out⟩
  rw [hf] at CF
  rw [Bool.and_eq_true] at hf
  have hc := of_decide_eq_true hf.2
  have hR := Sq.chk_ok hc
  obtain ⟨nn, rfl⟩ := Int.eq_ofNat_of_zero_le (show 0 ≤ n by have := hR.n1; omega)
  have hl64 := hR.l64
  have hG := Sq.rt_gd hR
  have hw2 := Sq.wd_two hR
  have hwl := Sq.wdI_len hR (Nat.le_refl _)
  have hwa := Sq.wdI_all L
  have HLn := Lib.hid (fun i (h : i ≤ L.length) => Sq.wdI_len hR h)
  have HT := Lib.hid (fun i (h : i < L.length) => Sq.wdI_succ h)
  have HRL := Lib.hid (fun k (h : k < L.length) => (Sk.chkP_ok (Sq.stE_ok (hR.stp k h)).1).1)
  obtain ⟨k, hk⟩ : ∃ k : Nat, x.tmod ((Sq.wdI L L.length).length - 1 : Int) = (k : Int) := Int.eq_ofNat_of_zero_le (Int.tmod_nonneg _ hx0)
  have hkl : k + 1 < (Sq.wdI L L.length).length := by
    have := Int.tmod_lt_of_pos x (show (0 : Int) < ((Sq.wdI L L.length).length - 1 : Int) by omega)
    omega
  have CW : ∀ V, SeeT V (.slice ao L.length cap) L → Hid (Calls Tryd.prog 17 #[.agg #[.int .i64 (nn : Int), .slice ao L.length cap]] V fun e w' => ∃ ao cap, e = .returned (.tuple #[.slice ao (Sq.wdI L L.length).length cap, .int .i64 0]) ∧ SeeK w' (.slice ao (Sq.wdI L L.length).length cap) (Sq.wdI L L.length) ∧ Below V.heap.size V w') := fun V h => Lib.hid (by have g := qWrd_any (nn : Int) (.slice ao L.length cap) L V h; rw [show Sq.wrdV (nn : Int) L = (Sq.wdI L L.length, 0) by unfold Sq.wrdV; rw [if_pos hc]] at g; exact g)
  have CA : ∀ (P : List Sk.Str) (b : Bool), Sq.acc L P = b → ∀ V u, SeeT V (.slice ao L.length cap) L → SeeK V u P → Hid (Calls Tryd.prog 34 #[.agg #[.int .i64 (nn : Int), .slice ao L.length cap], u] V fun e w' => e = .returned (.tuple #[.bool b, .int .i64 0]) ∧ Below V.heap.size V w') := fun P b hb V u h h2 => Lib.hid (by have g := qAcc_any (nn : Int) (.slice ao L.length cap) u L P V h h2; rw [show Sq.accV (nn : Int) L P = (b, 0) by unfold Sq.accV; rw [if_pos hc, hb]] at g; exact g)
  have CA1 := CA (Sq.wdI L L.length) true (by rw [hwa]; exact Sq.acc_self L)
  have CA2 := CA (Sq.swp k (Sq.wdI L L.length)) (!Sq.enI L (k + 1) L.length) (by rw [Sq.enI_brk hG, hwa]; rw [hwa] at hkl; exact Sq.acc_swp hG hkl)
  have CA3 := CA ((Sq.wdI L L.length).take k) false (Sq.acc_short (by rw [← hwa, List.length_take]; omega))
  have CA4 := CA (Sq.wdI L L.length ++ [(Sq.wdI L L.length).getD 0 Sk.d0]) false (Sq.acc_short (by rw [← hwa, List.length_append]; simp))
  have CK := fun V u (h : SeeK V u (Sq.wdI L L.length)) => Lib.hid (cloK_any (Sq.wdI L L.length) u V (by omega) (by omega) h)
  have HSw := Lib.hid (Sq.swp_set hkl)
  clear hf hc hR hG hwa CA
  go_enter Tryd.func8, Tryd.ntmps8
  go_wp2_with fail
  refine ((CF _ (HS.out.step HL0.out)).out).mono ?_
  rintro e w1 ⟨rfl, hb⟩
  have HB1 := Lib.hid (below_nxt HL0.out hb)
  have HP1 := Lib.hid (HP0.out.step hb)
  clear hb p0 p1 p2
  obtain ⟨p0, p1, p2⟩ := HP1.out
  go_wp2_with fail
  refine ((CW _ (HS.out.step HB1.out)).out).mono ?_
  rintro e w2 ⟨wo, wc, rfl, hse, hb⟩
  have HB2 := Lib.hid (below_nxt HB1.out hb)
  have HP2 := Lib.hid (HP1.out.step hb)
  have HW2 := Lib.hid hse
  clear hse hb p0 p1 p2
  obtain ⟨p0, p1, p2⟩ := HP2.out
  go_wp2_with fail
  refine ((CA1 _ _ (HS.out.step HB2.out) HW2.out).out).mono ?_
  rintro e w3 ⟨rfl, hb⟩
  have HB3 := Lib.hid (below_nxt HB2.out hb)
  have HP3 := Lib.hid (HP2.out.step hb)
  have HW3 := Lib.hid (HW2.out.step hb)
  have HS3 := Lib.hid (HS.out.step HB3.out)
  clear hb p0 p1 p2 HP2 HW2 CA1 CW
  obtain ⟨p0, p1, p2⟩ := HP3.out
  have hcv : IntKind.i64.wrap x = x := IntWalk.i64_in _ (by omega)
  have hsub : IntKind.i64.wrap (((Sq.wdI L L.length).length : Int) - 1) = ((Sq.wdI L L.length).length : Int) - 1 := IntWalk.i64_in _ (by omega)
  have hnz : ((((Sq.wdI L L.length).length : Int) - 1) == 0) = false := by rw [beq_eq_false_iff_ne]; omega
  have hwk : IntKind.i64.wrap (k : Int) = (k : Int) := IntWalk.i64_in _ (by omega)
  have hwk1 : IntKind.i64.wrap ((k : Int) + 1) = (k : Int) + 1 := IntWalk.i64_in _ (by omega)
  have hlt2 : decide (((Sq.wdI L L.length).length : Int) < 2) = false := decide_eq_false (by omega)
  generalize hWW : Sq.wdI L L.length = W at *
  go_wp2
  clear p0 p1 p2
  go_loopw [10, 11, 56] (fun s10 s11 s56 wr => ∃ i : Nat, i ≤ L.length ∧ s56 = .int .i64 (i : Int) ∧ s10 = .int .i64 ((Sq.wdI L i).length : Int) ∧ s11 = .bool (Sq.enI L (k + 1) i) ∧ Hid (Below w3.heap.size w3 wr)) (fun _ _ s56 _ => L.length - (intOf s56).toNat)
  case atStart => exact ⟨0, Nat.zero_le _, rfl, rfl, rfl, Lib.hid (Below.refl _ _)⟩
  case round =>
    obtain ⟨i, hi, rfl, rfl, rfl, HB⟩ := hrel
    have hiz : (L.length : Int) ≤ 64 := by omega
    by_cases hil : i < L.length
    · obtain ⟨g, off, ak, ck, rfl, hg, c1, c2, hk0⟩ := HC.out.at (below_nxt HB3.out HB.out) hil
      have hgr : g < wr.heap.size := Nat.lt_of_lt_of_le hg (below_nxt HB3.out HB.out).size
      have HTi := Lib.hid (congrArg List.length (HT.out i hil))
      have HEi := Lib.hid (Sq.enI_succ L (k + 1) i)
      have HRi := Lib.hid (HRL.out i hil)
      have hln := HLn.out i hi
      have L1 := allocB wr (.cells #[.slice ak (L.getD i Sk.t0).1.length ck, .int .i64 (L.getD i Sk.t0).2] 70)
      have HB1 := Lib.hid (below_nxt HB.out L1)
      clear hk0 L1 HT HRL HLn
      generalize L.getD i Sk.t0 = y at *
      obtain ⟨l, m⟩ := y
      simp only at c1 c2 HB1 HTi HRi
      rw [List.length_append] at HTi
      have hl6 := HRi.out.le6
      generalize (Sq.wdI L i).length = A at *
      have hwA : IntKind.i64.wrap ((A : Int) + (l.length : Int)) = (A : Int) + (l.length : Int) := IntWalk.i64_in _ (by omega)
      generalize hen : Sq.enI L (k + 1) i = b at *
      have hac : (((A : Int) + (l.length : Int)) == ((k : Int) + 1)) = decide (A + l.length = k + 1) := by
        by_cases h : A + l.length = k + 1
        · rw [decide_eq_true h, beq_iff_eq]; omega
        · rw [decide_eq_false h, beq_eq_false_iff_ne]; omega
      rw [HTi.out] at HEi
      cases b
      · rw [Bool.false_or] at HEi
        generalize decide (A + l.length = k + 1) = d at *
        go_wp2
        exact ⟨⟨i + 1, by omega, by first | rfl | go_num, by rw [HTi.out]; first | rfl | go_num, by rw [HEi.out], HB1⟩, by simp [intOf]; omega⟩
      · rw [Bool.true_or] at HEi
        go_wp2
        exact ⟨⟨i + 1, by omega, by first | rfl | go_num, by rw [HTi.out]; first | rfl | go_num, by rw [HEi.out], HB1⟩, by simp [intOf]; omega⟩
    · obtain rfl : i = L.length := by omega
      obtain ⟨wg, woff, rfl, HDa⟩ : ∃ wg woff, wo = some ⟨wg, woff, none⟩ ∧ ∀ V, Below w3.heap.size w3 V → V.cell? ⟨wg, woff, none⟩ = some (.int .i64 (W.getD 0 Sk.d0).1) ∧ V.cell? ⟨wg, woff + 1, none⟩ = some (.bool (W.getD 0 Sk.d0).2) := by
        obtain ⟨a0, c0, e0, -, -, h3⟩ := HW3.out
        obtain ⟨g, off, h1, h2, h4⟩ := h3 (by omega)
        simp at e0
        obtain ⟨d1, d2⟩ := h4 0 (by omega)
        exact ⟨g, off, by rw [e0.1, h1], fun V hb => ⟨(hb.cell (p := ⟨g, off, none⟩) h2).trans d1, (hb.cell (p := ⟨g, off + 1, none⟩) h2).trans d2⟩⟩
      have HD := Lib.hid HDa
      clear HDa
      generalize W.getD 0 Sk.d0 = y0 at *
      obtain ⟨a1, a2⟩ := y0
      simp only at HD
      generalize Sq.enI L (k + 1) L.length = en at *
      have HW4 := Lib.hid (HW3.out.step HB.out)
      obtain ⟨w4, hw4⟩ : ∃ w4, w4 = wr := ⟨_, rfl⟩
      subst hw4
      go_wp2_with fail
      refine ((CK _ _ HW4.out).out).mono ?_
      rintro e w5 ⟨u, rfl, hru, hb⟩
      obtain ⟨ug, uc, rfl⟩ : ∃ ug uc, u = .slice (some ⟨ug, 0, none⟩) W.length uc := by
        rcases hru.2 with ⟨rfl, h0⟩ | ⟨g, cap, cur, rfl, _⟩
        · omega
        · exact ⟨g, cap, rfl⟩
      have HB5 := Lib.hid (HB.out.trans (hb.mono HB.out.size))
      have HR5 := Lib.hid hru
      have HB45 := Lib.hid hb
      have HUG := Lib.hid ((World.ownsRow.lt hru ug rfl).1)
      have HW5 := Lib.hid (HW4.out.step hb)
      clear hru hb
      obtain ⟨k0, k1, k2, k3⟩ := HR5.out.getAt (show k < W.length by omega)
      obtain ⟨j0, j1, j2, j3⟩ := HR5.out.getAt hkl
      have hdr := (Below.refl w5.heap.size w5).drew
      have HRd := Lib.hid (HR5.out.step hdr)
      obtain ⟨k0', k1', k2', k3'⟩ := HRd.out.getAt (show k < W.length by omega)
      obtain ⟨j0', j1', j2', j3'⟩ := HRd.out.getAt hkl
      have hkz0 : (0 : Int) ≤ (k : Int) + 1 := by omega
      have hkz1 : (k : Int) < (W.length : Int) := by omega
      have hkz2 : (k : Int) + 1 < (W.length : Int) := by omega
      have hkz3 : ((k : Int) + 1).toNat = k + 1 := by omega
      have HSee : Hid (SeeK (((((w5.setCell ⟨ug, k * 2, none⟩ (.int .i64 (W.getD (k + 1) Sk.d0).1)).setCell ⟨ug, k * 2 + 1, none⟩ (.bool (W.getD (k + 1) Sk.d0).2)).setCell ⟨ug, (k + 1) * 2, none⟩ (.int .i64 (W.getD k Sk.d0).1)).setCell ⟨ug, (k + 1) * 2 + 1, none⟩ (.bool (W.getD k Sk.d0).2)).drew) (.slice (some ⟨ug, 0, none⟩) W.length uc) (Sq.swp k W)) := Lib.hid (by
        have h1 := HR5.out.putAt (show k < W.length by omega) (W.getD (k + 1) Sk.d0)
        rw [show (Value.slice (some ⟨ug, 0, none⟩) W.length uc) = .slice (some ⟨ug, 0, none⟩) (W.set k (W.getD (k + 1) Sk.d0)).length uc by rw [List.length_set]] at h1
        have h2 := h1.putAt (k := k + 1) (by rw [List.length_set]; exact hkl) (W.getD k Sk.d0)
        rw [List.length_set, HSw.out] at h2
        exact h2.sees.step (Below.refl _ _).drew)
      have HBs : Hid (Below w4.heap.size w4 (((((w5.setCell ⟨ug, k * 2, none⟩ (.int .i64 (W.getD (k + 1) Sk.d0).1)).setCell ⟨ug, k * 2 + 1, none⟩ (.bool (W.getD (k + 1) Sk.d0).2)).setCell ⟨ug, (k + 1) * 2, none⟩ (.int .i64 (W.getD k Sk.d0).1)).setCell ⟨ug, (k + 1) * 2 + 1, none⟩ (.bool (W.getD k Sk.d0).2)).drew)) := Lib.hid ((((((((Below.refl w4.heap.size w4).trans HB45.out).setCell (p := ⟨ug, k * 2, none⟩) HUG.out _).setCell (p := ⟨ug, k * 2 + 1, none⟩) HUG.out _).setCell (p := ⟨ug, (k + 1) * 2, none⟩) HUG.out _).setCell (p := ⟨ug, (k + 1) * 2 + 1, none⟩) HUG.out _)).drew)
      generalize (W.getD (k + 1) Sk.d0) = yb at *
      generalize (W.getD k Sk.d0) = ya at *
      obtain ⟨ya1, ya2⟩ := ya
      obtain ⟨yb1, yb2⟩ := yb
      simp only at k0 k1 j0 j1 k0' k1' j0' j1' HSee HBs
      clear hdr HR5 HB5 HW5 HRd HSw
      go_wp2_with fail
      refine wp_region_noPanic ?_
      refine wp_region_held_drew (S := fun _ => True) (by kernel_rfl) ?_ (fun hHeld => ?_)
      · trivial
      refine wpAnyH_take (i := 0) (v := ?_) rfl (by kernel_rfl) (by kernel_rfl) (by kernel_rfl) (fun _ _ _ h => h) (Or.inl ⟨by rfl, ?_⟩) (by assumption) ?_
      rotate_left 1
      · (intro w hSw; (try dsimp only at hSw); go_simp; (try with_reducible rfl))
      try simp only [Act.put, List.getElem_toArray, List.getElem_cons_zero, List.setIfInBounds_toArray, List.set_cons_zero, List.set_cons_succ]
      refine wpAnyH_take (i := 1) (v := ?_) rfl (by kernel_rfl) (by kernel_rfl) (by kernel_rfl) (fun _ _ _ h => h) (Or.inl ⟨by rfl, ?_⟩) (by assumption) ?_
      rotate_left 1
      · (intro w hSw; (try dsimp only at hSw); go_simp; (try with_reducible rfl))
      try simp only [Act.put, List.getElem_toArray, List.getElem_cons_succ, List.getElem_cons_zero, List.setIfInBounds_toArray, List.set_cons_zero, List.set_cons_succ]
      refine wpAnyH_take (i := 2) (v := ?_) rfl (by kernel_rfl) (by kernel_rfl) (by kernel_rfl) (fun _ _ _ h => h) (Or.inl ⟨by rfl, ?_⟩) (by assumption) ?_
      rotate_left 1
      · (intro w hSw; (try dsimp only at hSw); go_simp; (try with_reducible rfl))
      try simp only [Act.put, List.getElem_toArray, List.getElem_cons_succ, List.getElem_cons_zero, List.setIfInBounds_toArray, List.set_cons_zero, List.set_cons_succ]
      refine wpAnyH_take (i := 3) (v := ?_) rfl (by kernel_rfl) (by kernel_rfl) (by kernel_rfl) (fun _ _ _ h => h) (Or.inl ⟨by rfl, ?_⟩) (by assumption) ?_
      rotate_left 1
      · (intro w hSw; (try dsimp only at hSw); go_simp; (try with_reducible rfl))
      try simp only [Act.put, List.getElem_toArray, List.getElem_cons_succ, List.getElem_cons_zero, List.setIfInBounds_toArray, List.set_cons_zero, List.set_cons_succ]
      refine wpAnyH_take (i := 4) (v := ?_) rfl (by kernel_rfl) (by kernel_rfl) (by kernel_rfl) (fun _ _ _ h => h) (Or.inl ⟨by rfl, ?_⟩) (by assumption) ?_
      rotate_left 1
      · (intro w hSw; (try dsimp only at hSw); go_simp; (try with_reducible rfl))
      try simp only [Act.put, List.getElem_toArray, List.getElem_cons_succ, List.getElem_cons_zero, List.setIfInBounds_toArray, List.set_cons_zero, List.set_cons_succ]
      refine wpAnyH_take (i := 5) (v := ?_) rfl (by kernel_rfl) (by kernel_rfl) (by kernel_rfl) (fun _ _ _ h => h) (Or.inl ⟨by rfl, ?_⟩) (by assumption) ?_
      rotate_left 1
      · (intro w hSw; (try dsimp only at hSw); go_simp; (try with_reducible rfl))
      try simp only [Act.put, List.getElem_toArray, List.getElem_cons_succ, List.getElem_cons_zero, List.setIfInBounds_toArray, List.set_cons_zero, List.set_cons_succ]
      refine wpAnyH_take (i := 6) (v := ?_) rfl (by kernel_rfl) (by kernel_rfl) (by kernel_rfl) (fun _ _ _ h => h) (Or.inl ⟨by rfl, ?_⟩) (by assumption) ?_
      rotate_left 1
      · (intro w hSw; (try dsimp only at hSw); go_simp; (try with_reducible rfl))
      try simp only [Act.put, List.getElem_toArray, List.getElem_cons_succ, List.getElem_cons_zero, List.setIfInBounds_toArray, List.set_cons_zero, List.set_cons_succ]
      refine wpAnyH_take (i := 7) (v := ?_) rfl (by kernel_rfl) (by kernel_rfl) (by kernel_rfl) (fun _ _ _ h => h) (Or.inl ⟨by rfl, ?_⟩) (by assumption) ?_
      rotate_left 1
      · (intro w hSw; (try dsimp only at hSw); go_simp; (try with_reducible rfl))
      try simp only [Act.put, List.getElem_toArray, List.getElem_cons_succ, List.getElem_cons_zero, List.setIfInBounds_toArray, List.set_cons_zero, List.set_cons_succ]
      refine wpAnyH_take (i := 8) (v := ?_) rfl (by kernel_rfl) (by kernel_rfl) (by kernel_rfl) (fun _ _ _ h => h) (Or.inl ⟨by rfl, ?_⟩) (by assumption) ?_
      rotate_left 1
      · (intro w hSw; (try dsimp only at hSw); go_simp; (try with_reducible rfl))
      try simp only [Act.put, List.getElem_toArray, List.getElem_cons_succ, List.getElem_cons_zero, List.setIfInBounds_toArray, List.set_cons_zero, List.set_cons_succ]
      refine wpAnyH_take (i := 10) (v := ?_) rfl (by kernel_rfl) (by kernel_rfl) (by kernel_rfl) (fun _ _ _ h => h) (Or.inl ⟨by rfl, ?_⟩) (by assumption) ?_
      rotate_left 1
      · (intro w hSw; (try dsimp only at hSw); go_simp; (try with_reducible rfl))
      try simp only [Act.put, List.getElem_toArray, List.getElem_cons_succ, List.getElem_cons_zero, List.setIfInBounds_toArray, List.set_cons_zero, List.set_cons_succ]
      refine wpAnyH_take (i := 11) (v := ?_) rfl (by kernel_rfl) (by kernel_rfl) (by kernel_rfl) (fun _ _ _ h => h) (Or.inl ⟨by rfl, ?_⟩) (by assumption) ?_
      rotate_left 1
      · (intro w hSw; (try dsimp only at hSw); go_simp; (try with_reducible rfl))
      try simp only [Act.put, List.getElem_toArray, List.getElem_cons_succ, List.getElem_cons_zero, List.setIfInBounds_toArray, List.set_cons_zero, List.set_cons_succ]
      refine wpAnyH_take (i := 12) (v := ?_) rfl (by kernel_rfl) (by kernel_rfl) (by kernel_rfl) (fun _ _ _ h => h) (Or.inl ⟨by rfl, ?_⟩) (by assumption) ?_
      rotate_left 1
      · (intro w hSw; (try dsimp only at hSw); go_simp; (try with_reducible rfl))
      try simp only [Act.put, List.getElem_toArray, List.getElem_cons_succ, List.getElem_cons_zero, List.setIfInBounds_toArray, List.set_cons_zero, List.set_cons_succ]
      refine wpAnyH_ready (rs := [9, 13]) (by kernel_rfl) (by simp) ?_
      refine AllReadyH.cons rfl (fun K hK => ?_) ?_
      · go_simp
        refine hK.out _ _ trivial (fun hHeld => ?_)
        clear hK K
        try simp only [Act.put, List.getElem_toArray, List.getElem_cons_succ, List.getElem_cons_zero, List.setIfInBounds_toArray, List.set_cons_zero, List.set_cons_succ]
        refine wpAnyH_ready (rs := [13]) (by kernel_rfl) (by simp) ?_
        refine AllReadyH.cons rfl (fun K hK => ?_) AllReadyH.nil
        go_simp
        refine hK.out _ _ trivial (fun hHeld => ?_)
        clear hK K
        try simp only [Act.put, List.getElem_toArray, List.getElem_cons_succ, List.getElem_cons_zero, List.setIfInBounds_toArray, List.set_cons_zero, List.set_cons_succ]
        refine wpAnyH_take (i := 14) (v := ?_) rfl (by kernel_rfl) (by kernel_rfl) (by kernel_rfl) (fun _ _ _ h => h) (Or.inl ⟨by rfl, ?_⟩) (by assumption) ?_
        rotate_left 1
        · (intro w hSw; (try dsimp only at hSw); go_simp; (try with_reducible rfl))
        try simp only [Act.put, List.getElem_toArray, List.getElem_cons_succ, List.getElem_cons_zero, List.setIfInBounds_toArray, List.set_cons_zero, List.set_cons_succ]
        refine wpAnyH_ready (rs := [15]) (by kernel_rfl) (by simp) ?_
        refine AllReadyH.cons rfl (fun K hK => ?_) AllReadyH.nil
        go_simp
        refine hK.out _ _ trivial (fun hHeld => ?_)
        clear hK K
        try simp only [Act.put, List.getElem_toArray, List.getElem_cons_succ, List.getElem_cons_zero, List.setIfInBounds_toArray, List.set_cons_zero, List.set_cons_succ]
        refine wpAnyH_take (i := 16) (v := ?_) rfl (by kernel_rfl) (by kernel_rfl) (by kernel_rfl) (fun _ _ _ h => h) (Or.inl ⟨by rfl, ?_⟩) (by assumption) ?_
        rotate_left 1
        · (intro w hSw; (try dsimp only at hSw); go_simp; (try with_reducible rfl))
        try simp only [Act.put, List.getElem_toArray, List.getElem_cons_succ, List.getElem_cons_zero, List.setIfInBounds_toArray, List.set_cons_zero, List.set_cons_succ]
        refine wpAnyH_ready (rs := [17]) (by kernel_rfl) (by simp) ?_
        refine AllReadyH.cons rfl (fun K hK => ?_) AllReadyH.nil
        go_simp
        refine hK.out _ _ trivial (fun hHeld => ?_)
        clear hK K
        try simp only [Act.put, List.getElem_toArray, List.getElem_cons_succ, List.getElem_cons_zero, List.setIfInBounds_toArray, List.set_cons_zero, List.set_cons_succ]
        refine wpAnyH_done (by kernel_rfl) ?_ _
        refine NoPanic.normal ?_
        have HB6 := Lib.hid (HB.out.trans (HBs.out.mono HB.out.size))
        clear HBs k0 k1 k2 k3 j0 j1 j2 j3 k0' k1' k2' k3' j0' j1' j2' j3' hHeld
        generalize ((((w5.setCell ⟨ug, k * 2, none⟩ (.int .i64 yb1)).setCell ⟨ug, k * 2 + 1, none⟩ (.bool yb2)).setCell ⟨ug, (k + 1) * 2, none⟩ (.int .i64 ya1)).setCell ⟨ug, (k + 1) * 2 + 1, none⟩ (.bool ya2)).drew = w6 at *
        have HP6 := Lib.hid (HP3.out.step HB6.out)
        have HS6 := Lib.hid (HS3.out.step HB6.out)
        have HW6 := Lib.hid (HW3.out.step HB6.out)
        obtain ⟨p0, p1, p2⟩ := HP6.out
        go_wp2_with fail
        refine ((CA2 _ _ HS6.out HSee.out).out).mono ?_
        rintro e w7 ⟨rfl, hb⟩
        have hdr := (Below.refl w7.heap.size w7).drew
        have HB7 := Lib.hid ((HB6.out.trans (hb.mono HB6.out.size)).trans (hdr.mono (Nat.le_trans HB6.out.size hb.size)))
        clear hb hdr p0 p1 p2 HP6 HS6 HW6 HSee HB6
        have HP7 := Lib.hid (HP3.out.step HB7.out)
        have HS7 := Lib.hid (HS3.out.step HB7.out)
        have HW7 := Lib.hid (HW3.out.step HB7.out)
        have HT7 := Lib.hid (HW7.out.take (show k ≤ W.length by omega))
        have hkc : k ≤ wc := by obtain ⟨_, _, e, h1, -⟩ := HW7.out; simp at e; omega
        obtain ⟨-, P1, P2⟩ := HP7.out
        go_wp2_with fail
        go_wp2
        go_region_held3 (fun W => W.cell? ⟨w.heap.size, 0, none⟩ = some (.int .i64 (nn : Int)) ∧ W.cell? ⟨w.heap.size, 1, none⟩ = some (.slice ao L.length cap))
          (first | (refine ⟨?_, ?_⟩ <;> with_reducible assumption) | (go_split_ands; refine ⟨?_, ?_⟩ <;> with_reducible assumption))
          (first | (go_at_call 34; (with_reducible refine ((CA3 _ _ HS7.out HT7.out).out).mono ?_); rintro e wn ⟨rfl, hb⟩; have HBq := Lib.hid (HB7.out.trans (hb.mono HB7.out.size)); have HPq := Lib.hid (HP7.out.step hb); clear HB7 HP7 P1 P2 HS7 HT7 HW7 hb; have HB7 := HBq; have HP7 := HPq; clear HBq HPq; obtain ⟨-, P1, P2⟩ := HP7.out))
        go_wp2_with fail
        have hW0 : 0 < W.length := by omega
        have hdr := (Below.refl wn.heap.size wn).drew
        have HB7q := Lib.hid (HB7.out.trans (hdr.mono HB7.out.size))
        clear HB7 HP7 P1 P2 hdr
        have HB7 := HB7q
        clear HB7q
        have HP7 := Lib.hid (HP3.out.step HB7.out)
        have HS7 := Lib.hid (HS3.out.step HB7.out)
        have HW7 := Lib.hid (HW3.out.step HB7.out)
        obtain ⟨-, P1, P2⟩ := HP7.out
        obtain ⟨D1, D2⟩ := HD.out _ HB7.out
        obtain ⟨w7b, hw7b⟩ : ∃ w7b, w7b = wn.drew := ⟨_, rfl⟩
        try rw [← hw7b] at HB7 HP7 HS7 HW7 P1 P2 D1 D2
        refine wp_region_noPanic ?_
        refine wp_region_held_drew (S := fun V => V.cell? ⟨w.heap.size, 0, none⟩ = some (.int .i64 (nn : Int)) ∧ V.cell? ⟨w.heap.size, 1, none⟩ = some (.slice ao L.length cap) ∧ V.cell? ⟨wg, woff, none⟩ = some (.int .i64 a1) ∧ V.cell? ⟨wg, woff + 1, none⟩ = some (.bool a2)) (by kernel_rfl) ?_ (fun hHeld => ?_)
        · rw [← hw7b]; exact ⟨P1, P2, D1, D2⟩
        rw [← hw7b] at hHeld ⊢
        clear hw7b
        refine wpAnyH_take (i := 0) (v := ?_) rfl (by kernel_rfl) (by kernel_rfl) (by kernel_rfl) (fun _ _ _ h => h) (Or.inl ⟨by rfl, ?_⟩) (by assumption) ?_
        rotate_left 1
        · (intro w hSw; (try dsimp only at hSw); go_simp; (try with_reducible rfl))
        try simp only [Act.put, List.getElem_toArray, List.getElem_cons_zero, List.setIfInBounds_toArray, List.set_cons_zero, List.set_cons_succ]
        refine wpAnyH_take (i := 1) (v := ?_) rfl (by kernel_rfl) (by kernel_rfl) (by kernel_rfl) (fun _ _ _ h => h) (Or.inl ⟨by rfl, ?_⟩) (by assumption) ?_
        rotate_left 1
        · (intro w hSw; (try dsimp only at hSw); go_simp; (try with_reducible rfl))
        try simp only [Act.put, List.getElem_toArray, List.getElem_cons_succ, List.getElem_cons_zero, List.setIfInBounds_toArray, List.set_cons_zero, List.set_cons_succ]
        refine wpAnyH_take (i := 3) (v := ?_) rfl (by kernel_rfl) (by kernel_rfl) (by kernel_rfl) (fun _ _ _ h => h) (Or.inl ⟨by rfl, ?_⟩) (by assumption) ?_
        rotate_left 1
        · (intro w hSw; (try dsimp only at hSw); go_simp; (try with_reducible rfl))
        try simp only [Act.put, List.getElem_toArray, List.getElem_cons_succ, List.getElem_cons_zero, List.setIfInBounds_toArray, List.set_cons_zero, List.set_cons_succ]
        refine wpAnyH_take (i := 4) (v := ?_) rfl (by kernel_rfl) (by kernel_rfl) (by kernel_rfl) (fun _ _ _ h => h) (Or.inl ⟨by rfl, ?_⟩) (by assumption) ?_
        rotate_left 1
        · (intro w hSw; (try dsimp only at hSw); go_simp; (try with_reducible rfl))
        try simp only [Act.put, List.getElem_toArray, List.getElem_cons_succ, List.getElem_cons_zero, List.setIfInBounds_toArray, List.set_cons_zero, List.set_cons_succ]
        refine wpAnyH_take (i := 5) (v := ?_) rfl (by kernel_rfl) (by kernel_rfl) (by kernel_rfl) (fun _ _ _ h => h) (Or.inl ⟨by rfl, ?_⟩) (by assumption) ?_
        rotate_left 1
        · (intro w hSw; (try dsimp only at hSw); go_simp; (try with_reducible rfl))
        try simp only [Act.put, List.getElem_toArray, List.getElem_cons_succ, List.getElem_cons_zero, List.setIfInBounds_toArray, List.set_cons_zero, List.set_cons_succ]
        refine wpAnyH_ready (rs := [2, 6]) (by kernel_rfl) (by simp) ?_
        refine AllReadyH.cons rfl (fun K hK => ?_) ?_
        · go_simp
          (go_at_call 40; (with_reducible refine ((CK _ _ HW7.out).out).mono ?_); rintro e w8 ⟨cv, rfl, hcl, hb⟩; obtain ⟨cg, cc, rfl⟩ : ∃ cg cc, cv = .slice (some ⟨cg, 0, none⟩) W.length cc := (by rcases hcl.2 with ⟨rfl, h0⟩ | ⟨g, cap, cur, rfl, _⟩; exact absurd h0 (by omega); exact ⟨g, cap, rfl⟩); have HCL := Lib.hid (hcl.weak HB7.out.size); have HB7q := Lib.hid (HB7.out.trans (hb.mono HB7.out.size)); have HP7q := Lib.hid (HP7.out.step hb); have HS7q := Lib.hid (HS7.out.step hb); have HW7q := Lib.hid (HW7.out.step hb); clear HB7 HP7 HS7 HW7 P1 P2 D1 D2; have HB7 := HB7q; have HP7 := HP7q; have HS7 := HS7q; have HW7 := HW7q; clear HB7q HP7q HS7q HW7q; obtain ⟨-, P1, P2⟩ := HP7.out; obtain ⟨D1, D2⟩ := HD.out _ HB7.out; have HCG := Lib.hid (show w3.heap.size ≤ cg from (World.ownsRow.lt HCL.out cg rfl).1); clear hb hcl)
          go_simp
          refine hK.out _ _ ?_ (fun hHeld => ?_)
          · exact ⟨P1, P2, D1, D2⟩
          clear hK K
          try simp only [Act.put, List.getElem_toArray, List.getElem_cons_succ, List.getElem_cons_zero, List.setIfInBounds_toArray, List.set_cons_zero, List.set_cons_succ]
          refine wpAnyH_ready (rs := [6]) (by kernel_rfl) (by simp) ?_
          refine AllReadyH.cons rfl (fun K hK => ?_) AllReadyH.nil
          go_simp
          have hb := allocB w8 (.cells #[.int .i64 a1, .bool a2] 47)
          have HN := Lib.hid (seeK_new1 w8 (a1, a2) 47)
          have HCLq := Lib.hid (HCL.out.step hb)
          clear HCL
          have HCL := HCLq
          clear HCLq
          have HB7q := Lib.hid (HB7.out.trans (hb.mono HB7.out.size)); have HP7q := Lib.hid (HP7.out.step hb); have HS7q := Lib.hid (HS7.out.step hb); have HW7q := Lib.hid (HW7.out.step hb); clear HB7 HP7 HS7 HW7 P1 P2 D1 D2; have HB7 := HB7q; have HP7 := HP7q; have HS7 := HS7q; have HW7 := HW7q; clear HB7q HP7q HS7q HW7q; obtain ⟨-, P1, P2⟩ := HP7.out; obtain ⟨D1, D2⟩ := HD.out _ HB7.out
          clear hb
          refine hK.out _ _ ?_ (fun hHeld => ?_)
          · exact ⟨P1, P2, D1, D2⟩
          clear hK K
          try simp only [Act.put, List.getElem_toArray, List.getElem_cons_succ, List.getElem_cons_zero, List.setIfInBounds_toArray, List.set_cons_zero, List.set_cons_succ]
          refine wpAnyH_ready (rs := [7]) (by kernel_rfl) (by simp) ?_
          refine AllReadyH.cons rfl (fun K hK => ?_) AllReadyH.nil
          rw [if_pos (by rfl)]
          refine wp_append_strs _ _ 34 rfl 47 i0 Tryd.underlying34 hi0 hz0 hz1 hz2 _ _ W [(a1, a2)] rfl rfl w3.heap.size HCL.out HN.out (by simp) (by simp; omega) HB7.out.size ?_
          intro pa pc w9 hrr hgg
          have hb7 := HB7.out.grown hgg HB7.out.size (fun r e => by cases e; exact HCG.out)
          have HRR : Hid (SeeK w9 (.slice pa (W.length + 1) pc) (W ++ [(a1, a2)])) := Lib.hid (by have h := hrr.sees; rw [List.length_append] at h; exact h)
          clear HCL HN hrr hgg HP7 HS7 HW7 P1 P2 D1 D2
          have HP7 := Lib.hid (HP3.out.step hb7)
          have HS7 := Lib.hid (HS3.out.step hb7)
          have HB7q := Lib.hid hb7
          clear HB7 hb7
          have HB7 := HB7q
          clear HB7q
          obtain ⟨-, P1, P2⟩ := HP7.out
          obtain ⟨D1, D2⟩ := HD.out _ HB7.out
          refine hK.out _ _ ?_ (fun hHeld => ?_)
          · exact ⟨P1, P2, D1, D2⟩
          clear hK K
          try simp only [Act.put, List.getElem_toArray, List.getElem_cons_succ, List.getElem_cons_zero, List.setIfInBounds_toArray, List.set_cons_zero, List.set_cons_succ]
          refine wpAnyH_ready (rs := [8]) (by kernel_rfl) (by simp) ?_
          refine AllReadyH.cons rfl (fun K hK => ?_) AllReadyH.nil
          go_simp
          (go_at_call 34; (with_reducible refine ((CA4 _ _ HS7.out HRR.out).out).mono ?_); rintro e w10 ⟨rfl, hb⟩; have HB7q := Lib.hid (HB7.out.trans (hb.mono HB7.out.size)); have HP7q := Lib.hid (HP7.out.step hb); clear HB7 HP7 P1 P2 D1 D2 HS7 HRR hb; have HB7 := HB7q; have HP7 := HP7q; clear HB7q HP7q; obtain ⟨-, P1, P2⟩ := HP7.out; obtain ⟨D1, D2⟩ := HD.out _ HB7.out)
          go_simp
          refine hK.out _ _ ?_ (fun hHeld => ?_)
          · exact ⟨P1, P2, D1, D2⟩
          clear hK K
          try simp only [Act.put, List.getElem_toArray, List.getElem_cons_succ, List.getElem_cons_zero, List.setIfInBounds_toArray, List.set_cons_zero, List.set_cons_succ]
          refine wpAnyH_take (i := 9) (v := ?_) rfl (by kernel_rfl) (by kernel_rfl) (by kernel_rfl) (fun _ _ _ h => h) (Or.inl ⟨by rfl, ?_⟩) (by assumption) ?_
          rotate_left 1
          · (intro w hSw; (try dsimp only at hSw); go_simp; (try with_reducible rfl))
          try simp only [Act.put, List.getElem_toArray, List.getElem_cons_succ, List.getElem_cons_zero, List.setIfInBounds_toArray, List.set_cons_zero, List.set_cons_succ]
          refine wpAnyH_take (i := 10) (v := ?_) rfl (by kernel_rfl) (by kernel_rfl) (by kernel_rfl) (fun _ _ _ h => h) (Or.inl ⟨by rfl, ?_⟩) (by assumption) ?_
          rotate_left 1
          · (intro w hSw; (try dsimp only at hSw); go_simp; (try with_reducible rfl))
          try simp only [Act.put, List.getElem_toArray, List.getElem_cons_succ, List.getElem_cons_zero, List.setIfInBounds_toArray, List.set_cons_zero, List.set_cons_succ]
          refine wpAnyH_take (i := 11) (v := ?_) rfl (by kernel_rfl) (by kernel_rfl) (by kernel_rfl) (fun _ _ _ h => h) (Or.inl ⟨by rfl, ?_⟩) (by assumption) ?_
          rotate_left 1
          · (intro w hSw; (try dsimp only at hSw); go_simp; (try with_reducible rfl))
          try simp only [Act.put, List.getElem_toArray, List.getElem_cons_succ, List.getElem_cons_zero, List.setIfInBounds_toArray, List.set_cons_zero, List.set_cons_succ]
          refine wpAnyH_take (i := 12) (v := ?_) rfl (by kernel_rfl) (by kernel_rfl) (by kernel_rfl) (fun _ _ _ h => h) (Or.inl ⟨by rfl, ?_⟩) (by assumption) ?_
          rotate_left 1
          · (intro w hSw; (try dsimp only at hSw); go_simp; (try with_reducible rfl))
          try simp only [Act.put, List.getElem_toArray, List.getElem_cons_succ, List.getElem_cons_zero, List.setIfInBounds_toArray, List.set_cons_zero, List.set_cons_succ]
          refine wpAnyH_take (i := 13) (v := ?_) rfl (by kernel_rfl) (by kernel_rfl) (by kernel_rfl) (fun _ _ _ h => h) (Or.inl ⟨by rfl, ?_⟩) (by assumption) ?_
          rotate_left 1
          · (intro w hSw; (try dsimp only at hSw); go_simp; (try with_reducible rfl))
          try simp only [Act.put, List.getElem_toArray, List.getElem_cons_succ, List.getElem_cons_zero, List.setIfInBounds_toArray, List.set_cons_zero, List.set_cons_succ]
          refine wpAnyH_done (by kernel_rfl) ?_ _
          refine NoPanic.normal ?_
          have hee : ((!en) == (!en)) = true := by simp
          go_wp2_with fail
          refine (awake14_any _ (HST.out.step (below_nxt HB3.out HB7.out))).mono ?_
          rintro e wz ⟨rfl, hbz⟩
          have HBz := Lib.hid (below_nxt (below_nxt HB3.out HB7.out) hbz)
          clear hbz
          go_wp2
          go_ret
          exact ⟨rfl, HBz.out⟩
        refine AllReadyH.cons rfl (fun K hK => ?_) AllReadyH.nil
        go_simp
        have hb := allocB w7b (.cells #[.int .i64 a1, .bool a2] 47)
        have HN := Lib.hid (seeK_new1 w7b (a1, a2) 47)
        have HB7q := Lib.hid (HB7.out.trans (hb.mono HB7.out.size)); have HP7q := Lib.hid (HP7.out.step hb); have HS7q := Lib.hid (HS7.out.step hb); have HW7q := Lib.hid (HW7.out.step hb); clear HB7 HP7 HS7 HW7 P1 P2 D1 D2; have HB7 := HB7q; have HP7 := HP7q; have HS7 := HS7q; have HW7 := HW7q; clear HB7q HP7q HS7q HW7q; obtain ⟨-, P1, P2⟩ := HP7.out; obtain ⟨D1, D2⟩ := HD.out _ HB7.out
        clear hb
        refine hK.out _ _ ?_ (fun hHeld => ?_)
        · exact ⟨P1, P2, D1, D2⟩
        clear hK K
        try simp only [Act.put, List.getElem_toArray, List.getElem_cons_succ, List.getElem_cons_zero, List.setIfInBounds_toArray, List.set_cons_zero, List.set_cons_succ]
        refine wpAnyH_ready (rs := [2]) (by kernel_rfl) (by simp) ?_
        refine AllReadyH.cons rfl (fun K hK => ?_) AllReadyH.nil
        go_simp
        (go_at_call 40; (with_reducible refine ((CK _ _ HW7.out).out).mono ?_); rintro e w8 ⟨cv, rfl, hcl, hb⟩; obtain ⟨cg, cc, rfl⟩ : ∃ cg cc, cv = .slice (some ⟨cg, 0, none⟩) W.length cc := (by rcases hcl.2 with ⟨rfl, h0⟩ | ⟨g, cap, cur, rfl, _⟩; exact absurd h0 (by omega); exact ⟨g, cap, rfl⟩); have HCL := Lib.hid (hcl.weak HB7.out.size); have HB7q := Lib.hid (HB7.out.trans (hb.mono HB7.out.size)); have HP7q := Lib.hid (HP7.out.step hb); have HS7q := Lib.hid (HS7.out.step hb); have HW7q := Lib.hid (HW7.out.step hb); clear HB7 HP7 HS7 HW7 P1 P2 D1 D2; have HB7 := HB7q; have HP7 := HP7q; have HS7 := HS7q; have HW7 := HW7q; clear HB7q HP7q HS7q HW7q; obtain ⟨-, P1, P2⟩ := HP7.out; obtain ⟨D1, D2⟩ := HD.out _ HB7.out; have HCG := Lib.hid (show w3.heap.size ≤ cg from (World.ownsRow.lt HCL.out cg rfl).1); have HNq := Lib.hid (HN.out.step hb); clear HN; have HN := HNq; clear HNq; clear hb hcl)
        go_simp
        refine hK.out _ _ ?_ (fun hHeld => ?_)
        · exact ⟨P1, P2, D1, D2⟩
        clear hK K
        try simp only [Act.put, List.getElem_toArray, List.getElem_cons_succ, List.getElem_cons_zero, List.setIfInBounds_toArray, List.set_cons_zero, List.set_cons_succ]
        refine wpAnyH_ready (rs := [7]) (by kernel_rfl) (by simp) ?_
        refine AllReadyH.cons rfl (fun K hK => ?_) AllReadyH.nil
        rw [if_pos (by rfl)]
        refine wp_append_strs _ _ 34 rfl 47 i0 Tryd.underlying34 hi0 hz0 hz1 hz2 _ _ W [(a1, a2)] rfl rfl w3.heap.size HCL.out HN.out (by simp) (by simp; omega) HB7.out.size ?_
        intro pa pc w9 hrr hgg
        have hb7 := HB7.out.grown hgg HB7.out.size (fun r e => by cases e; exact HCG.out)
        have HRR : Hid (SeeK w9 (.slice pa (W.length + 1) pc) (W ++ [(a1, a2)])) := Lib.hid (by have h := hrr.sees; rw [List.length_append] at h; exact h)
        clear HCL HN hrr hgg HP7 HS7 HW7 P1 P2 D1 D2
        have HP7 := Lib.hid (HP3.out.step hb7)
        have HS7 := Lib.hid (HS3.out.step hb7)
        have HB7q := Lib.hid hb7
        clear HB7 hb7
        have HB7 := HB7q
        clear HB7q
        obtain ⟨-, P1, P2⟩ := HP7.out
        obtain ⟨D1, D2⟩ := HD.out _ HB7.out
        refine hK.out _ _ ?_ (fun hHeld => ?_)
        · exact ⟨P1, P2, D1, D2⟩
        clear hK K
        try simp only [Act.put, List.getElem_toArray, List.getElem_cons_succ, List.getElem_cons_zero, List.setIfInBounds_toArray, List.set_cons_zero, List.set_cons_succ]
        refine wpAnyH_ready (rs := [8]) (by kernel_rfl) (by simp) ?_
        refine AllReadyH.cons rfl (fun K hK => ?_) AllReadyH.nil
        go_simp
        (go_at_call 34; (with_reducible refine ((CA4 _ _ HS7.out HRR.out).out).mono ?_); rintro e w10 ⟨rfl, hb⟩; have HB7q := Lib.hid (HB7.out.trans (hb.mono HB7.out.size)); have HP7q := Lib.hid (HP7.out.step hb); clear HB7 HP7 P1 P2 D1 D2 HS7 HRR hb; have HB7 := HB7q; have HP7 := HP7q; clear HB7q HP7q; obtain ⟨-, P1, P2⟩ := HP7.out; obtain ⟨D1, D2⟩ := HD.out _ HB7.out)
        go_simp
        refine hK.out _ _ ?_ (fun hHeld => ?_)
        · exact ⟨P1, P2, D1, D2⟩
        clear hK K
        try simp only [Act.put, List.getElem_toArray, List.getElem_cons_succ, List.getElem_cons_zero, List.setIfInBounds_toArray, List.set_cons_zero, List.set_cons_succ]
        refine wpAnyH_take (i := 9) (v := ?_) rfl (by kernel_rfl) (by kernel_rfl) (by kernel_rfl) (fun _ _ _ h => h) (Or.inl ⟨by rfl, ?_⟩) (by assumption) ?_
        rotate_left 1
        · (intro w hSw; (try dsimp only at hSw); go_simp; (try with_reducible rfl))
        try simp only [Act.put, List.getElem_toArray, List.getElem_cons_succ, List.getElem_cons_zero, List.setIfInBounds_toArray, List.set_cons_zero, List.set_cons_succ]
        refine wpAnyH_take (i := 10) (v := ?_) rfl (by kernel_rfl) (by kernel_rfl) (by kernel_rfl) (fun _ _ _ h => h) (Or.inl ⟨by rfl, ?_⟩) (by assumption) ?_
        rotate_left 1
        · (intro w hSw; (try dsimp only at hSw); go_simp; (try with_reducible rfl))
        try simp only [Act.put, List.getElem_toArray, List.getElem_cons_succ, List.getElem_cons_zero, List.setIfInBounds_toArray, List.set_cons_zero, List.set_cons_succ]
        refine wpAnyH_take (i := 11) (v := ?_) rfl (by kernel_rfl) (by kernel_rfl) (by kernel_rfl) (fun _ _ _ h => h) (Or.inl ⟨by rfl, ?_⟩) (by assumption) ?_
        rotate_left 1
        · (intro w hSw; (try dsimp only at hSw); go_simp; (try with_reducible rfl))
        try simp only [Act.put, List.getElem_toArray, List.getElem_cons_succ, List.getElem_cons_zero, List.setIfInBounds_toArray, List.set_cons_zero, List.set_cons_succ]
        refine wpAnyH_take (i := 12) (v := ?_) rfl (by kernel_rfl) (by kernel_rfl) (by kernel_rfl) (fun _ _ _ h => h) (Or.inl ⟨by rfl, ?_⟩) (by assumption) ?_
        rotate_left 1
        · (intro w hSw; (try dsimp only at hSw); go_simp; (try with_reducible rfl))
        try simp only [Act.put, List.getElem_toArray, List.getElem_cons_succ, List.getElem_cons_zero, List.setIfInBounds_toArray, List.set_cons_zero, List.set_cons_succ]
        refine wpAnyH_take (i := 13) (v := ?_) rfl (by kernel_rfl) (by kernel_rfl) (by kernel_rfl) (fun _ _ _ h => h) (Or.inl ⟨by rfl, ?_⟩) (by assumption) ?_
        rotate_left 1
        · (intro w hSw; (try dsimp only at hSw); go_simp; (try with_reducible rfl))
        try simp only [Act.put, List.getElem_toArray, List.getElem_cons_succ, List.getElem_cons_zero, List.setIfInBounds_toArray, List.set_cons_zero, List.set_cons_succ]
        refine wpAnyH_done (by kernel_rfl) ?_ _
        refine NoPanic.normal ?_
        have hee : ((!en) == (!en)) = true := by simp
        go_wp2_with fail
        refine (awake14_any _ (HST.out.step (below_nxt HB3.out HB7.out))).mono ?_
        rintro e wz ⟨rfl, hbz⟩
        have HBz := Lib.hid (below_nxt (below_nxt HB3.out HB7.out) hbz)
        clear hbz
        go_wp2
        go_ret
        exact ⟨rfl, HBz.out⟩
      refine AllReadyH.cons rfl (fun K hK => ?_) AllReadyH.nil
      go_simp
      refine hK.out _ _ trivial (fun hHeld => ?_)
      clear hK K
      try simp only [Act.put, List.getElem_toArray, List.getElem_cons_succ, List.getElem_cons_zero, List.setIfInBounds_toArray, List.set_cons_zero, List.set_cons_succ]
      refine wpAnyH_ready (rs := [9]) (by kernel_rfl) (by simp) ?_
      refine AllReadyH.cons rfl (fun K hK => ?_) AllReadyH.nil
      go_simp
      refine hK.out _ _ trivial (fun hHeld => ?_)
      clear hK K
      try simp only [Act.put, List.getElem_toArray, List.getElem_cons_succ, List.getElem_cons_zero, List.setIfInBounds_toArray, List.set_cons_zero, List.set_cons_succ]
      refine wpAnyH_take (i := 14) (v := ?_) rfl (by kernel_rfl) (by kernel_rfl) (by kernel_rfl) (fun _ _ _ h => h) (Or.inl ⟨by rfl, ?_⟩) (by assumption) ?_
      rotate_left 1
      · (intro w hSw; (try dsimp only at hSw); go_simp; (try with_reducible rfl))
      try simp only [Act.put, List.getElem_toArray, List.getElem_cons_succ, List.getElem_cons_zero, List.setIfInBounds_toArray, List.set_cons_zero, List.set_cons_succ]
      refine wpAnyH_ready (rs := [15]) (by kernel_rfl) (by simp) ?_
      refine AllReadyH.cons rfl (fun K hK => ?_) AllReadyH.nil
      go_simp
      refine hK.out _ _ trivial (fun hHeld => ?_)
      clear hK K
      try simp only [Act.put, List.getElem_toArray, List.getElem_cons_succ, List.getElem_cons_zero, List.setIfInBounds_toArray, List.set_cons_zero, List.set_cons_succ]
      refine wpAnyH_take (i := 16) (v := ?_) rfl (by kernel_rfl) (by kernel_rfl) (by kernel_rfl) (fun _ _ _ h => h) (Or.inl ⟨by rfl, ?_⟩) (by assumption) ?_
      rotate_left 1
      · (intro w hSw; (try dsimp only at hSw); go_simp; (try with_reducible rfl))
      try simp only [Act.put, List.getElem_toArray, List.getElem_cons_succ, List.getElem_cons_zero, List.setIfInBounds_toArray, List.set_cons_zero, List.set_cons_succ]
      refine wpAnyH_ready (rs := [17]) (by kernel_rfl) (by simp) ?_
      refine AllReadyH.cons rfl (fun K hK => ?_) AllReadyH.nil
      go_simp
      refine hK.out _ _ trivial (fun hHeld => ?_)
      clear hK K
      try simp only [Act.put, List.getElem_toArray, List.getElem_cons_succ, List.getElem_cons_zero, List.setIfInBounds_toArray, List.set_cons_zero, List.set_cons_succ]
      refine wpAnyH_done (by kernel_rfl) ?_ _
      refine NoPanic.normal ?_
      have HB6 := Lib.hid (HB.out.trans (HBs.out.mono HB.out.size))
      clear HBs k0 k1 k2 k3 j0 j1 j2 j3 k0' k1' k2' k3' j0' j1' j2' j3' hHeld
      generalize ((((w5.setCell ⟨ug, k * 2, none⟩ (.int .i64 yb1)).setCell ⟨ug, k * 2 + 1, none⟩ (.bool yb2)).setCell ⟨ug, (k + 1) * 2, none⟩ (.int .i64 ya1)).setCell ⟨ug, (k + 1) * 2 + 1, none⟩ (.bool ya2)).drew = w6 at *
      have HP6 := Lib.hid (HP3.out.step HB6.out)
      have HS6 := Lib.hid (HS3.out.step HB6.out)
      have HW6 := Lib.hid (HW3.out.step HB6.out)
      obtain ⟨p0, p1, p2⟩ := HP6.out
      go_wp2_with fail
      refine ((CA2 _ _ HS6.out HSee.out).out).mono ?_
      rintro e w7 ⟨rfl, hb⟩
      have hdr := (Below.refl w7.heap.size w7).drew
      have HB7 := Lib.hid ((HB6.out.trans (hb.mono HB6.out.size)).trans (hdr.mono (Nat.le_trans HB6.out.size hb.size)))
      clear hb hdr p0 p1 p2 HP6 HS6 HW6 HSee HB6
      have HP7 := Lib.hid (HP3.out.step HB7.out)
      have HS7 := Lib.hid (HS3.out.step HB7.out)
      have HW7 := Lib.hid (HW3.out.step HB7.out)
      have HT7 := Lib.hid (HW7.out.take (show k ≤ W.length by omega))
      have hkc : k ≤ wc := by obtain ⟨_, _, e, h1, -⟩ := HW7.out; simp at e; omega
      obtain ⟨-, P1, P2⟩ := HP7.out
      go_wp2_with fail
      go_wp2
      go_region_held3 (fun W => W.cell? ⟨w.heap.size, 0, none⟩ = some (.int .i64 (nn : Int)) ∧ W.cell? ⟨w.heap.size, 1, none⟩ = some (.slice ao L.length cap))
        (first | (refine ⟨?_, ?_⟩ <;> with_reducible assumption) | (go_split_ands; refine ⟨?_, ?_⟩ <;> with_reducible assumption))
        (first | (go_at_call 34; (with_reducible refine ((CA3 _ _ HS7.out HT7.out).out).mono ?_); rintro e wn ⟨rfl, hb⟩; have HBq := Lib.hid (HB7.out.trans (hb.mono HB7.out.size)); have HPq := Lib.hid (HP7.out.step hb); clear HB7 HP7 P1 P2 HS7 HT7 HW7 hb; have HB7 := HBq; have HP7 := HPq; clear HBq HPq; obtain ⟨-, P1, P2⟩ := HP7.out))
      go_wp2_with fail
      have hW0 : 0 < W.length := by omega
      have hdr := (Below.refl wn.heap.size wn).drew
      have HB7q := Lib.hid (HB7.out.trans (hdr.mono HB7.out.size))
      clear HB7 HP7 P1 P2 hdr
      have HB7 := HB7q
      clear HB7q
      have HP7 := Lib.hid (HP3.out.step HB7.out)
      have HS7 := Lib.hid (HS3.out.step HB7.out)
      have HW7 := Lib.hid (HW3.out.step HB7.out)
      obtain ⟨-, P1, P2⟩ := HP7.out
      obtain ⟨D1, D2⟩ := HD.out _ HB7.out
      obtain ⟨w7b, hw7b⟩ : ∃ w7b, w7b = wn.drew := ⟨_, rfl⟩
      try rw [← hw7b] at HB7 HP7 HS7 HW7 P1 P2 D1 D2
      refine wp_region_noPanic ?_
      refine wp_region_held_drew (S := fun V => V.cell? ⟨w.heap.size, 0, none⟩ = some (.int .i64 (nn : Int)) ∧ V.cell? ⟨w.heap.size, 1, none⟩ = some (.slice ao L.length cap) ∧ V.cell? ⟨wg, woff, none⟩ = some (.int .i64 a1) ∧ V.cell? ⟨wg, woff + 1, none⟩ = some (.bool a2)) (by kernel_rfl) ?_ (fun hHeld => ?_)
      · rw [← hw7b]; exact ⟨P1, P2, D1, D2⟩
      rw [← hw7b] at hHeld ⊢
      clear hw7b
      refine wpAnyH_take (i := 0) (v := ?_) rfl (by kernel_rfl) (by kernel_rfl) (by kernel_rfl) (fun _ _ _ h => h) (Or.inl ⟨by rfl, ?_⟩) (by assumption) ?_
      rotate_left 1
      · (intro w hSw; (try dsimp only at hSw); go_simp; (try with_reducible rfl))
      try simp only [Act.put, List.getElem_toArray, List.getElem_cons_zero, List.setIfInBounds_toArray, List.set_cons_zero, List.set_cons_succ]
      refine wpAnyH_take (i := 1) (v := ?_) rfl (by kernel_rfl) (by kernel_rfl) (by kernel_rfl) (fun _ _ _ h => h) (Or.inl ⟨by rfl, ?_⟩) (by assumption) ?_
      rotate_left 1
      · (intro w hSw; (try dsimp only at hSw); go_simp; (try with_reducible rfl))
      try simp only [Act.put, List.getElem_toArray, List.getElem_cons_succ, List.getElem_cons_zero, List.setIfInBounds_toArray, List.set_cons_zero, List.set_cons_succ]
      refine wpAnyH_take (i := 3) (v := ?_) rfl (by kernel_rfl) (by kernel_rfl) (by kernel_rfl) (fun _ _ _ h => h) (Or.inl ⟨by rfl, ?_⟩) (by assumption) ?_
      rotate_left 1
      · (intro w hSw; (try dsimp only at hSw); go_simp; (try with_reducible rfl))
      try simp only [Act.put, List.getElem_toArray, List.getElem_cons_succ, List.getElem_cons_zero, List.setIfInBounds_toArray, List.set_cons_zero, List.set_cons_succ]
      refine wpAnyH_take (i := 4) (v := ?_) rfl (by kernel_rfl) (by kernel_rfl) (by kernel_rfl) (fun _ _ _ h => h) (Or.inl ⟨by rfl, ?_⟩) (by assumption) ?_
      rotate_left 1
      · (intro w hSw; (try dsimp only at hSw); go_simp; (try with_reducible rfl))
      try simp only [Act.put, List.getElem_toArray, List.getElem_cons_succ, List.getElem_cons_zero, List.setIfInBounds_toArray, List.set_cons_zero, List.set_cons_succ]
      refine wpAnyH_take (i := 5) (v := ?_) rfl (by kernel_rfl) (by kernel_rfl) (by kernel_rfl) (fun _ _ _ h => h) (Or.inl ⟨by rfl, ?_⟩) (by assumption) ?_
      rotate_left 1
      · (intro w hSw; (try dsimp only at hSw); go_simp; (try with_reducible rfl))
      try simp only [Act.put, List.getElem_toArray, List.getElem_cons_succ, List.getElem_cons_zero, List.setIfInBounds_toArray, List.set_cons_zero, List.set_cons_succ]
      refine wpAnyH_ready (rs := [2, 6]) (by kernel_rfl) (by simp) ?_
      refine AllReadyH.cons rfl (fun K hK => ?_) ?_
      · go_simp
        (go_at_call 40; (with_reducible refine ((CK _ _ HW7.out).out).mono ?_); rintro e w8 ⟨cv, rfl, hcl, hb⟩; obtain ⟨cg, cc, rfl⟩ : ∃ cg cc, cv = .slice (some ⟨cg, 0, none⟩) W.length cc := (by rcases hcl.2 with ⟨rfl, h0⟩ | ⟨g, cap, cur, rfl, _⟩; exact absurd h0 (by omega); exact ⟨g, cap, rfl⟩); have HCL := Lib.hid (hcl.weak HB7.out.size); have HB7q := Lib.hid (HB7.out.trans (hb.mono HB7.out.size)); have HP7q := Lib.hid (HP7.out.step hb); have HS7q := Lib.hid (HS7.out.step hb); have HW7q := Lib.hid (HW7.out.step hb); clear HB7 HP7 HS7 HW7 P1 P2 D1 D2; have HB7 := HB7q; have HP7 := HP7q; have HS7 := HS7q; have HW7 := HW7q; clear HB7q HP7q HS7q HW7q; obtain ⟨-, P1, P2⟩ := HP7.out; obtain ⟨D1, D2⟩ := HD.out _ HB7.out; have HCG := Lib.hid (show w3.heap.size ≤ cg from (World.ownsRow.lt HCL.out cg rfl).1); clear hb hcl)
        go_simp
        refine hK.out _ _ ?_ (fun hHeld => ?_)
        · exact ⟨P1, P2, D1, D2⟩
        clear hK K
        try simp only [Act.put, List.getElem_toArray, List.getElem_cons_succ, List.getElem_cons_zero, List.setIfInBounds_toArray, List.set_cons_zero, List.set_cons_succ]
        refine wpAnyH_ready (rs := [6]) (by kernel_rfl) (by simp) ?_
        refine AllReadyH.cons rfl (fun K hK => ?_) AllReadyH.nil
        go_simp
        have hb := allocB w8 (.cells #[.int .i64 a1, .bool a2] 47)
        have HN := Lib.hid (seeK_new1 w8 (a1, a2) 47)
        have HCLq := Lib.hid (HCL.out.step hb)
        clear HCL
        have HCL := HCLq
        clear HCLq
        have HB7q := Lib.hid (HB7.out.trans (hb.mono HB7.out.size)); have HP7q := Lib.hid (HP7.out.step hb); have HS7q := Lib.hid (HS7.out.step hb); have HW7q := Lib.hid (HW7.out.step hb); clear HB7 HP7 HS7 HW7 P1 P2 D1 D2; have HB7 := HB7q; have HP7 := HP7q; have HS7 := HS7q; have HW7 := HW7q; clear HB7q HP7q HS7q HW7q; obtain ⟨-, P1, P2⟩ := HP7.out; obtain ⟨D1, D2⟩ := HD.out _ HB7.out
        clear hb
        refine hK.out _ _ ?_ (fun hHeld => ?_)
        · exact ⟨P1, P2, D1, D2⟩
        clear hK K
        try simp only [Act.put, List.getElem_toArray, List.getElem_cons_succ, List.getElem_cons_zero, List.setIfInBounds_toArray, List.set_cons_zero, List.set_cons_succ]
        refine wpAnyH_ready (rs := [7]) (by kernel_rfl) (by simp) ?_
        refine AllReadyH.cons rfl (fun K hK => ?_) AllReadyH.nil
        rw [if_pos (by rfl)]
        refine wp_append_strs _ _ 34 rfl 47 i0 Tryd.underlying34 hi0 hz0 hz1 hz2 _ _ W [(a1, a2)] rfl rfl w3.heap.size HCL.out HN.out (by simp) (by simp; omega) HB7.out.size ?_
        intro pa pc w9 hrr hgg
        have hb7 := HB7.out.grown hgg HB7.out.size (fun r e => by cases e; exact HCG.out)
        have HRR : Hid (SeeK w9 (.slice pa (W.length + 1) pc) (W ++ [(a1, a2)])) := Lib.hid (by have h := hrr.sees; rw [List.length_append] at h; exact h)
        clear HCL HN hrr hgg HP7 HS7 HW7 P1 P2 D1 D2
        have HP7 := Lib.hid (HP3.out.step hb7)
        have HS7 := Lib.hid (HS3.out.step hb7)
        have HB7q := Lib.hid hb7
        clear HB7 hb7
        have HB7 := HB7q
        clear HB7q
        obtain ⟨-, P1, P2⟩ := HP7.out
        obtain ⟨D1, D2⟩ := HD.out _ HB7.out
        refine hK.out _ _ ?_ (fun hHeld => ?_)
        · exact ⟨P1, P2, D1, D2⟩
        clear hK K
        try simp only [Act.put, List.getElem_toArray, List.getElem_cons_succ, List.getElem_cons_zero, List.setIfInBounds_toArray, List.set_cons_zero, List.set_cons_succ]
        refine wpAnyH_ready (rs := [8]) (by kernel_rfl) (by simp) ?_
        refine AllReadyH.cons rfl (fun K hK => ?_) AllReadyH.nil
        go_simp
        (go_at_call 34; (with_reducible refine ((CA4 _ _ HS7.out HRR.out).out).mono ?_); rintro e w10 ⟨rfl, hb⟩; have HB7q := Lib.hid (HB7.out.trans (hb.mono HB7.out.size)); have HP7q := Lib.hid (HP7.out.step hb); clear HB7 HP7 P1 P2 D1 D2 HS7 HRR hb; have HB7 := HB7q; have HP7 := HP7q; clear HB7q HP7q; obtain ⟨-, P1, P2⟩ := HP7.out; obtain ⟨D1, D2⟩ := HD.out _ HB7.out)
        go_simp
        refine hK.out _ _ ?_ (fun hHeld => ?_)
        · exact ⟨P1, P2, D1, D2⟩
        clear hK K
        try simp only [Act.put, List.getElem_toArray, List.getElem_cons_succ, List.getElem_cons_zero, List.setIfInBounds_toArray, List.set_cons_zero, List.set_cons_succ]
        refine wpAnyH_take (i := 9) (v := ?_) rfl (by kernel_rfl) (by kernel_rfl) (by kernel_rfl) (fun _ _ _ h => h) (Or.inl ⟨by rfl, ?_⟩) (by assumption) ?_
        rotate_left 1
        · (intro w hSw; (try dsimp only at hSw); go_simp; (try with_reducible rfl))
        try simp only [Act.put, List.getElem_toArray, List.getElem_cons_succ, List.getElem_cons_zero, List.setIfInBounds_toArray, List.set_cons_zero, List.set_cons_succ]
        refine wpAnyH_take (i := 10) (v := ?_) rfl (by kernel_rfl) (by kernel_rfl) (by kernel_rfl) (fun _ _ _ h => h) (Or.inl ⟨by rfl, ?_⟩) (by assumption) ?_
        rotate_left 1
        · (intro w hSw; (try dsimp only at hSw); go_simp; (try with_reducible rfl))
        try simp only [Act.put, List.getElem_toArray, List.getElem_cons_succ, List.getElem_cons_zero, List.setIfInBounds_toArray, List.set_cons_zero, List.set_cons_succ]
        refine wpAnyH_take (i := 11) (v := ?_) rfl (by kernel_rfl) (by kernel_rfl) (by kernel_rfl) (fun _ _ _ h => h) (Or.inl ⟨by rfl, ?_⟩) (by assumption) ?_
        rotate_left 1
        · (intro w hSw; (try dsimp only at hSw); go_simp; (try with_reducible rfl))
        try simp only [Act.put, List.getElem_toArray, List.getElem_cons_succ, List.getElem_cons_zero, List.setIfInBounds_toArray, List.set_cons_zero, List.set_cons_succ]
        refine wpAnyH_take (i := 12) (v := ?_) rfl (by kernel_rfl) (by kernel_rfl) (by kernel_rfl) (fun _ _ _ h => h) (Or.inl ⟨by rfl, ?_⟩) (by assumption) ?_
        rotate_left 1
        · (intro w hSw; (try dsimp only at hSw); go_simp; (try with_reducible rfl))
        try simp only [Act.put, List.getElem_toArray, List.getElem_cons_succ, List.getElem_cons_zero, List.setIfInBounds_toArray, List.set_cons_zero, List.set_cons_succ]
        refine wpAnyH_take (i := 13) (v := ?_) rfl (by kernel_rfl) (by kernel_rfl) (by kernel_rfl) (fun _ _ _ h => h) (Or.inl ⟨by rfl, ?_⟩) (by assumption) ?_
        rotate_left 1
        · (intro w hSw; (try dsimp only at hSw); go_simp; (try with_reducible rfl))
        try simp only [Act.put, List.getElem_toArray, List.getElem_cons_succ, List.getElem_cons_zero, List.setIfInBounds_toArray, List.set_cons_zero, List.set_cons_succ]
        refine wpAnyH_done (by kernel_rfl) ?_ _
        refine NoPanic.normal ?_
        have hee : ((!en) == (!en)) = true := by simp
        go_wp2_with fail
        refine (awake14_any _ (HST.out.step (below_nxt HB3.out HB7.out))).mono ?_
        rintro e wz ⟨rfl, hbz⟩
        have HBz := Lib.hid (below_nxt (below_nxt HB3.out HB7.out) hbz)
        clear hbz
        go_wp2
        go_ret
        exact ⟨rfl, HBz.out⟩
      refine AllReadyH.cons rfl (fun K hK => ?_) AllReadyH.nil
      go_simp
      have hb := allocB w7b (.cells #[.int .i64 a1, .bool a2] 47)
      have HN := Lib.hid (seeK_new1 w7b (a1, a2) 47)
      have HB7q := Lib.hid (HB7.out.trans (hb.mono HB7.out.size)); have HP7q := Lib.hid (HP7.out.step hb); have HS7q := Lib.hid (HS7.out.step hb); have HW7q := Lib.hid (HW7.out.step hb); clear HB7 HP7 HS7 HW7 P1 P2 D1 D2; have HB7 := HB7q; have HP7 := HP7q; have HS7 := HS7q; have HW7 := HW7q; clear HB7q HP7q HS7q HW7q; obtain ⟨-, P1, P2⟩ := HP7.out; obtain ⟨D1, D2⟩ := HD.out _ HB7.out
      clear hb
      refine hK.out _ _ ?_ (fun hHeld => ?_)
      · exact ⟨P1, P2, D1, D2⟩
      clear hK K
      try simp only [Act.put, List.getElem_toArray, List.getElem_cons_succ, List.getElem_cons_zero, List.setIfInBounds_toArray, List.set_cons_zero, List.set_cons_succ]
      refine wpAnyH_ready (rs := [2]) (by kernel_rfl) (by simp) ?_
      refine AllReadyH.cons rfl (fun K hK => ?_) AllReadyH.nil
      go_simp
      (go_at_call 40; (with_reducible refine ((CK _ _ HW7.out).out).mono ?_); rintro e w8 ⟨cv, rfl, hcl, hb⟩; obtain ⟨cg, cc, rfl⟩ : ∃ cg cc, cv = .slice (some ⟨cg, 0, none⟩) W.length cc := (by rcases hcl.2 with ⟨rfl, h0⟩ | ⟨g, cap, cur, rfl, _⟩; exact absurd h0 (by omega); exact ⟨g, cap, rfl⟩); have HCL := Lib.hid (hcl.weak HB7.out.size); have HB7q := Lib.hid (HB7.out.trans (hb.mono HB7.out.size)); have HP7q := Lib.hid (HP7.out.step hb); have HS7q := Lib.hid (HS7.out.step hb); have HW7q := Lib.hid (HW7.out.step hb); clear HB7 HP7 HS7 HW7 P1 P2 D1 D2; have HB7 := HB7q; have HP7 := HP7q; have HS7 := HS7q; have HW7 := HW7q; clear HB7q HP7q HS7q HW7q; obtain ⟨-, P1, P2⟩ := HP7.out; obtain ⟨D1, D2⟩ := HD.out _ HB7.out; have HCG := Lib.hid (show w3.heap.size ≤ cg from (World.ownsRow.lt HCL.out cg rfl).1); have HNq := Lib.hid (HN.out.step hb); clear HN; have HN := HNq; clear HNq; clear hb hcl)
      go_simp
      refine hK.out _ _ ?_ (fun hHeld => ?_)
      · exact ⟨P1, P2, D1, D2⟩
      clear hK K
      try simp only [Act.put, List.getElem_toArray, List.getElem_cons_succ, List.getElem_cons_zero, List.setIfInBounds_toArray, List.set_cons_zero, List.set_cons_succ]
      refine wpAnyH_ready (rs := [7]) (by kernel_rfl) (by simp) ?_
      refine AllReadyH.cons rfl (fun K hK => ?_) AllReadyH.nil
      rw [if_pos (by rfl)]
      refine wp_append_strs _ _ 34 rfl 47 i0 Tryd.underlying34 hi0 hz0 hz1 hz2 _ _ W [(a1, a2)] rfl rfl w3.heap.size HCL.out HN.out (by simp) (by simp; omega) HB7.out.size ?_
      intro pa pc w9 hrr hgg
      have hb7 := HB7.out.grown hgg HB7.out.size (fun r e => by cases e; exact HCG.out)
      have HRR : Hid (SeeK w9 (.slice pa (W.length + 1) pc) (W ++ [(a1, a2)])) := Lib.hid (by have h := hrr.sees; rw [List.length_append] at h; exact h)
      clear HCL HN hrr hgg HP7 HS7 HW7 P1 P2 D1 D2
      have HP7 := Lib.hid (HP3.out.step hb7)
      have HS7 := Lib.hid (HS3.out.step hb7)
      have HB7q := Lib.hid hb7
      clear HB7 hb7
      have HB7 := HB7q
      clear HB7q
      obtain ⟨-, P1, P2⟩ := HP7.out
      obtain ⟨D1, D2⟩ := HD.out _ HB7.out
      refine hK.out _ _ ?_ (fun hHeld => ?_)
      · exact ⟨P1, P2, D1, D2⟩
      clear hK K
      try simp only [Act.put, List.getElem_toArray, List.getElem_cons_succ, List.getElem_cons_zero, List.setIfInBounds_toArray, List.set_cons_zero, List.set_cons_succ]
      refine wpAnyH_ready (rs := [8]) (by kernel_rfl) (by simp) ?_
      refine AllReadyH.cons rfl (fun K hK => ?_) AllReadyH.nil
      go_simp
      (go_at_call 34; (with_reducible refine ((CA4 _ _ HS7.out HRR.out).out).mono ?_); rintro e w10 ⟨rfl, hb⟩; have HB7q := Lib.hid (HB7.out.trans (hb.mono HB7.out.size)); have HP7q := Lib.hid (HP7.out.step hb); clear HB7 HP7 P1 P2 D1 D2 HS7 HRR hb; have HB7 := HB7q; have HP7 := HP7q; clear HB7q HP7q; obtain ⟨-, P1, P2⟩ := HP7.out; obtain ⟨D1, D2⟩ := HD.out _ HB7.out)
      go_simp
      refine hK.out _ _ ?_ (fun hHeld => ?_)
      · exact ⟨P1, P2, D1, D2⟩
      clear hK K
      try simp only [Act.put, List.getElem_toArray, List.getElem_cons_succ, List.getElem_cons_zero, List.setIfInBounds_toArray, List.set_cons_zero, List.set_cons_succ]
      refine wpAnyH_take (i := 9) (v := ?_) rfl (by kernel_rfl) (by kernel_rfl) (by kernel_rfl) (fun _ _ _ h => h) (Or.inl ⟨by rfl, ?_⟩) (by assumption) ?_
      rotate_left 1
      · (intro w hSw; (try dsimp only at hSw); go_simp; (try with_reducible rfl))
      try simp only [Act.put, List.getElem_toArray, List.getElem_cons_succ, List.getElem_cons_zero, List.setIfInBounds_toArray, List.set_cons_zero, List.set_cons_succ]
      refine wpAnyH_take (i := 10) (v := ?_) rfl (by kernel_rfl) (by kernel_rfl) (by kernel_rfl) (fun _ _ _ h => h) (Or.inl ⟨by rfl, ?_⟩) (by assumption) ?_
      rotate_left 1
      · (intro w hSw; (try dsimp only at hSw); go_simp; (try with_reducible rfl))
      try simp only [Act.put, List.getElem_toArray, List.getElem_cons_succ, List.getElem_cons_zero, List.setIfInBounds_toArray, List.set_cons_zero, List.set_cons_succ]
      refine wpAnyH_take (i := 11) (v := ?_) rfl (by kernel_rfl) (by kernel_rfl) (by kernel_rfl) (fun _ _ _ h => h) (Or.inl ⟨by rfl, ?_⟩) (by assumption) ?_
      rotate_left 1
      · (intro w hSw; (try dsimp only at hSw); go_simp; (try with_reducible rfl))
      try simp only [Act.put, List.getElem_toArray, List.getElem_cons_succ, List.getElem_cons_zero, List.setIfInBounds_toArray, List.set_cons_zero, List.set_cons_succ]
      refine wpAnyH_take (i := 12) (v := ?_) rfl (by kernel_rfl) (by kernel_rfl) (by kernel_rfl) (fun _ _ _ h => h) (Or.inl ⟨by rfl, ?_⟩) (by assumption) ?_
      rotate_left 1
      · (intro w hSw; (try dsimp only at hSw); go_simp; (try with_reducible rfl))
      try simp only [Act.put, List.getElem_toArray, List.getElem_cons_succ, List.getElem_cons_zero, List.setIfInBounds_toArray, List.set_cons_zero, List.set_cons_succ]
      refine wpAnyH_take (i := 13) (v := ?_) rfl (by kernel_rfl) (by kernel_rfl) (by kernel_rfl) (fun _ _ _ h => h) (Or.inl ⟨by rfl, ?_⟩) (by assumption) ?_
      rotate_left 1
      · (intro w hSw; (try dsimp only at hSw); go_simp; (try with_reducible rfl))
      try simp only [Act.put, List.getElem_toArray, List.getElem_cons_succ, List.getElem_cons_zero, List.setIfInBounds_toArray, List.set_cons_zero, List.set_cons_succ]
      refine wpAnyH_done (by kernel_rfl) ?_ _
      refine NoPanic.normal ?_
      have hee : ((!en) == (!en)) = true := by simp
      go_wp2_with fail
      refine (awake14_any _ (HST.out.step (below_nxt HB3.out HB7.out))).mono ?_
      rintro e wz ⟨rfl, hbz⟩
      have HBz := Lib.hid (below_nxt (below_nxt HB3.out HB7.out) hbz)
      clear hbz
      go_wp2
      go_ret
      exact ⟨rfl, HBz.out⟩
end Go.Proofs.YtjpbccpleflkhaaDoor
