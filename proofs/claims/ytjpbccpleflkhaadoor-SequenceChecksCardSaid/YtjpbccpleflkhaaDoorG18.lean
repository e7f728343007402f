/- First, Word and Words of the reference of layer 14. -/
import Derived.Test.YtjpbccpleflkhaaDoorG15
import Derived.Test.YtjpbccpleflkhaaDoorG14
namespace Sq
open Sk
theorem wsI_le {n : Int} {L : List Stp} (h : Rt n L) {i : Nat} (hi : i < L.length) : fac (L.getD i t0).1.length ≤ 720 := by
  have h1 := (chkP_ok (stE_ok (h.stp i hi)).1).1.le6
  exact fac_mono h1
end Sq
namespace Go.Proofs.YtjpbccpleflkhaaDoor
open Go.RowKit Go.Shelf
attribute [local go_sem] Oper.semAt_some
set_option maxHeartbeats 8000000 in
set_option maxRecDepth 100000 in
theorem rFst_any (n : Int) (v : Value) (L : List Sk.Stp) (w : World) (hs : SeeT w v L) (hR : Sq.Rt n L) : Calls Tryd.prog 58 #[.agg #[.int .i64 n, v]] w fun e w' => ∃ ao cap, e = .returned (.slice ao (Sq.wdI L L.length).length cap) ∧ SeeK w' (.slice ao (Sq.wdI L L.length).length cap) (Sq.wdI L L.length) ∧ Below w.heap.size w w' := by
  obtain ⟨i0, hi0, hz0, hz1, hz2⟩ := info_str2
  obtain ⟨ao, cap, rfl, hcap1, hcap2, hC⟩ := hs
  have HC := Lib.hid hC
  obtain ⟨P0, L0, z0⟩ := boxP_new w (.int .i64 n) (.slice ao L.length cap) 32
  have HL0 := Lib.hid L0
  have HP0 := Lib.hid P0
  have hl64 := hR.l64
  have HLn := Lib.hid (fun i (h : i ≤ L.length) => Sq.wdI_len hR h)
  have HT := Lib.hid (fun i (h : i < L.length) => Sq.wdI_succ h)
  have HRL := Lib.hid (fun k (h : k < L.length) => (Sk.chkP_ok (Sq.stE_ok (hR.stp k h)).1).1)
  clear hC hR
  obtain ⟨p0, p1, p2⟩ := P0
  clear L0 z0
  go_enter Tryd.func58, Tryd.ntmps58
  go_wp2
  clear p0 p1 p2
  go_loopw [3, 4] (fun s3 s4 wr => ∃ i : Nat, i ≤ L.length ∧ s4 = .int .i64 (i : Int) ∧ Hid (RowK (w.heap.size + 1) 47 wr s3 (Sq.wdI L i)) ∧ Hid (BoxP wr w.heap.size (.int .i64 n) (.slice ao L.length cap)) ∧ Hid (Below w.heap.size w wr)) (fun _ s4 _ => L.length - (intOf s4).toNat)
  case atStart => exact ⟨0, Nat.zero_le _, rfl, Lib.hid (RowK.nil _ _ _), HP0, HL0⟩
  case round =>
    obtain ⟨i, hi, rfl, HR, HP, HB⟩ := hrel
    obtain ⟨ro, rc, hro⟩ := HR.out.form
    obtain ⟨p0, p1, p2⟩ := HP.out
    have hiz : (L.length : Int) ≤ 64 := by omega
    have hwi : IntKind.i64.wrap (i : Int) = (i : Int) := IntWalk.i64_in _ (by omega)
    by_cases hil : i < L.length
    · subst hro
      obtain ⟨g, off, ak, ck, rfl, hg, c1, c2, hk⟩ := HC.out.at HB.out hil
      have HTi := Lib.hid (HT.out i hil)
      have HLi := Lib.hid (HLn.out i hi)
      have HRi := Lib.hid (HRL.out i hil)
      have HK := Lib.hid hk
      have hgr : g < wr.heap.size := Nat.lt_of_lt_of_le hg HB.out.size
      clear HT HLn hk HRL
      generalize L.getD i Sk.t0 = y at *
      obtain ⟨l, k⟩ := y
      simp only at c1 c2 HK HTi HRi
      generalize Sq.wdI L i = F at *
      go_wp2_with (at_builtin; refine wpList_append_strs rfl _ _ 34 rfl 47 i0 Tryd.underlying34 hi0 hz0 hz1 hz2 _ _ F l rfl rfl (w.heap.size + 1) HR.out HK.out HRi.out.pos (by have := HRi.out.le6; have := HLi.out; omega) p0 ?_; intro a5 p5 w5 hr5 hg5; have HR5 := Lib.hid hr5; have HP5 := Lib.hid (HP.out.blk (hg5.block w.heap.size p0 (fun e => by have := (World.ownsRow.lt HR.out _ e.symm).1; omega))); have HB5 := Lib.hid (HB.out.grown hg5 HB.out.size (fun r e => by have := (World.ownsRow.lt HR.out r e).1; omega)); clear hr5 hg5)
      have HR6 := Lib.hid (by have h := HR5.out; rw [List.length_append] at h; exact h)
      exact ⟨⟨i + 1, by omega, by first | rfl | go_num, by rw [HTi.out]; exact HR6, HP5, HB5⟩, by simp [intOf]; omega⟩
    · obtain rfl : i = L.length := by omega
      subst hro
      have HSe := Lib.hid HR.out.sees
      go_wp2
      go_ret
      exact ⟨ro, rc, rfl, HSe.out, HB.out⟩
set_option maxHeartbeats 8000000 in
set_option maxRecDepth 100000 in
theorem rWrd_any (n : Int) (v : Value) (L : List Sk.Stp) (w : World) (hs : SeeT w v L) : Calls Tryd.prog 18 #[.agg #[.int .i64 n, v]] w (WrdP (Sq.wrdV n L) w) := by
  have HS := Lib.hid hs
  obtain ⟨ao, cap, rfl, hcap1, hcap2, -⟩ := hs
  have CC := fun V (h : SeeT V (.slice ao L.length cap) L) => Lib.hid (rChk_any n (.slice ao L.length cap) L V h)
  obtain ⟨P0, L0, z0⟩ := boxP_new w (.int .i64 n) (.slice ao L.length cap) 32
  have HL0 := Lib.hid L0
  have HP0 := Lib.hid P0
  obtain ⟨p0, p1, p2⟩ := P0
  clear L0 z0
  by_cases hc : Sq.chk n L = 0
  · have hR := Sq.chk_ok hc
    have hv : Sq.wrdV n L = (Sq.wdI L L.length, 0) := by unfold Sq.wrdV; rw [if_pos hc]
    rw [hv]
    rw [hc] at CC
    have CM := fun V (h : SeeT V (.slice ao L.length cap) L) => Lib.hid (rFst_any n (.slice ao L.length cap) L V h hR)
    clear hc hR hv
    generalize Sq.wdI L L.length = F at *
    go_enter Tryd.func18, Tryd.ntmps18
    go_wp2_with fail
    refine ((CC _ (HS.out.step HL0.out)).out).mono ?_
    rintro e w1 ⟨rfl, hb1⟩
    have HB1 := Lib.hid (below_nxt HL0.out hb1)
    have HP1 := Lib.hid (HP0.out.step hb1)
    have HS1 := Lib.hid (HS.out.step HB1.out)
    obtain ⟨q0, q1, q2⟩ := HP1.out
    clear hb1 p0 p1 p2
    go_wp2_with fail
    refine ((CM _ HS1.out).out).mono ?_
    rintro e w2 ⟨a2, c2, rfl, hse, hb2⟩
    have HB2 := Lib.hid (below_nxt HB1.out hb2)
    have HSE := Lib.hid hse
    clear hb2 hse q0 q1 q2
    go_wp2
    exact bodyPost_ret (v := .tuple #[.slice a2 F.length c2, .int .i64 0]) (by simp [results, Tryd.f18, go_sem]) rfl ⟨a2, c2, rfl, HSE.out, HB2.out⟩
  · have hv : Sq.wrdV n L = ([], Sq.chk n L) := by unfold Sq.wrdV; rw [if_neg hc]
    rw [hv]
    have hct : (Sq.chk n L != 0) = true := by simpa using hc
    clear hv hc
    generalize Sq.chk n L = c at *
    go_enter Tryd.func18, Tryd.ntmps18
    go_wp2_with fail
    refine ((CC _ (HS.out.step HL0.out)).out).mono ?_
    rintro e w1 ⟨rfl, hb1⟩
    have HB1 := Lib.hid (below_nxt HL0.out hb1)
    clear hb1 p0 p1 p2
    go_wp2
    exact bodyPost_ret (v := .tuple #[.slice none 0 0, .int .i64 c]) (by simp [results, Tryd.f18, go_sem]) rfl ⟨none, 0, rfl, SeeK.nil _, HB1.out⟩
set_option maxHeartbeats 8000000 in
set_option maxRecDepth 100000 in
theorem rWds_any (n : Int) (v : Value) (L : List Sk.Stp) (w : World) (hs : SeeT w v L) : Calls Tryd.prog 20 #[.agg #[.int .i64 n, v]] w fun e w' => e = .returned (.tuple #[.int .i64 (Sq.wsV n L).1, .int .i64 (Sq.wsV n L).2]) ∧ Below w.heap.size w w' := by
  have HS := Lib.hid hs
  obtain ⟨ao, cap, rfl, hcap1, hcap2, hC⟩ := hs
  have HC := Lib.hid hC
  have CC := fun V (h : SeeT V (.slice ao L.length cap) L) => Lib.hid (rChk_any n (.slice ao L.length cap) L V h)
  obtain ⟨P0, L0, z0⟩ := boxP_new w (.int .i64 n) (.slice ao L.length cap) 32
  have HL0 := Lib.hid L0
  have HP0 := Lib.hid P0
  clear hC
  by_cases hc : Sq.chk n L = 0
  · rw [hc] at CC
    have hR := Sq.chk_ok hc
    have hl64 := hR.l64
    have HV1 := Lib.hid (show Sq.wsI L L.length ≤ 1048576 → Sq.wsV n L = ((Sq.wsI L L.length : Int), 0) from fun h => by unfold Sq.wsV; rw [if_pos hc, if_pos h])
    have HV2 := Lib.hid (show 1048576 < Sq.wsI L L.length → Sq.wsV n L = (0, 12) from fun h => by unfold Sq.wsV; rw [if_pos hc, if_neg (by omega)])
    have HT := Lib.hid (fun i (h : i < L.length) => Sq.wsI_succ h)
    have HPart := Lib.hid (fun i (h : i < L.length) => Sq.wsI_part h (Nat.le_refl (L.getD i Sk.t0).1.length))
    have HRL := Lib.hid (fun k (h : k < L.length) => (Sk.chkP_ok (Sq.stE_ok (hR.stp k h)).1).1)
    clear hc hR
    obtain ⟨p0, p1, p2⟩ := P0
    clear L0 z0
    generalize Sq.wsV n L = V at *
    go_enter Tryd.func20, Tryd.ntmps20
    go_wp2_with fail
    refine ((CC _ (HS.out.step HL0.out)).out).mono ?_
    rintro e w1 ⟨rfl, hb1⟩
    have HB1 := Lib.hid (below_nxt HL0.out hb1)
    have HP1 := Lib.hid (HP0.out.step hb1)
    clear hb1 p0 p1 p2
    go_wp2
    go_loopw [5, 6] (fun s5 s6 wr => ∃ i : Nat, i ≤ L.length ∧ s6 = .int .i64 (i : Int) ∧ s5 = .int .i64 (Sq.wsI L i : Int) ∧ Sq.wsI L i ≤ 1048576 ∧ Hid (BoxP wr w.heap.size (.int .i64 n) (.slice ao L.length cap)) ∧ Hid (Below w.heap.size w wr)) (fun _ s6 _ => L.length - (intOf s6).toNat)
    case atStart => exact ⟨0, Nat.zero_le _, rfl, rfl, by rw [Sq.wsI_zero]; omega, HP1, HB1⟩
    case round =>
      obtain ⟨i, hi, rfl, rfl, hle, HP, HB⟩ := hrel
      obtain ⟨p0, p1, p2⟩ := HP.out
      have hiz : (L.length : Int) ≤ 64 := by omega
      have hwi : IntKind.i64.wrap (i : Int) = (i : Int) := IntWalk.i64_in _ (by omega)
      by_cases hil : i < L.length
      · have HTi := Lib.hid (HT.out i hil)
        have HPi := Lib.hid (HPart.out i hil)
        have HRi := Lib.hid (HRL.out i hil)
        clear HT HRL HPart
        go_wp2
        clear p0 p1 p2
        go_loopw [5, 7] (fun s5 s7 wq => ∃ j : Nat, 2 ≤ j ∧ (j ≤ (L.getD i Sk.t0).1.length + 1 ∨ j = 2) ∧ s7 = .int .i64 (j : Int) ∧ s5 = .int .i64 ((Sq.wsI L i * Sq.fac (j - 1) : Nat) : Int) ∧ Hid (BoxP wq w.heap.size (.int .i64 n) (.slice ao L.length cap)) ∧ Hid (Below w.heap.size w wq)) (fun _ s7 _ => (L.getD i Sk.t0).1.length + 2 - (intOf s7).toNat)
        case atStart => exact ⟨2, by omega, by omega, rfl, by simp [Sq.fac], HP, HB⟩
        case round =>
          obtain ⟨j, hj2, hjo, rfl, rfl, HPj, HBj⟩ := hrel
          obtain ⟨p0, p1, p2⟩ := HPj.out
          obtain ⟨g, off, ak, ck, rfl, hg, c1, c2, hk⟩ := HC.out.at HBj.out hil
          have hgr : g < wr.heap.size := Nat.lt_of_lt_of_le hg HBj.out.size
          clear hk
          generalize L.getD i Sk.t0 = y at *
          obtain ⟨l, k⟩ := y
          simp only at c1 c2 HTi HRi HPi hjo
          have hl6 := HRi.out.le6
          have hlp := HRi.out.pos
          generalize Sq.wsI L i = F at *
          have hwj : IntKind.i64.wrap (j : Int) = (j : Int) := IntWalk.i64_in _ (by omega)
          by_cases hjl : j ≤ l.length
          · have he : F * Sq.fac (j + 1 - 1) = (F * Sq.fac (j - 1)) * j := by
              rw [show j + 1 - 1 = (j - 1) + 1 by omega]
              show F * (Sq.fac (j - 1) * (j - 1 + 1)) = _
              rw [Nat.mul_assoc, show j - 1 + 1 = j by omega]
            have hf : F * Sq.fac (j - 1) ≤ 1048576 * 720 := Nat.mul_le_mul hle (Sq.fac_mono (show j - 1 ≤ 6 by omega))
            have hm : (F * Sq.fac (j - 1)) * j ≤ (1048576 * 720) * 6 := Nat.mul_le_mul hf (by omega)
            have HE := Lib.hid he
            clear he
            have hw2 : IntKind.i64.wrap (((F * Sq.fac (j - 1) : Nat) : Int) * (j : Int)) = ((F * Sq.fac (j + 1 - 1) : Nat) : Int) := by
              rw [HE.out, show ((F * Sq.fac (j - 1) : Nat) : Int) * (j : Int) = (((F * Sq.fac (j - 1)) * j : Nat) : Int) by push_cast; rfl]
              exact IntWalk.i64_in _ (by omega)
            generalize hXX : F * Sq.fac (j + 1 - 1) = X at *
            generalize F * Sq.fac (j - 1) = Y at *
            go_wp2
            exact ⟨⟨j + 1, by omega, by omega, by first | rfl | go_num, by rw [hXX], HPj, HBj⟩, by simp [intOf]; omega⟩
          · have hX : F * Sq.fac (j - 1) = F * Sq.fac l.length := by
              rcases hjo with h | h
              · rw [show j - 1 = l.length by omega]
              · have : l.length = 1 := by omega
                rw [this, h]
            rw [hX]
            have hf : F * Sq.fac l.length ≤ 1048576 * 720 := Nat.mul_le_mul hle (Sq.fac_mono (show l.length ≤ 6 by omega))
            clear hX
            generalize hY : F * Sq.fac l.length = Y at *
            by_cases hy : Y ≤ 1048576
            · go_wp2
              exact ⟨⟨i + 1, by omega, by first | rfl | go_num, by rw [HTi.out], by rw [HTi.out]; exact hy, HPj, HBj⟩, by simp [intOf]; omega⟩
            · have HVV := Lib.hid (HV2.out (by have := HPi.out; omega))
              go_wp2
              exact bodyPost_ret (v := .tuple #[.int .i64 0, .int .i64 12]) (by simp [results, Tryd.f20, go_sem]) rfl ⟨by rw [HVV.out], HBj.out⟩
      · obtain rfl : i = L.length := by omega
        have HVV := Lib.hid (HV1.out hle)
        go_wp2
        exact bodyPost_ret (v := .tuple #[.int .i64 (Sq.wsI L L.length : Int), .int .i64 0]) (by simp [results, Tryd.f20, go_sem]) rfl ⟨by rw [HVV.out], HB.out⟩
  · have hv : Sq.wsV n L = (0, Sq.chk n L) := by unfold Sq.wsV; rw [if_neg hc]
    rw [hv]
    have hct : (Sq.chk n L != 0) = true := by simpa using hc
    clear hv hc
    generalize Sq.chk n L = c at *
    obtain ⟨p0, p1, p2⟩ := P0
    clear L0 z0
    go_enter Tryd.func20, Tryd.ntmps20
    go_wp2_with fail
    refine ((CC _ (HS.out.step HL0.out)).out).mono ?_
    rintro e w1 ⟨rfl, hb1⟩
    have HB1 := Lib.hid (below_nxt HL0.out hb1)
    clear hb1 p0 p1 p2
    go_wp2
    exact bodyPost_ret (v := .tuple #[.int .i64 0, .int .i64 c]) (by simp [results, Tryd.f20, go_sem]) rfl ⟨rfl, HB1.out⟩
end Go.Proofs.YtjpbccpleflkhaaDoor
