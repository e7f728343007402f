/- The call of the statement SequenceRepeats. -/
import Derived.Test.YtjpbccpleflkhaaDoorG17
import Derived.Test.YtjpbccpleflkhaaDoorG20
import Derived.Test.YtjpbccpleflkhaaDoorG22
namespace Sq
open Sk
theorem rr_len {n : Nat} {L : List Stp} {a : Nat} : ∀ {b : Nat}, a ≤ b → (rrI n L a).length ≤ (rrI n L b).length
  | 0, h => by rw [show a = 0 by omega]; exact Nat.le_refl _
  | b + 1, h => by
    by_cases e : a = b + 1
    · rw [e]; exact Nat.le_refl _
    · have := rr_len (n := n) (L := L) (show a ≤ b by omega)
      rw [rrI_succ]
      cases was n L b
      · exact this
      · rw [if_pos rfl, List.length_append]; omega
theorem rr_at (n : Nat) (L : List Stp) : ∀ {i j : Nat}, j < (rrI n L i).length → ∃ t : Nat, t < i ∧ (rrI n L i).getD j 0 = (t : Int) ∧ was n L t = true ∧ (rrI n L t).length = j
  | 0, j, h => by simp [rrI] at h
  | i + 1, j, h => by
    rw [rrI_succ] at h ⊢
    cases hb : was n L i with
    | false =>
      rw [hb] at h
      obtain ⟨t, h1, h2, h3, h4⟩ := rr_at n L (i := i) (j := j) h
      exact ⟨t, by omega, h2, h3, h4⟩
    | true =>
      rw [hb, if_pos rfl] at h
      rw [if_pos rfl]
      by_cases hj : j < (rrI n L i).length
      · obtain ⟨t, h1, h2, h3, h4⟩ := rr_at n L (i := i) (j := j) hj
        refine ⟨t, by omega, ?_, h3, h4⟩
        rw [List.getD_eq_getElem?_getD, List.getElem?_append_left hj, ← List.getD_eq_getElem?_getD]; exact h2
      · have hje : j = (rrI n L i).length := by simp at h; omega
        refine ⟨i, by omega, ?_, hb, hje.symm⟩
        rw [List.getD_eq_getElem?_getD, hje]
        simp
theorem rr_asc (n : Nat) (L : List Stp) (m : Nat) (i : Nat) (h : i + 1 < (rrI n L m).length) : (rrI n L m).getD i 0 ≤ (rrI n L m).getD (i + 1) 0 := by
  obtain ⟨t, h1, h2, h3, h4⟩ := rr_at n L (i := m) (j := i) (by omega)
  obtain ⟨s, g1, g2, g3, g4⟩ := rr_at n L (i := m) (j := i + 1) h
  rw [h2, g2]
  by_cases e : t ≤ s
  · omega
  · have := rr_len (n := n) (L := L) (show s ≤ t by omega); omega
theorem rr_rng (n : Nat) (L : List Stp) (m : Nat) (i : Nat) (h : i < (rrI n L m).length) : 1 ≤ (rrI n L m).getD i 0 ∧ (rrI n L m).getD i 0 < (m : Int) := by
  obtain ⟨t, h1, h2, h3, h4⟩ := rr_at n L (i := m) (j := i) h
  rw [h2]
  obtain ⟨j, hj, -⟩ := was_iff.1 h3
  omega
theorem rr_mem {n : Nat} {L : List Stp} {m k : Nat} (hk : k < m) : decide ((k : Int) ∈ rrI n L m) = was n L k := by
  apply bool_eq
  rw [decide_eq_true_iff]
  unfold rrI
  rw [List.mem_map]
  constructor
  · rintro ⟨a, ha, e⟩
    have : a = k := by omega
    subst this
    exact (List.mem_filter.1 ha).2
  · intro h
    exact ⟨k, List.mem_filter.2 ⟨List.mem_range.2 hk, h⟩, rfl⟩
theorem was_mem {n : Nat} {L : List Stp} {k : Nat} : decide (bh n L k ∈ (List.range k).map (bh n L)) = was n L k := by
  apply bool_eq
  rw [decide_eq_true_iff, was_iff, List.mem_map]
  constructor
  · rintro ⟨i, hi, h⟩; exact ⟨i, List.mem_range.1 hi, h⟩
  · rintro ⟨i, hi, h⟩; exact ⟨i, List.mem_range.2 hi, h⟩
end Sq
namespace Go.Proofs.YtjpbccpleflkhaaDoor
open Go.RowKit Go.Shelf
attribute [local go_sem] Oper.semAt_some
set_option maxHeartbeats 32000000 in
set_option maxRecDepth 100000 in
theorem repeats14_any (n : Int) (v : Value) (L : List Sk.Stp) (w : World) (hst : StQ w) (hs : SeeT w v L) : Calls Tryd.prog 10 #[.agg #[.int .i64 n, v]] w fun e w' => e = .returned (.bool true) ∧ Below w.heap.size w w' := by
  obtain ⟨i0, hi0, hz0, hz1, hz2⟩ := info_row
  have HST := Lib.hid hst
  have HS := Lib.hid hs
  obtain ⟨ao, cap, rfl, hcap1, hcap2, -⟩ := hs
  have CF := fun V (h : SeeT V (.slice ao L.length cap) L) => Lib.hid (lRgt_any n (.slice ao L.length cap) L V h)
  obtain ⟨P0, L0, z0⟩ := boxP_new w (.int .i64 n) (.slice ao L.length cap) 32
  have HL0 := Lib.hid L0
  have HP0 := Lib.hid P0
  obtain ⟨p0, p1, p2⟩ := P0
  clear L0 z0 hst
  cases hf : (Sq.fewV L && decide (Sq.chk n L = 0))
  · rw [hf] at CF
    clear hf
    go_enter Tryd.func10, Tryd.ntmps10
    go_wp2_with fail
    refine ((CF _ (HS.out.step HL0.out)).out).mono ?_
    rintro e w1 ⟨rfl, hb1⟩
    have HB1 := Lib.hid (below_nxt HL0.out hb1)
    clear hb1 p0 p1 p2
    go_wp2_with fail
    refine (awake14_any _ (HST.out.step HB1.out)).mono ?_
    rintro e wz ⟨rfl, hbz⟩
    have HBz := Lib.hid (below_nxt HB1.out hbz)
    clear hbz
    go_wp2
    go_ret
    exact ⟨rfl, HBz.out⟩
  · rw [hf] at CF
    rw [Bool.and_eq_true] at hf
    have hc := of_decide_eq_true hf.2
    have hR := Sq.chk_ok hc
    obtain ⟨nn, rfl⟩ := Int.eq_ofNat_of_zero_le (show 0 ≤ n by have := hR.n1; omega)
    have hl64 := hR.l64
    have hn1 := hR.n1
    have hn6 := hR.n6
    have hv : Sq.repV (nn : Int) L = (Sq.rrI nn L L.length, 0) := by unfold Sq.repV; rw [if_pos hc, Sq.rpF_end, Sq.rrI_same hR]
    have CR : ∀ V, SeeT V (.slice ao L.length cap) L → Hid (Calls Tryd.prog 32 #[.agg #[.int .i64 (nn : Int), .slice ao L.length cap]] V fun e w' => ∃ ao cap, e = .returned (.tuple #[.slice ao (Sq.rrI nn L L.length).length cap, .int .i64 0]) ∧ SeeI w' (.slice ao (Sq.rrI nn L L.length).length cap) (Sq.rrI nn L L.length) ∧ Below V.heap.size V w') := fun V h => Lib.hid (by have g := qRep_any (nn : Int) (.slice ao L.length cap) L V h; rw [hv] at g; exact g)
    have CB := Lib.hid (fun k (hk : k ≤ L.length) V (h : SeeT V (.slice ao L.length cap) L) => rBeh_own nn (.slice ao L.length cap) L k V h (by omega) (by omega) hk (by have := fit_of hR hk; rwa [Int.toNat_natCast] at this))
    have HM := Lib.hid (fun k (hk : k < L.length) => Sq.rr_mem (n := nn) (L := L) hk)
    have HW := Lib.hid (fun k => Sq.was_mem (n := nn) (L := L) (k := k))
    have HAsc := Lib.hid (fun i h => Sq.rr_asc nn L L.length i h)
    have HRng := Lib.hid (fun i h => Sq.rr_rng nn L L.length i h)
    clear hf hc hR hv
    generalize Sq.rrI nn L L.length = R at *
    go_enter Tryd.func10, Tryd.ntmps10
    go_wp2_with fail
    refine ((CF _ (HS.out.step HL0.out)).out).mono ?_
    rintro e w1 ⟨rfl, hb1⟩
    have HB1 := Lib.hid (below_nxt HL0.out hb1)
    have HP1 := Lib.hid (HP0.out.step hb1)
    clear hb1 p0 p1 p2
    obtain ⟨p0, p1, p2⟩ := HP1.out
    go_wp2_with fail
    refine ((CR _ (HS.out.step HB1.out)).out).mono ?_
    rintro e w2 ⟨ra, rc, rfl, hse, hb2⟩
    have HB2 := Lib.hid (below_nxt HB1.out hb2)
    have HP2 := Lib.hid (HP1.out.step hb2)
    have HI2 := Lib.hid hse
    clear hse hb2 p0 p1 p2
    go_wp2_with fail
    refine (srt_any _ R _ HI2.out HAsc.out).mono ?_
    rintro e w3 ⟨rfl, hb3⟩
    have HB3 := Lib.hid (below_nxt HB2.out hb3)
    have HP3 := Lib.hid (HP2.out.step hb3)
    have HI3 := Lib.hid (HI2.out.step hb3)
    have HS3 := Lib.hid (HS.out.step HB3.out)
    clear hb3 HAsc
    obtain ⟨p0, p1, p2⟩ := HP3.out
    go_wp2
    clear p0 p1 p2
    go_loopw [5, 28] (fun s5 s28 wr => ∃ k : Nat, k ≤ L.length ∧ s28 = .int .i64 (k : Int) ∧ ∃ sv, sv = s5 ∧ Hid (RowL w3.heap.size 49 wr sv ((List.range k).map (Sq.bh nn L))) ∧ Hid (Below w3.heap.size w3 wr)) (fun _ s28 _ => L.length - (intOf s28).toNat)
    case atStart => exact ⟨0, Nat.zero_le _, rfl, _, rfl, Lib.hid (RowL.nil _ _ _), Lib.hid (Below.refl _ _)⟩
    case round =>
      obtain ⟨k, hk, rfl, sv, hsv, HRL, HBk⟩ := hrel
      subst hsv
      have HPk := Lib.hid (HP3.out.step HBk.out)
      obtain ⟨p0, p1, p2⟩ := HPk.out
      have hkz : (L.length : Int) ≤ 64 := by omega
      by_cases hkl : k < L.length
      · have CBk := fun V (h : SeeT V (.slice ao L.length cap) L) => Lib.hid (CB.out k hk V h)
        have HMk := Lib.hid (HM.out k hkl)
        have HWk := Lib.hid (HW.out k)
        have HMap : Hid ((List.range (k + 1)).map (Sq.bh nn L) = (List.range k).map (Sq.bh nn L) ++ [Sq.bh nn L k]) := Lib.hid (by rw [List.range_succ, List.map_append]; rfl)
        have hlen : ((List.range k).map (Sq.bh nn L)).length ≤ 64 := by rw [List.length_map, List.length_range]; omega
        clear CB HM HW
        generalize hEs : (List.range (k + 1)).map (Sq.bh nn L) = Es' at *
        generalize (List.range k).map (Sq.bh nn L) = Es at *
        generalize Sq.bh nn L k = E at *
        generalize Sq.was nn L k = b at *
        go_wp2_with fail
        refine ((CBk _ (HS3.out.step HBk.out)).out).mono ?_
        rintro e w4 ⟨u, rfl, hru, hb4⟩
        obtain ⟨ua, uc, rfl⟩ : ∃ ua uc, u = .slice ua E.length uc := by obtain ⟨a, c, h, -⟩ := hru.sees; exact ⟨a, c, h⟩
        have hbx := hb4.alloc hb4.size (.cells #[(Value.slice ua E.length uc)] 49)
        have HB4 := Lib.hid (HBk.out.trans (hbx.mono HBk.out.size))
        have HU4 := Lib.hid (hru.sees.step (allocB w4 (.cells #[(Value.slice ua E.length uc)] 49)))
        have HUL := Lib.hid (fun r (e : (Value.slice ua E.length uc).ownBlock = some r) => World.ownsRow.lt hru r e)
        have HRL4 := Lib.hid (HRL.out.step hbx)
        have HSL := Lib.hid (fun r (e : sv.ownBlock = some r) => (HRL.out.lt r e).2)
        have HV4 := Lib.hid (boxV_new w4 (Value.slice ua E.length uc) 49)
        have HP4 := Lib.hid (HPk.out.step hbx)
        clear hru hb4 hbx p0 p1 p2 CBk
        obtain ⟨vo, vc, hvo⟩ := HRL4.out.form
        obtain ⟨v0, v1⟩ := HV4.out
        have CL := fun V (h1 : SeeL V sv Es) (h2 : SeeB V (Value.slice ua E.length uc) E) (h3 : w4.heap.size < V.heap.size) (h4 : V.cell? ⟨w4.heap.size, 0, none⟩ = some (Value.slice ua E.length uc)) => Lib.hid (conL_any sv (Value.slice ua E.length uc) Es E w4.heap.size V h1 h2 h3 h4)
        have CI := fun V (h : SeeI V (.slice ra R.length rc) R) => Lib.hid (conI_any (.slice ra R.length rc) R (k : Int) V h)
        rw [HWk.out] at CL
        rw [HMk.out] at CI
        have hbb : (b == b) = true := by simp
        subst hvo
        go_wp2_with fail
        refine ((CL _ HRL4.out.sees HU4.out v0 v1).out).mono ?_
        rintro e w5 ⟨rfl, hb5⟩
        have HB5 := Lib.hid (HB4.out.trans (hb5.mono HB4.out.size))
        have HU5 := Lib.hid (HU4.out.step hb5)
        have HRL5 := Lib.hid (HRL4.out.step hb5)
        have HV5 := Lib.hid (HV4.out.step hb5)
        have HZ5 := Lib.hid (show w4.heap.size ≤ w5.heap.size by have := hb5.size; simp at this; omega)
        clear hb5 v0 v1
        go_wp2_with fail
        refine ((CI _ (HI3.out.step HB5.out)).out).mono ?_
        rintro e w6 ⟨rfl, hb6⟩
        have HB6 := Lib.hid (HB5.out.trans (hb6.mono HB5.out.size))
        have HU6 := Lib.hid (HU5.out.step hb6)
        have HRL6 := Lib.hid (HRL5.out.step hb6)
        have HV6 := Lib.hid (HV5.out.step hb6)
        have HZ6 := Lib.hid (Nat.le_trans HZ5.out hb6.size)
        clear hb6
        obtain ⟨v0, v1⟩ := HV6.out
        go_wp2_with (at_builtin; refine wpList_append_row rfl _ _ 82 rfl 49 i0 Tryd.underlying82 hi0 hz0 hz1 hz2 _ Es E (Value.slice ua E.length uc) w6.heap.size rfl rfl w3.heap.size (HRL6.out.step (allocB _ _)) (by simp) (HU6.out.step (allocB _ _)) (fun r e => ⟨by have := (HUL.out r e).2; have := HZ6.out; simp; omega, fun e' => by have := HSL.out r e'; have := (HUL.out r e).1; omega⟩) (by omega) (Nat.le_trans HB6.out.size (by simp)) ?_; intro a5 p5 w7 hr7 hg7 hb7; have HR7 := Lib.hid hr7; have HB7 := Lib.hid ((HB6.out.alloc HB6.out.size (.cells #[(Value.slice ua E.length uc)] 49)).trans hb7); clear hr7 hg7 hb7)
        exact ⟨⟨k + 1, by omega, by first | rfl | go_num, _, rfl, by rw [hEs, HMap.out]; exact HR7, HB7⟩, by simp [intOf]; omega⟩
      · obtain rfl : k = L.length := by omega
        have HBe := Lib.hid (below_nxt HB3.out HBk.out)
        have CC := Lib.hid (conF_any _ (.int .i64 (nn : Int)) R ao L.length cap w.heap.size wr (HI3.out.step HBk.out) HPk.out HRng.out)
        go_wp2_with fail
        refine (CC.out).mono ?_
        rintro e w5 ⟨rfl, hb5⟩
        have HB5 := Lib.hid (below_nxt HBe.out hb5)
        clear hb5 CC p0 p1 p2
        go_wp2_with fail
        refine (awake14_any _ (HST.out.step HB5.out)).mono ?_
        rintro e wz ⟨rfl, hbz⟩
        have HBz := Lib.hid (below_nxt HB5.out hbz)
        clear hbz
        go_wp2
        go_ret
        exact ⟨rfl, HBz.out⟩
end Go.Proofs.YtjpbccpleflkhaaDoor
