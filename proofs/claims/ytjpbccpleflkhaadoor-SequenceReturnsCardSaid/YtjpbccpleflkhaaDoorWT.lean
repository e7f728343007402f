/- slices.Contains at ends; the call of the statement SequenceReturns. -/
import Derived.BigQuiet
import Derived.Test.YtjpbccpleflkhaaDoorG17
import Derived.Test.YtjpbccpleflkhaaDoorG21
import Derived.Test.YtjpbccpleflkhaaDoorG14
namespace Sq
theorem memB_at {l : List Bool} {i : Nat} (hi : i < l.length) {b : Bool} (h : l.getD i false = b) : b ∈ l := by
  rw [← h, List.getD_eq_getElem?_getD, List.getElem?_eq_getElem hi]
  exact List.getElem_mem hi
theorem memB_no {l : List Bool} {b : Bool} (h : ∀ i, i < l.length → (b == l.getD i false) = false) : b ∉ l := fun hm => by
  obtain ⟨i, hi, e⟩ := List.mem_iff_getElem.1 hm
  have := h i hi
  rw [List.getD_eq_getElem?_getD, List.getElem?_eq_getElem hi] at this
  rw [show (some l[i]).getD false = l[i] from rfl, e] at this
  simp at this
end Sq
namespace Go.Proofs.YtjpbccpleflkhaaDoor
open Go.RowKit Go.Shelf
attribute [local go_sem] Oper.semAt_some
set_option maxHeartbeats 4000000 in
set_option maxRecDepth 100000 in
theorem idxB_any (v : Value) (l : List Bool) (b : Bool) (w : World) (hs : SeeB w v l) : Calls Tryd.prog 73 #[v, .bool b] w fun e w' => ∃ r : Int, e = .returned (.int .i64 r) ∧ decide (0 ≤ r) = decide (b ∈ l) ∧ Below w.heap.size w w' := by
  obtain ⟨ao, cap, rfl, hcap1, hcap2, hC⟩ := hs
  have HC := Lib.hid hC
  clear hC
  have HAt := Lib.hid (fun i (hi : i < l.length) (h : l.getD i false = b) => decide_eq_true (Sq.memB_at hi h))
  have HNo := Lib.hid (fun h => decide_eq_false (Sq.memB_no (l := l) (b := b) h))
  generalize decide (b ∈ l) = q at *
  go_enter Tryd.func73, Tryd.ntmps73
  go_wp2
  go_loopw [8] (fun s8 wr => ∃ i : Nat, i ≤ l.length ∧ s8 = .int .i64 (i : Int) ∧ Hid (∀ j, j < i → (b == l.getD j false) = false) ∧ Hid (Below w.heap.size w wr)) (fun s8 _ => l.length - (intOf s8).toNat)
  case atStart => exact ⟨0, Nat.zero_le _, rfl, Lib.hid (fun j h => by omega), Lib.hid (Below.refl _ _)⟩
  case round =>
    obtain ⟨i, hi, rfl, HJ, HBW⟩ := hrel
    have hwi : IntKind.i64.wrap (i : Int) = (i : Int) := IntWalk.i64_in _ (by omega)
    by_cases hil : i < l.length
    · obtain ⟨g, off, rfl, hg, c1⟩ := HC.out.at HBW.out hil
      have hgr : g < wr.heap.size := Nat.lt_of_lt_of_le hg HBW.out.size
      have HAi := Lib.hid (HAt.out i hil)
      have HJ2 : Hid ((b == l.getD i false) = false → ∀ j, j < i + 1 → (b == l.getD j false) = false) := Lib.hid (fun h j hj => by
        by_cases e : j = i
        · rw [e]; exact h
        · exact HJ.out j (by omega))
      clear HAt HNo HJ
      generalize l.getD i false = y at *
      by_cases hby : b = y
      · have HQ := Lib.hid (HAi.out hby.symm)
        have hbb : (b == y) = true := by rw [hby]; simp
        clear HJ2 HAi hby
        go_wp2
        try go_quiet (fail)
        try go_wp2
        go_ret
        exact ⟨_, rfl, by rw [HQ.out]; exact decide_eq_true (by omega), by first | exact HBW.out | exact HBW.out.trans (below_drewN _ _)⟩
      · have hbb : (b == y) = false := by rw [beq_eq_false_iff_ne]; exact hby
        have HJ3 := Lib.hid (HJ2.out hbb)
        clear HJ2 HAi hby
        go_wp2
        try go_quiet (fail)
        try go_wp2
        exact ⟨⟨i + 1, by omega, by first | rfl | go_num, HJ3, by first | exact HBW | exact Lib.hid (HBW.out.trans (below_drewN _ _))⟩, by simp [intOf]; omega⟩
    · obtain rfl : i = l.length := by omega
      have HQ := Lib.hid (HNo.out HJ.out)
      go_wp2
      go_ret
      exact ⟨_, rfl, by rw [HQ.out]; rfl, HBW.out⟩
set_option maxHeartbeats 4000000 in
set_option maxRecDepth 100000 in
theorem conB_any (v : Value) (l : List Bool) (b : Bool) (w : World) (hs : SeeB w v l) : Calls Tryd.prog 38 #[v, .bool b] w fun e w' => e = .returned (.bool (decide (b ∈ l))) ∧ Below w.heap.size w w' := by
  have HS := Lib.hid hs
  obtain ⟨ao, cap, rfl, -⟩ := hs
  have C := fun V (h : SeeB V (.slice ao l.length cap) l) => Lib.hid (idxB_any (.slice ao l.length cap) l b V h)
  generalize decide (b ∈ l) = q at *
  go_enter Tryd.func38, Tryd.ntmps38
  go_wp2_with fail
  refine ((C _ HS.out).out).mono ?_
  rintro e w1 ⟨r, rfl, hr, hb1⟩
  have HB1 := Lib.hid hb1
  clear hb1
  go_wp2
  go_ret
  exact ⟨by rw [← hr]; rfl, HB1.out⟩
set_option maxHeartbeats 32000000 in
set_option maxRecDepth 100000 in
theorem returns14_any (n : Int) (v : Value) (L : List Sk.Stp) (w : World) (hst : StQ w) (hs : SeeT w v L) : Calls Tryd.prog 7 #[.agg #[.int .i64 n, v]] w fun e w' => e = .returned (.bool true) ∧ Below w.heap.size w w' := by
  obtain ⟨i0, hi0, hz0, hz1, hz2⟩ := info_bool
  have HST := Lib.hid hst
  have HS := Lib.hid hs
  obtain ⟨ao, cap, rfl, hcap1, hcap2, hC⟩ := hs
  have HC := Lib.hid hC
  have CF := fun V (h : SeeT V (.slice ao L.length cap) L) => Lib.hid (lRgt_any n (.slice ao L.length cap) L V h)
  obtain ⟨P0, L0, z0⟩ := boxP_new w (.int .i64 n) (.slice ao L.length cap) 32
  have HL0 := Lib.hid L0
  have HP0 := Lib.hid P0
  obtain ⟨p0, p1, p2⟩ := P0
  clear L0 z0 hst hC
  cases hf : (Sq.fewV L && decide (Sq.chk n L = 0))
  · rw [hf] at CF
    clear hf
    go_enter Tryd.func7, Tryd.ntmps7
    go_wp2_with fail
    refine ((CF _ (HS.out.step HL0.out)).out).mono ?_
    rintro e w1 ⟨rfl, hb1⟩
    have HB1 := Lib.hid (below_nxt HL0.out hb1)
    clear hb1 p0 p1 p2
    go_wp2_with fail
    refine (awake14_any _ (HST.out.step HB1.out)).mono ?_
    rintro e wz ⟨rfl, hbz⟩
    have HBz := Lib.hid (below_nxt HB1.out hbz)
    clear hbz
    go_wp2
    go_ret
    exact ⟨rfl, HBz.out⟩
  · rw [hf] at CF
    rw [Bool.and_eq_true] at hf
    have hc := of_decide_eq_true hf.2
    have hR := Sq.chk_ok hc
    obtain ⟨nn, rfl⟩ := Int.eq_ofNat_of_zero_le (show 0 ≤ n by have := hR.n1; omega)
    have hl64 := hR.l64
    have hn1 := hR.n1
    have hn6 := hR.n6
    have CE : Hid (∀ k : Nat, k ≤ L.length → ∀ V, SeeT V (.slice ao L.length cap) L → Calls Tryd.prog 26 #[.agg #[.int .i64 (nn : Int), .slice ao L.length cap], .int .i64 (k : Int)] V fun e w' => ∃ ao cap, e = .returned (.tuple #[.slice ao (Sq.bh nn L k).length cap, .int .i64 0]) ∧ SeeB w' (.slice ao (Sq.bh nn L k).length cap) (Sq.bh nn L k) ∧ Below V.heap.size V w') := Lib.hid (fun k hk V h => by
      have g := qEnd_any (nn : Int) (.slice ao L.length cap) L (k : Int) V h
      rw [show Sq.endV (nn : Int) L (k : Int) = (Sq.bh nn L k, 0) by unfold Sq.endV; rw [if_pos hc, if_pos ⟨by omega, by omega⟩]; rfl] at g
      exact g)
    have CA : Hid (∀ k : Nat, k < L.length → ∀ V u ev, SeeK V u (L.getD k Sk.t0).1 → SeeB V ev (Sq.bh nn L k) → Calls Tryd.prog 37 #[.agg #[u, .int .i64 (L.getD k Sk.t0).2], ev] V fun e w' => ∃ ao cap, e = .returned (.tuple #[.slice ao (Sq.bh nn L (k + 1)).length cap, .int .i64 0]) ∧ SeeB w' (.slice ao (Sq.bh nn L (k + 1)).length cap) (Sq.bh nn L (k + 1)) ∧ Below V.heap.size V w') := Lib.hid (fun k hk V u ev h1 h2 => by
      have g := sApp_any u ev (L.getD k Sk.t0).1 (L.getD k Sk.t0).2 _ V h1 h2
      rw [Sq.app_n hR hk] at g
      refine g.mono ?_
      rintro e w' ⟨u', rfl, hs', hb', -⟩
      obtain ⟨ao', cap', rfl, -⟩ := id hs'
      exact ⟨ao', cap', rfl, hs', hb'⟩)
    have CM : Hid (∀ a : Nat, a < nn → ∀ V, SeeT V (.slice ao L.length cap) L → Calls Tryd.prog 28 #[.agg #[.int .i64 (nn : Int), .slice ao L.length cap], .int .i64 (a : Int)] V fun e w' => ∃ ao cap, e = .returned (.tuple #[.slice ao (Sq.mvI L (a : Int) L.length).length cap, .int .i64 0]) ∧ SeeI w' (.slice ao (Sq.mvI L (a : Int) L.length).length cap) (Sq.mvI L (a : Int) L.length) ∧ Below V.heap.size V w') := Lib.hid (fun a ha V h => by
      have g := qMov_any (nn : Int) (.slice ao L.length cap) L (a : Int) V h
      rw [show Sq.movV (nn : Int) L (a : Int) = (Sq.mvI L (a : Int) L.length, 0) by unfold Sq.movV; rw [if_pos hc, if_pos ⟨by omega, by omega⟩]] at g
      exact g)
    have CH : Hid (∀ a j : Nat, a < nn → j < (Sq.mvI L (a : Int) L.length).length → ∃ t : Nat, t < L.length ∧ (Sq.mvI L (a : Int) L.length).getD j 0 = (t : Int) ∧ ∀ V u, SeeK V u (L.getD t Sk.t0).1 → Calls Tryd.prog 39 #[.agg #[u, .int .i64 (L.getD t Sk.t0).2], .int .i64 (a : Int)] V fun e w' => e = .returned (.tuple #[.int .i64 (if j % 2 = 0 then 1 else -1), .int .i64 0]) ∧ Below V.heap.size V w') := Lib.hid (fun a j ha hj => by
      obtain ⟨t, h1, h2, h3⟩ := Sq.mv_turn hR ha hj
      refine ⟨t, h1, h2, fun V u h => ?_⟩
      have g := sHas_any u (L.getD t Sk.t0).1 (L.getD t Sk.t0).2 (a : Int) V h
      rw [h3] at g
      exact g)
    have HME := Lib.hid (fun a (ha : a < nn) => Sq.mv_even hR ha)
    have HMS := Lib.hid (fun a (ha : a < nn) => Sq.mv_some hR ha)
    have HML : Hid (∀ a : Int, (Sq.mvI L a L.length).length ≤ L.length) := Lib.hid (fun a => Sq.mvI_len L a L.length)
    have CN : Hid (∀ V u, SeeB V u (Sq.bh nn L L.length) → Calls Tryd.prog 38 #[u, .bool true] V fun e w' => e = .returned (.bool false) ∧ Below V.heap.size V w') := Lib.hid (fun V u h => by have g := conB_any u _ true V h; rw [Sq.end_no hR] at g; exact g)
    have CB : ∀ E u u2 V, SeeB V u E → SeeB V u2 E → Hid (Calls Tryd.prog 30 #[u, u2] V fun e w' => e = .returned (.bool true) ∧ Below V.heap.size V w') := fun E u u2 V h1 h2 => Lib.hid (by have g := eqB_any u u2 E E V h1 h2; rw [decide_eq_true rfl] at g; exact g)
    clear hf hc hR
    go_enter Tryd.func7, Tryd.ntmps7
    go_wp2_with fail
    refine ((CF _ (HS.out.step HL0.out)).out).mono ?_
    rintro e w1 ⟨rfl, hb1⟩
    have HB1 := Lib.hid (below_nxt HL0.out hb1)
    have HP1 := Lib.hid (HP0.out.step hb1)
    clear hb1 p0 p1 p2
    obtain ⟨p0, p1, p2⟩ := HP1.out
    go_wp2_with (at_make; refine wpList_make_bools _ rfl _ _ 49 rfl 4 i0 Tryd.underlying49 hi0 hz0 hz1 hz2 _ _ _ _ nn rfl rfl rfl rfl (by omega) ?_; intro w2 hr2 hb2; have HP2 := Lib.hid (HP1.out.step hb2); have HB2 := Lib.hid (below_nxt HB1.out hb2); have HE2 := Lib.hid hr2.sees; clear hr2 hb2 p0 p1 p2; obtain ⟨p0, p1, p2⟩ := HP2.out)
    go_loopw [3, 29] (fun s3 s29 wr => ∃ k : Nat, k ≤ L.length ∧ s29 = .int .i64 (k : Int) ∧ ∃ ev, ev = s3 ∧ Hid (SeeB wr ev (Sq.bh nn L k)) ∧ Hid (BoxP wr w.heap.size (.int .i64 (nn : Int)) (.slice ao L.length cap)) ∧ Hid (Below w.heap.size w wr)) (fun _ s29 _ => L.length - (intOf s29).toNat)
    case atStart => exact ⟨0, Nat.zero_le _, rfl, _, rfl, HE2, HP2, HB2⟩
    case round =>
      obtain ⟨k, hk, rfl, ev, hev, HE, HP, HB⟩ := hrel
      subst hev
      obtain ⟨p0, p1, p2⟩ := HP.out
      have hkz : (L.length : Int) ≤ 64 := by omega
      by_cases hkl : k < L.length
      · have CEk := fun V (h : SeeT V (.slice ao L.length cap) L) => Lib.hid (CE.out k hk V h)
        have CAk := fun V u ev (h : SeeK V u (L.getD k Sk.t0).1) (h2 : SeeB V ev (Sq.bh nn L k)) => Lib.hid (CA.out k hkl V u ev h h2)
        obtain ⟨g, off, ak, ck, rfl, hg, c1, c2, hk0⟩ := HC.out.at HB.out hkl
        have hgr : g < wr.heap.size := Nat.lt_of_lt_of_le hg HB.out.size
        obtain ⟨hx, hxb, -⟩ := boxP_new wr (.slice ak (L.getD k Sk.t0).1.length ck) (.int .i64 (L.getD k Sk.t0).2) 70
        have HB3 := Lib.hid (below_nxt HB.out hxb)
        have HP3 := Lib.hid (HP.out.step hxb)
        have HE3 := Lib.hid (HE.out.step hxb)
        have HX3 := Lib.hid hx
        have HK3 := Lib.hid (hk0.step hxb)
        clear hx hxb hk0 CE CA CM CH HME HMS HML CN
        generalize L.getD k Sk.t0 = y at *
        obtain ⟨l, m⟩ := y
        simp only at c1 c2 HK3 HX3 HB3 HP3 HE3 CAk
        go_wp2_with fail
        refine ((CEk _ (HS.out.step HB3.out)).out).mono ?_
        rintro e w4 ⟨a4, c4, rfl, hse, hb⟩
        have HB4 := Lib.hid (below_nxt HB3.out hb)
        have HP4 := Lib.hid (HP3.out.step hb)
        have HE4 := Lib.hid (HE3.out.step hb)
        have HX4 := Lib.hid (HX3.out.step hb)
        have HK4 := Lib.hid (HK3.out.step hb)
        have HF4 := Lib.hid hse
        clear hse hb c1 c2 p0 p1 p2
        obtain ⟨x0, x1, x2⟩ := HX4.out
        go_wp2_with fail
        refine ((CAk _ _ _ HK4.out HE4.out).out).mono ?_
        rintro e w5 ⟨a5, c5, rfl, hse, hb⟩
        have HB5 := Lib.hid (below_nxt HB4.out hb)
        have HP5 := Lib.hid (HP4.out.step hb)
        have HE5 := Lib.hid (HE4.out.step hb)
        have HF5 := Lib.hid (HF4.out.step hb)
        have HG5 := Lib.hid hse
        clear hse hb x0 x1 x2
        go_wp2_with fail
        refine ((CB _ _ _ _ HF5.out HE5.out).out).mono ?_
        rintro e w6 ⟨rfl, hb⟩
        have HB6 := Lib.hid (below_nxt HB5.out hb)
        have HP6 := Lib.hid (HP5.out.step hb)
        have HG6 := Lib.hid (HG5.out.step hb)
        clear hb
        go_wp2
        exact ⟨⟨k + 1, by omega, by first | rfl | go_num, _, rfl, HG6, HP6, HB6⟩, by simp [intOf]; omega⟩
      · obtain rfl : k = L.length := by omega
        have CEk := fun V (h : SeeT V (.slice ao L.length cap) L) => Lib.hid (CE.out L.length hk V h)
        have CNk := fun V u (h : SeeB V u (Sq.bh nn L L.length)) => Lib.hid (CN.out V u h)
        clear CE CA CN
        go_wp2_with fail
        refine ((CEk _ (HS.out.step HB.out)).out).mono ?_
        rintro e w4 ⟨a4, c4, rfl, hse, hb⟩
        have HB4 := Lib.hid (below_nxt HB.out hb)
        have HP4 := Lib.hid (HP.out.step hb)
        have HE4 := Lib.hid (HE.out.step hb)
        have HF4 := Lib.hid hse
        clear hse hb p0 p1 p2
        go_wp2_with fail
        refine ((CB _ _ _ _ HF4.out HE4.out).out).mono ?_
        rintro e w5 ⟨rfl, hb⟩
        have HB5 := Lib.hid (below_nxt HB4.out hb)
        have HP5 := Lib.hid (HP4.out.step hb)
        have HF5 := Lib.hid (HF4.out.step hb)
        clear hb
        go_wp2_with fail
        refine ((CNk _ _ HF5.out).out).mono ?_
        rintro e w6 ⟨rfl, hb⟩
        have HB6 := Lib.hid (below_nxt HB5.out hb)
        have HP6 := Lib.hid (HP5.out.step hb)
        clear hb HB4 HB5 HP4 HP5 HF4 HF5 HE4
        obtain ⟨p0, p1, p2⟩ := HP6.out
        go_wp2
        clear p0 p1 p2
        go_loopw [80] (fun s80 wr => ∃ a : Nat, a ≤ nn ∧ s80 = .int .i64 (a : Int) ∧ Hid (BoxP wr w.heap.size (.int .i64 (nn : Int)) (.slice ao L.length cap)) ∧ Hid (Below w.heap.size w wr)) (fun s80 _ => nn - (intOf s80).toNat)
        case atStart => exact ⟨0, Nat.zero_le _, rfl, HP6, HB6⟩
        case round =>
          obtain ⟨a, ha, rfl, HP, HB⟩ := hrel
          obtain ⟨p0, p1, p2⟩ := HP.out
          by_cases han : a < nn
          · have CMa := fun V (h : SeeT V (.slice ao L.length cap) L) => Lib.hid (CM.out a han V h)
            have CHa := Lib.hid (fun j => CH.out a j han)
            have hev := HME.out a han
            have hsm := HMS.out a han
            have hml := HML.out (a : Int)
            clear CM CH HME HMS HML
            have hmod : ((Sq.mvI L (a : Int) L.length).length : Int).tmod 2 = 0 := by rw [Int.tmod_eq_emod_of_nonneg (by omega)]; omega
            have hlz : (((Sq.mvI L (a : Int) L.length).length : Int) == 0) = false := by rw [beq_eq_false_iff_ne]; omega
            generalize Sq.mvI L (a : Int) L.length = M at *
            go_wp2_with fail
            refine ((CMa _ (HS.out.step HB.out)).out).mono ?_
            rintro e w7 ⟨a7, c7, rfl, hse, hb⟩
            have HB7 := Lib.hid (below_nxt HB.out hb)
            have HP7 := Lib.hid (HP.out.step hb)
            have HM7 := Lib.hid hse
            clear hse hb p0 p1 p2
            obtain ⟨ma, mc, me, mz1, mz2, hMC⟩ := HM7.out
            obtain ⟨rfl, rfl⟩ : ma = a7 ∧ mc = c7 := by simp at me; exact ⟨me.1.symm, me.2.symm⟩
            have HMC := Lib.hid hMC
            clear hMC me
            go_wp2
            go_loopw [104] (fun s104 wq => ∃ j : Nat, j ≤ M.length ∧ s104 = .int .i64 (j : Int) ∧ Hid (BoxP wq w.heap.size (.int .i64 (nn : Int)) (.slice ao L.length cap)) ∧ Hid (Below w7.heap.size w7 wq)) (fun s104 _ => M.length - (intOf s104).toNat)
            case atStart => exact ⟨0, Nat.zero_le _, rfl, HP7, Lib.hid (Below.refl _ _)⟩
            case round =>
              obtain ⟨j, hj, rfl, HP, HBj⟩ := hrel
              obtain ⟨p0, p1, p2⟩ := HP.out
              have hMz : (M.length : Int) ≤ 64 := by omega
              have HBw := Lib.hid (below_nxt HB7.out HBj.out)
              by_cases hjl : j < M.length
              · obtain ⟨t, ht, hMt, hch⟩ := CHa.out j hjl
                obtain ⟨gm, om, rfl, hgm, d1⟩ := HMC.out.at HBj.out hjl
                rw [hMt] at d1
                obtain ⟨g, off, ak, ck, rfl, hg, c1, c2, hk0⟩ := HC.out.at HBw.out ht
                have hgr := Nat.lt_of_lt_of_le hg HBw.out.size
                have hgm2 := Nat.lt_of_lt_of_le hgm HBj.out.size
                have HK := Lib.hid hk0
                have ht0 : decide ((t : Int) < 0) = false := decide_eq_false (by omega)
                have ht1 : decide ((L.length : Int) ≤ (t : Int)) = false := decide_eq_false (by omega)
                have CHj := fun V u (h : SeeK V u (L.getD t Sk.t0).1) => Lib.hid (hch V u h)
                clear hch CHa hk0
                generalize L.getD t Sk.t0 = y at *
                obtain ⟨l, m⟩ := y
                simp only at c1 c2 HK CHj
                rcases Nat.mod_two_eq_zero_or_one j with h2 | h2
                all_goals
                  have hjm : (j : Int).tmod 2 = (j % 2 : Nat) := by rw [Int.tmod_eq_emod_of_nonneg (by omega)]; omega
                  rw [h2] at hjm
                  first | rw [if_pos h2] at CHj | rw [if_neg (by omega)] at CHj
                  go_wp2_with fail
                  refine ((CHj _ _ HK.out).out).mono ?_
                  rintro e w8 ⟨rfl, hb⟩
                  have HB8 := Lib.hid (below_nxt HBj.out hb)
                  have HP8 := Lib.hid (HP.out.step hb)
                  clear hb p0 p1 p2 c1 c2 d1
                  go_wp2
                  exact ⟨⟨j + 1, by omega, by first | rfl | go_num, HP8, HB8⟩, by simp [intOf]; omega⟩
              · obtain rfl : j = M.length := by omega
                go_wp2
                exact ⟨⟨a + 1, by omega, by first | rfl | go_num, HP, HBw⟩, by simp [intOf]; omega⟩
          · obtain rfl : a = nn := by omega
            clear CM CH HME HMS HML
            go_wp2_with fail
            refine (awake14_any _ (HST.out.step HB.out)).mono ?_
            rintro e wz ⟨rfl, hbz⟩
            have HBz := Lib.hid (below_nxt HB.out hbz)
            clear hbz
            go_wp2
            go_ret
            exact ⟨rfl, HBz.out⟩
end Go.Proofs.YtjpbccpleflkhaaDoor
