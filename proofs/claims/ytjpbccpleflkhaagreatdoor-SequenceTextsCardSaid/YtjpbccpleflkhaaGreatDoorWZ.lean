/- Text, Of and Parse of the reference of layer 14. -/
import Derived.Test.YtjpbccpleflkhaaGreatDoorG13
import Derived.Test.YtjpbccpleflkhaaGreatDoorG14
import Derived.Test.YtjpbccpleflkhaaGreatDoorG19
import Derived.Test.YtjpbccpleflkhaaGreatDoorG18
import Derived.Test.YtjpbccpleflkhaaGreatDoorG16
import Derived.Test.YtjpbccpleflkhaaGreatDoorG15
namespace Sq
open Sk
theorem chkF_rt {n : Int} {L : List Stp} (h : Rt n L) : chkF L = 0 := fe_all fun i hi => (stE_ok (h.stp i hi)).1
theorem txt_fmt {n : Int} {L : List Stp} (h : chk n L = 0) : txtV n L = (fmtT L, 0) := by
  have hR := chk_ok h
  have := hR.l64
  unfold txtV
  rw [if_pos h]
  unfold fmtV
  rw [if_neg (by omega), if_pos (chkF_rt hR)]
theorem mx_low {a : Int} (h : 0 ≤ a) : mx (-1) a = mx 0 a := by unfold mx; split <;> split <;> omega
theorem gre_low {L : List Stp} (hl : 0 < L.length) (h : ∀ x ∈ L, chkP x.1 x.2 = 0) : gre L (-1) = gre L 0 := by
  cases L with
  | nil => simp at hl
  | cons x L =>
    have hR := (chkP_ok (h x (by simp))).1
    have e : ∀ a, gre (x :: L) a = gre L (gre1 x.1 a) := fun a => rfl
    rw [e, e]
    congr 1
    cases hx : x.1 with
    | nil => have := hR.pos; rw [hx] at this; simp at this
    | cons y l =>
      have h0 := (hR.act 0 hR.pos).1
      rw [hx] at h0
      have e1 : ∀ a, gre1 (y :: l) a = gre1 l (mx a y.1) := fun a => rfl
      rw [e1, e1, mx_low (show 0 ≤ y.1 from h0)]
theorem gre1_bd {l : List Str} (h : RtL l) : ∀ {a : Int}, -1 ≤ a → a < 6 → -1 ≤ gre1 l a ∧ gre1 l a < 6 := by
  have h' := act_mem h
  clear h
  induction l with
  | nil => intro a h0 h6; exact ⟨h0, h6⟩
  | cons x l ih =>
    intro a h0 h6
    have hx := h' x (by simp)
    have e : gre1 (x :: l) a = gre1 l (mx a x.1) := rfl
    rw [e]
    exact ih (fun y hy => h' y (List.mem_cons_of_mem _ hy)) (by unfold mx; split <;> omega) (by unfold mx; split <;> omega)
theorem gre_bd : ∀ {L : List Stp}, (∀ x ∈ L, chkP x.1 x.2 = 0) → ∀ {a : Int}, -1 ≤ a → a < 6 → -1 ≤ gre L a ∧ gre L a < 6
  | [], _, a, h0, h6 => ⟨h0, h6⟩
  | x :: L, h, a, h0, h6 => by
    have hx := gre1_bd (chkP_ok (h x (by simp))).1 h0 h6
    exact gre_bd (L := L) (fun y hy => h y (List.mem_cons_of_mem _ hy)) hx.1 hx.2
theorem at_chk {L : List Stp} (h : ∀ x ∈ L, chkP x.1 x.2 = 0) {i : Nat} (hi : i < L.length) : chkP (L.getD i t0).1 (L.getD i t0).2 = 0 := by
  rw [getD_at hi]; exact h _ (List.getElem_mem hi)
theorem take_chk {L : List Stp} (h : ∀ x ∈ L, chkP x.1 x.2 = 0) (i : Nat) : ∀ x ∈ L.take i, chkP x.1 x.2 = 0 := fun x hx => h x (List.mem_of_mem_take hx)
theorem rtl_take {l : List Str} (h : RtL l) {i : Nat} (h0 : 0 < i) : RtL (l.take i) := by
  have hg : ∀ j, j < (l.take i).length → (l.take i).getD j d0 = l.getD j d0 := fun j hj => by
    rw [List.length_take] at hj
    rw [List.getD_eq_getElem?_getD, List.getD_eq_getElem?_getD, List.getElem?_take_of_lt (by omega)]
  have hp := h.pos
  have h6 := h.le6
  refine ⟨by rw [List.length_take]; omega, by rw [List.length_take]; omega, fun j hj => ?_, fun j hj => ?_⟩
  · rw [hg j hj]; rw [List.length_take] at hj; exact h.act j (by omega)
  · rw [hg j (by omega), hg (j + 1) hj]; rw [List.length_take] at hj; exact h.ord j (by omega)
theorem gre1_tk {l : List Str} (h : RtL l) (i : Nat) {a : Int} (h0 : -1 ≤ a) (h6 : a < 6) : -1 ≤ gre1 (l.take i) a ∧ gre1 (l.take i) a < 6 := by
  rcases Nat.eq_zero_or_pos i with e | e
  · rw [e, List.take_zero]; exact ⟨h0, h6⟩
  · exact gre1_bd (rtl_take h e) h0 h6
end Sq
namespace Go.Proofs.YtjpbccpleflkhaaGreatDoor
open Go.RowKit Go.Shelf
attribute [local go_sem] Oper.semAt_some
set_option maxHeartbeats 8000000 in
set_option maxRecDepth 100000 in
theorem rTxt14_any (n : Int) (v : Value) (L : List Sk.Stp) (w : World) (hs : SeeT w v L) : Calls Tryz.prog 7 #[.agg #[.int .i64 n, v]] w (FmtP (Sq.txtV n L) w) := by
  have HS := Lib.hid hs
  obtain ⟨ao, cap, rfl, hcap1, hcap2, -⟩ := hs
  have CC := fun V (h : SeeT V (.slice ao L.length cap) L) => Lib.hid (rChk_any n (.slice ao L.length cap) L V h)
  obtain ⟨P0, L0, z0⟩ := boxP_new w (.int .i64 n) (.slice ao L.length cap) 24
  have HL0 := Lib.hid L0
  have HP0 := Lib.hid P0
  by_cases hc : Sq.chk n L = 0
  · have hR := Sq.chk_ok hc
    have hv := Sq.txt_fmt hc
    rw [hv]
    rw [hc] at CC
    have CF := fun V (h : SeeT V (.slice ao L.length cap) L) => Lib.hid (rLines_any (.slice ao L.length cap) L V h (Sq.chkF_rt hR) hR.l64)
    obtain ⟨p0, p1, p2⟩ := P0
    clear L0 z0 hv hc hR
    generalize hF : Sk.fmtT L = F at *
    go_enter Tryz.func7, Tryz.ntmps7
    go_wp2_with fail
    refine ((CC _ (HS.out.step HL0.out)).out).mono ?_
    rintro e w1 ⟨rfl, hb1⟩
    have HB1 := Lib.hid (below_nxt HL0.out hb1)
    have HP1 := Lib.hid (HP0.out.step hb1)
    obtain ⟨q0, q1, q2⟩ := HP1.out
    clear hb1 p0 p1 p2
    go_wp2_with fail
    refine ((CF _ (HS.out.step HB1.out)).out).mono ?_
    rintro e w2 ⟨rfl, hb2⟩
    have HB2 := Lib.hid (below_nxt HB1.out hb2)
    clear hb2 q0 q1 q2
    go_wp2
    exact bodyPost_ret (v := .tuple #[.string ⟨F.toArray⟩, .int .i64 0]) (by simp [results, Tryz.f7, go_sem]) rfl ⟨rfl, HB2.out⟩
  · have hv : Sq.txtV n L = ([], Sq.chk n L) := by unfold Sq.txtV; rw [if_neg hc]
    rw [hv]
    have hct : (Sq.chk n L != 0) = true := by simpa using hc
    clear hv hc
    generalize Sq.chk n L = c at *
    obtain ⟨p0, p1, p2⟩ := P0
    clear L0 z0
    go_enter Tryz.func7, Tryz.ntmps7
    go_wp2_with fail
    refine ((CC _ (HS.out.step HL0.out)).out).mono ?_
    rintro e w1 ⟨rfl, hb1⟩
    have HB1 := Lib.hid (below_nxt HL0.out hb1)
    clear hb1 p0 p1 p2
    go_wp2
    exact bodyPost_ret (v := .tuple #[.string ⟨#[]⟩, .int .i64 c]) (by simp [results, Tryz.f7, go_sem]) rfl ⟨rfl, HB1.out⟩
set_option maxHeartbeats 16000000 in
set_option maxRecDepth 100000 in
theorem rOf_any (v : Value) (L : List Sk.Stp) (w : World) (hs : SeeT w v L) (hl : 0 < L.length) (hk : ∀ x ∈ L, Sk.chkP x.1 x.2 = 0) : Calls Tryz.prog 24 #[v] w fun e w' => e = .returned (.agg #[.int .i64 (Sq.gre L 0 + 1), v]) ∧ Below w.heap.size w w' := by
  obtain ⟨ao, cap, rfl, hcap1, hcap2, hC⟩ := hs
  have HC := Lib.hid hC
  have HG : Hid (Sq.gre L 0 = Sq.gre (L.take L.length) (-1)) := Lib.hid (by rw [List.take_length, Sq.gre_low hl hk])
  have HT := Lib.hid (fun i (h : i < L.length) => Sq.gre_take h (-1))
  have HBd := Lib.hid (fun i => Sq.gre_bd (Sq.take_chk hk i) (a := -1) (by omega) (by omega))
  have HRL := Lib.hid (fun i (h : i < L.length) => (Sk.chkP_ok (Sq.at_chk hk h)).1)
  rw [HG.out]
  clear hC hk HG
  have hr0 := resP_new w (.int .i64 0) (.slice none 0 0) 24
  have hr1 := resP_new (w.alloc (.cells #[.int .i64 0, .slice none 0 0] 24)) (.int .i64 0) (.slice ao L.length cap) 24
  rw [World.size_alloc] at hr1
  have HR0 := Lib.hid (hr0.step (allocB _ (.cells #[.int .i64 0, .slice ao L.length cap] 24)))
  have HR1 := Lib.hid hr1
  have HB0 := Lib.hid (below_nxt (allocB w (.cells #[.int .i64 0, .slice none 0 0] 24)) (allocB _ (.cells #[.int .i64 0, .slice ao L.length cap] 24)))
  clear hr0 hr1
  go_enter Tryz.func24, Tryz.ntmps24
  go_wp2
  go_loopw [4] (fun s4 wr => ∃ i : Nat, i ≤ L.length ∧ s4 = .int .i64 (i : Int) ∧ Hid (ResP wr w.heap.size (.int .i64 0) (.slice none 0 0)) ∧ Hid (ResP wr (w.heap.size + 1) (.int .i64 (Sq.gre (L.take i) (-1) + 1)) (.slice ao L.length cap)) ∧ Hid (Below w.heap.size w wr)) (fun s4 _ => L.length - (intOf s4).toNat)
  case atStart => exact ⟨0, Nat.zero_le _, rfl, HR0, HR1, HB0⟩
  case round =>
    obtain ⟨i, hi, rfl, HQ0, HQ1, HB⟩ := hrel
    have hwi : IntKind.i64.wrap (i : Int) = (i : Int) := IntWalk.i64_in _ (by omega)
    by_cases hil : i < L.length
    · have HTi := Lib.hid (HT.out i hil)
      have hbd := HBd.out i
      have HRi := Lib.hid (HRL.out i hil)
      clear HT HBd HRL
      obtain ⟨g, off, ak, ck, rfl, hg, c1, c2, hk0⟩ := HC.out.at (Below.refl w.heap.size w) hil
      have HC1 := Lib.hid c1
      have HK0 := Lib.hid hk0
      clear c1 c2 hk0
      have hl6 := HRi.out.le6
      have HTk := Lib.hid (fun j (h : j < (L.getD i Sk.t0).1.length) => Sq.gre1_take h (Sq.gre (L.take i) (-1)))
      have HBk := Lib.hid (fun j => Sq.gre1_tk HRi.out j hbd.1 hbd.2)
      have HAc := Lib.hid (fun j (h : j < (L.getD i Sk.t0).1.length) => HRi.out.act j h)
      have HAll : Hid ((L.getD i Sk.t0).1.take (L.getD i Sk.t0).1.length = (L.getD i Sk.t0).1) := Lib.hid List.take_length
      clear hbd HRi
      generalize L.getD i Sk.t0 = y at *
      obtain ⟨l, m⟩ := y
      simp only at HTi hl6 HTk HBk HAc HC1 HK0 HAll
      generalize Sq.gre (L.take i) (-1) = G at *
      go_wp2
      go_loopw [5] (fun s5 wq => ∃ j : Nat, j ≤ l.length ∧ s5 = .int .i64 (j : Int) ∧ Hid (ResP wq w.heap.size (.int .i64 0) (.slice none 0 0)) ∧ Hid (ResP wq (w.heap.size + 1) (.int .i64 (Sq.gre1 (l.take j) G + 1)) (.slice (some ⟨g, off, none⟩) L.length cap)) ∧ Hid (Below w.heap.size w wq)) (fun s5 _ => l.length - (intOf s5).toNat)
      case atStart => exact ⟨0, Nat.zero_le _, rfl, HQ0, HQ1, HB⟩
      case round =>
        obtain ⟨j, hj, rfl, HX0, HX1, HBj⟩ := hrel
        have hwj : IntKind.i64.wrap (j : Int) = (j : Int) := IntWalk.i64_in _ (by omega)
        have hgr : g < wr.heap.size := Nat.lt_of_lt_of_le hg HBj.out.size
        have c1 := (HBj.out.cell (p := ⟨g, off + i * 2, none⟩) hg).trans HC1.out
        by_cases hjl : j < l.length
        · obtain ⟨ka, kc, ke, -, -, hKC⟩ := HK0.out
          obtain ⟨rfl, rfl⟩ : ka = ak ∧ kc = ck := by simp at ke; exact ⟨ke.1.symm, ke.2.symm⟩
          obtain ⟨gk, ok, rfl, hgk, d⟩ := hKC (by omega)
          obtain ⟨d1, -⟩ := d j hjl
          obtain ⟨ha0, ha6⟩ := HAc.out j hjl
          have HTj := Lib.hid (HTk.out j hjl)
          have hbj := HBk.out j
          have hdr := (Below.refl wr.heap.size wr).drew
          have HBd := Lib.hid (HBj.out.trans (hdr.mono HBj.out.size))
          have D1 := (hdr.cell (p := ⟨g, off + i * 2, none⟩) hgr).trans c1
          have D2 := (hdr.cell (p := ⟨gk, ok + j * 2, none⟩) (Nat.lt_of_lt_of_le hgk HBj.out.size)).trans ((HBj.out.cell (p := ⟨gk, ok + j * 2, none⟩) hgk).trans d1)
          have HX0d := Lib.hid (HX0.out.step hdr)
          have HX1d := Lib.hid (HX1.out.step hdr)
          clear ke d d1 hKC HAc HTk HBk HAll HK0 HC1 hdr
          generalize (l.getD j Sk.d0).1 = a at *
          generalize Sq.gre1 (l.take j) G = V at *
          have hwa : IntKind.i64.wrap (a + 1) = a + 1 := IntWalk.i64_in _ (by omega)
          have F1 := fun u => (World.cell?_setCell_other (w := wr.drew) (v := u) (a := ⟨w.heap.size + 1, 0, none⟩) (b := ⟨g, off + i * 2, none⟩) (fun e' => by have := congrArg Addr.block e'; simp at this; omega)).trans D1
          have F2 := fun u => (World.cell?_setCell_other (w := wr.drew) (v := u) (a := ⟨w.heap.size + 1, 0, none⟩) (b := ⟨gk, ok + j * 2, none⟩) (fun e' => by have := congrArg Addr.block e'; simp at this; omega)).trans D2
          obtain ⟨q0, q1, q2, q3, q4⟩ := HX1d.out
          go_wp2_with fail
          refine wp_region_held_drew (S := fun W => W.cell? ⟨g, off + i * 2, none⟩ = some (.slice (some ⟨gk, ok, none⟩) l.length kc) ∧ W.cell? ⟨gk, ok + j * 2, none⟩ = some (.int .i64 a)) (by kernel_rfl) ?_ (fun hHeld => ?_)
          · exact ⟨D1, D2⟩
          refine wpAnyH_take (i := 0) (v := ?_) rfl (by kernel_rfl) (by kernel_rfl) (by kernel_rfl) (fun _ _ _ h => h) (Or.inl ⟨by rfl, ?_⟩) (by assumption) ?_
          rotate_left 1
          · (intro w hSw; (try dsimp only at hSw); go_simp; (try with_reducible rfl))
          try simp only [Act.put, List.getElem_toArray, List.getElem_cons_zero, List.setIfInBounds_toArray, List.set_cons_zero, List.set_cons_succ]
          refine wpAnyH_take (i := 2) (v := ?_) rfl (by kernel_rfl) (by kernel_rfl) (by kernel_rfl) (fun _ _ _ h => h) (Or.inl ⟨by rfl, ?_⟩) (by assumption) ?_
          rotate_left 1
          · (intro w hSw; (try dsimp only at hSw); go_simp; (try with_reducible rfl))
          try simp only [Act.put, List.getElem_toArray, List.getElem_cons_succ, List.getElem_cons_zero, List.setIfInBounds_toArray, List.set_cons_zero, List.set_cons_succ]
          refine wpAnyH_take (i := 3) (v := ?_) rfl (by kernel_rfl) (by kernel_rfl) (by kernel_rfl) (fun _ _ _ h => h) (Or.inl ⟨by rfl, ?_⟩) (by assumption) ?_
          rotate_left 1
          · (intro w hSw; (try dsimp only at hSw); go_simp; (try with_reducible rfl))
          try simp only [Act.put, List.getElem_toArray, List.getElem_cons_succ, List.getElem_cons_zero, List.setIfInBounds_toArray, List.set_cons_zero, List.set_cons_succ]
          refine wpAnyH_take (i := 4) (v := ?_) rfl (by kernel_rfl) (by kernel_rfl) (by kernel_rfl) (fun _ _ _ h => h) (Or.inl ⟨by rfl, ?_⟩) (by assumption) ?_
          rotate_left 1
          · (intro w hSw; (try dsimp only at hSw); go_simp; (try with_reducible rfl))
          try simp only [Act.put, List.getElem_toArray, List.getElem_cons_succ, List.getElem_cons_zero, List.setIfInBounds_toArray, List.set_cons_zero, List.set_cons_succ]
          refine wpAnyH_take (i := 5) (v := ?_) rfl (by kernel_rfl) (by kernel_rfl) (by kernel_rfl) (fun _ _ _ h => h) (Or.inl ⟨by rfl, ?_⟩) (by assumption) ?_
          rotate_left 1
          · (intro w hSw; (try dsimp only at hSw); go_simp; (try with_reducible rfl))
          try simp only [Act.put, List.getElem_toArray, List.getElem_cons_succ, List.getElem_cons_zero, List.setIfInBounds_toArray, List.set_cons_zero, List.set_cons_succ]
          refine wpAnyH_take (i := 6) (v := ?_) rfl (by kernel_rfl) (by kernel_rfl) (by kernel_rfl) (fun _ _ _ h => h) (Or.inl ⟨by rfl, ?_⟩) (by assumption) ?_
          rotate_left 1
          · (intro w hSw; (try dsimp only at hSw); go_simp; (try with_reducible rfl))
          try simp only [Act.put, List.getElem_toArray, List.getElem_cons_succ, List.getElem_cons_zero, List.setIfInBounds_toArray, List.set_cons_zero, List.set_cons_succ]
          refine wpAnyH_take (i := 7) (v := ?_) rfl (by kernel_rfl) (by kernel_rfl) (by kernel_rfl) (fun _ _ _ h => h) (Or.inl ⟨by rfl, ?_⟩) (by assumption) ?_
          rotate_left 1
          · (intro w hSw; (try dsimp only at hSw); go_simp; (try with_reducible rfl))
          try simp only [Act.put, List.getElem_toArray, List.getElem_cons_succ, List.getElem_cons_zero, List.setIfInBounds_toArray, List.set_cons_zero, List.set_cons_succ]
          refine wpAnyH_take (i := 8) (v := ?_) rfl (by kernel_rfl) (by kernel_rfl) (by kernel_rfl) (fun _ _ _ h => h) (Or.inl ⟨by rfl, ?_⟩) (by assumption) ?_
          rotate_left 1
          · (intro w hSw; (try dsimp only at hSw); go_simp; (try with_reducible rfl))
          try simp only [Act.put, List.getElem_toArray, List.getElem_cons_succ, List.getElem_cons_zero, List.setIfInBounds_toArray, List.set_cons_zero, List.set_cons_succ]
          refine wpAnyH_take (i := 9) (v := ?_) rfl (by kernel_rfl) (by kernel_rfl) (by kernel_rfl) (fun _ _ _ h => h) (Or.inl ⟨by rfl, ?_⟩) (by assumption) ?_
          rotate_left 1
          · (intro w hSw; (try dsimp only at hSw); go_simp; (try with_reducible rfl))
          try simp only [Act.put, List.getElem_toArray, List.getElem_cons_succ, List.getElem_cons_zero, List.setIfInBounds_toArray, List.set_cons_zero, List.set_cons_succ]
          refine wpAnyH_take (i := 10) (v := ?_) rfl (by kernel_rfl) (by kernel_rfl) (by kernel_rfl) (fun _ _ _ h => h) (Or.inl ⟨by rfl, ?_⟩) (by assumption) ?_
          rotate_left 1
          · (intro w hSw; (try dsimp only at hSw); go_simp; (try with_reducible rfl))
          try simp only [Act.put, List.getElem_toArray, List.getElem_cons_succ, List.getElem_cons_zero, List.setIfInBounds_toArray, List.set_cons_zero, List.set_cons_succ]
          refine wpAnyH_take (i := 11) (v := ?_) rfl (by kernel_rfl) (by kernel_rfl) (by kernel_rfl) (fun _ _ _ h => h) (Or.inl ⟨by rfl, ?_⟩) (by assumption) ?_
          rotate_left 1
          · (intro w hSw; (try dsimp only at hSw); go_simp; (try with_reducible rfl))
          try simp only [Act.put, List.getElem_toArray, List.getElem_cons_succ, List.getElem_cons_zero, List.setIfInBounds_toArray, List.set_cons_zero, List.set_cons_succ]
          refine wpAnyH_ready (rs := [1]) (by kernel_rfl) (by simp) ?_
          refine AllReadyH.cons rfl (fun K hK => ?_) AllReadyH.nil
          go_simp
          refine hK.out _ _ ?_ (fun hHeld => ?_)
          · exact ⟨D1, D2⟩
          clear hK K
          try simp only [Act.put, List.getElem_toArray, List.getElem_cons_succ, List.getElem_cons_zero, List.setIfInBounds_toArray, List.set_cons_zero, List.set_cons_succ]
          refine wpAnyH_take (i := 12) (v := ?_) rfl (by kernel_rfl) (by kernel_rfl) (by kernel_rfl) (fun _ _ _ h => h) (Or.inl ⟨by rfl, ?_⟩) (by assumption) ?_
          rotate_left 1
          · (intro w hSw; (try dsimp only at hSw); go_simp; (try with_reducible rfl))
          try simp only [Act.put, List.getElem_toArray, List.getElem_cons_succ, List.getElem_cons_zero, List.setIfInBounds_toArray, List.set_cons_zero, List.set_cons_succ]
          refine wpAnyH_take (i := 13) (v := ?_) rfl (by kernel_rfl) (by kernel_rfl) (by kernel_rfl) (fun _ _ _ h => h) (Or.inl ⟨by rfl, ?_⟩) (by assumption) ?_
          rotate_left 1
          · (intro w hSw; (try dsimp only at hSw); go_simp; (try with_reducible rfl))
          try simp only [Act.put, List.getElem_toArray, List.getElem_cons_succ, List.getElem_cons_zero, List.setIfInBounds_toArray, List.set_cons_zero, List.set_cons_succ]
          refine wpAnyH_ready (rs := [14]) (by kernel_rfl) (by simp) ?_
          refine AllReadyH.cons rfl (fun K hK => ?_) AllReadyH.nil
          go_simp
          refine hK.out _ _ ?_ (fun hHeld => ?_)
          · exact ⟨F1 _, F2 _⟩
          clear hK K
          try simp only [Act.put, List.getElem_toArray, List.getElem_cons_succ, List.getElem_cons_zero, List.setIfInBounds_toArray, List.set_cons_zero, List.set_cons_succ]
          refine wpAnyH_done (by kernel_rfl) ?_ _
          go_wp2
          have hmx : Sq.gre1 (l.take (j + 1)) G = max V a := by rw [HTj.out]; unfold Sq.mx; rw [Int.max_def]; split <;> split <;> omega
          exact ⟨⟨j + 1, by omega, by first | rfl | go_num, Lib.hid ((HX0.out.other (k := w.heap.size + 1) (o := 0) (by omega) _).step (Below.refl _ _).drew), Lib.hid (by rw [hmx]; exact (HX1.out.put0 _).step (Below.refl _ _).drew), Lib.hid ((HBj.out.setCell (p := ⟨w.heap.size + 1, 0, none⟩) (by simp) _).drew)⟩, by simp [intOf]; omega⟩
        · obtain rfl : j = l.length := by omega
          rw [HAll.out] at HX1
          go_wp2
          exact ⟨⟨i + 1, by omega, by first | rfl | go_num, HX0, by rw [HTi.out]; exact HX1, HBj⟩, by simp [intOf]; omega⟩
    · obtain rfl : i = L.length := by omega
      obtain ⟨q0, q1, q2, -, -⟩ := HQ1.out
      obtain ⟨r0, r1, r2, r3, r4⟩ := HQ0.out
      clear HT HBd HRL
      generalize hGG : Sq.gre (L.take L.length) (-1) = G at *
      go_wp2
      obtain ⟨-, f1, f2, -, -⟩ := HQ0.out.put (.int .i64 (G + 1)) (.slice ao L.length cap)
      exact bodyPost_ret (v := .agg #[.int .i64 (G + 1), .slice ao L.length cap]) (by simp [results, Tryz.f24, go_sem, f1, f2]) rfl ⟨by rw [hGG], (HB.out.setCell (p := ⟨w.heap.size, 0, none⟩) (by simp) _).setCell (p := ⟨w.heap.size, 1, none⟩) (by simp) _⟩
end Go.Proofs.YtjpbccpleflkhaaGreatDoor
