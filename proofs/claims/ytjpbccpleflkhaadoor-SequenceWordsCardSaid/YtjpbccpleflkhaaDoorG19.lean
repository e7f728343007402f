/- Words by counting: plain facts. count, Takes and Accepts of the reference of layer 14. -/
import Derived.Test.YtjpbccpleflkhaaDoorG15
import Derived.BigQuiet
import Derived.Test.YtjpbccpleflkhaaDoorG14
namespace Sq
open Sk
/-- How often a stroke is in a list. -/
def cn (Q : List Str) (x : Str) : Nat := (Q.filter fun y => decide (y = x)).length
theorem cn_cons (q : Str) (Q : List Str) (x : Str) : cn (q :: Q) x = cn Q x + (if q = x then 1 else 0) := by
  unfold cn
  rw [List.filter_cons]
  by_cases h : q = x
  · rw [if_pos (by simpa using h), if_pos h]; rfl
  · rw [if_neg (by simpa using h), if_neg h]; rfl
theorem cn_mem {Q : List Str} {x : Str} : x ∈ Q ↔ 1 ≤ cn Q x := by
  induction Q with
  | nil => simp [cn]
  | cons q Q ih =>
    rw [cn_cons, List.mem_cons, ih]
    by_cases h : q = x
    · rw [if_pos h]; simp [h]
    · rw [if_neg h]
      constructor
      · rintro (e | e)
        · exact absurd e.symm h
        · omega
      · intro e; exact .inr (by omega)
def sm (f : Str → Nat) (l : List Str) : Nat := l.foldr (fun y n => f y + n) 0
theorem sm_nil_q (l : List Str) : sm (cn []) l = 0 := by
  induction l with
  | nil => rfl
  | cons y l ih => show cn [] y + sm (cn []) l = 0; rw [ih]; rfl
theorem sm_cons_q (q : Str) (Q : List Str) : ∀ l : List Str, l.Nodup → sm (cn (q :: Q)) l ≤ sm (cn Q) l + (if q ∈ l then 1 else 0)
  | [], _ => by simp [sm]
  | y :: l, h => by
    have h1 := List.nodup_cons.1 h
    have ih := sm_cons_q q Q l h1.2
    show cn (q :: Q) y + sm (cn (q :: Q)) l ≤ cn Q y + sm (cn Q) l + _
    rw [cn_cons]
    by_cases e : q = y
    · subst e
      rw [if_neg h1.1] at ih
      rw [if_pos rfl, if_pos (by simp)]; omega
    · rw [if_neg e]
      by_cases m : q ∈ l
      · rw [if_pos m] at ih; rw [if_pos (List.mem_cons_of_mem _ m)]; omega
      · rw [if_neg m] at ih
        rw [if_neg (by intro h; rcases List.mem_cons.1 h with h | h; exact e h; exact m h)]; omega
theorem sm_le {l : List Str} (h : l.Nodup) : ∀ Q : List Str, sm (cn Q) l ≤ Q.length
  | [] => by rw [sm_nil_q]; exact Nat.le_refl _
  | q :: Q => by
    have h1 := sm_cons_q q Q l h
    have h2 := sm_le h Q
    rw [List.length_cons]
    split at h1 <;> omega
theorem sm_ge {f : Str → Nat} : ∀ {l : List Str}, (∀ y ∈ l, 1 ≤ f y) → l.length ≤ sm f l
  | [], _ => by simp
  | y :: l, h => by
    have h1 := h y (by simp)
    have h2 := sm_ge (l := l) (fun z hz => h z (List.mem_cons_of_mem _ hz))
    show l.length + 1 ≤ f y + sm f l
    omega
theorem sm_one {f : Str → Nat} : ∀ {l : List Str}, (∀ y ∈ l, 1 ≤ f y) → sm f l ≤ l.length → ∀ y ∈ l, f y = 1
  | [], _, _, y, hy => by simp at hy
  | z :: l, h, hs, y, hy => by
    have h1 := h z (by simp)
    have h2 := sm_ge (l := l) (fun z hz => h z (List.mem_cons_of_mem _ hz))
    have h3 : f z + sm f l ≤ l.length + 1 := hs
    rcases List.mem_cons.1 hy with e | e
    · rw [e]; omega
    · exact sm_one (fun z hz => h z (List.mem_cons_of_mem _ hz)) (by omega) y e
theorem rt_nodup {l : List Str} (h : RtL l) : l.Nodup := by
  rw [List.Nodup, List.pairwise_iff_getElem]
  intro i j hi hj hij e
  have := h.ords hij hj
  rw [List.getD_eq_getElem?_getD, List.getD_eq_getElem?_getD, List.getElem?_eq_getElem hi, List.getElem?_eq_getElem hj] at this
  simp only [Option.getD_some] at this
  rw [e] at this
  omega
/-- Is each stroke just once in a part? -/
def one (Q l : List Str) : Bool := l.all fun y => decide (cn Q y = 1)
theorem one_hal {Q l : List Str} (h : RtL l) (hq : Q.length = l.length) : one Q l = hal Q l := by
  apply bool_eq
  unfold one hal
  rw [List.all_eq_true, List.all_eq_true]
  constructor
  · intro g y hy
    have := of_decide_eq_true (g y hy)
    exact decide_eq_true (cn_mem.2 (by omega))
  · intro g y hy
    refine decide_eq_true (sm_one (f := cn Q) (fun z hz => cn_mem.1 (of_decide_eq_true (g z hz))) ?_ y hy)
    have := sm_le (rt_nodup h) Q
    omega
theorem one_no {Q l : List Str} {i : Nat} (hi : i < l.length) {b : Int} {p : Bool} (h : l.getD i d0 = (b, p)) (hn : cn Q (b, p) ≠ 1) : one Q l = false := by
  unfold one
  rw [List.all_eq_false]
  refine ⟨(b, p), ?_, by simpa using hn⟩
  rw [← h, List.getD_eq_getElem?_getD, List.getElem?_eq_getElem hi]
  exact List.getElem_mem hi
theorem one_yes {Q l : List Str} (h : ∀ i, i < l.length → cn Q ((l.getD i d0).1, (l.getD i d0).2) = 1) : one Q l = true := by
  unfold one
  rw [List.all_eq_true]
  intro x hx
  obtain ⟨i, hi, rfl⟩ := List.mem_iff_getElem.1 hx
  have := h i hi
  rw [List.getD_eq_getElem?_getD, List.getElem?_eq_getElem hi] at this
  exact decide_eq_true this
theorem cn_take {Q : List Str} {i : Nat} (h : i < Q.length) (x : Str) : cn (Q.take (i + 1)) x = if Q.getD i d0 = x then cn (Q.take i) x + 1 else cn (Q.take i) x := by
  rw [List.take_succ_eq_append_getElem h, List.getD_eq_getElem?_getD, List.getElem?_eq_getElem h]
  unfold cn
  rw [List.filter_append, List.length_append, List.filter_cons]
  by_cases e : Q[i] = x
  · rw [if_pos (by simpa using e), if_pos (show (some Q[i]).getD d0 = x from e)]; rfl
  · rw [if_neg (by simpa using e), if_neg (show ¬ (some Q[i]).getD d0 = x from e)]; rfl
theorem cn_le (Q : List Str) (x : Str) : cn Q x ≤ Q.length := by unfold cn; exact List.length_filter_le _ _
end Sq

namespace Go.Proofs.YtjpbccpleflkhaaDoor
open Go.RowKit Go.Shelf
attribute [local go_sem] Oper.semAt_some
theorem SeeK.cut {w : World} {ao : Option Addr} {cap : Nat} {P : List Sk.Str} (h : SeeK w (.slice ao P.length cap) P) {a n : Nat} (hn : a + n ≤ P.length) (h0 : 0 < n) : ∃ g off, ao = some ⟨g, off, none⟩ ∧ SeeK w (.slice (some ⟨g, off + a * 2, none⟩) n (cap - a)) ((P.drop a).take n) := by
  obtain ⟨a', c, e, h1, h2, h3⟩ := h
  obtain ⟨rfl, rfl⟩ : a' = ao ∧ c = cap := by simp at e; exact ⟨e.1.symm, e.2.symm⟩
  obtain ⟨g, off, rfl, hb, hc⟩ := h3 (by omega)
  have hl : ((P.drop a).take n).length = n := by rw [List.length_take, List.length_drop]; omega
  refine ⟨g, off, rfl, _, c - a, by rw [hl], by omega, by omega, fun hp => ⟨_, _, rfl, hb, fun i hi => ?_⟩⟩
  have hi' : i < n := by omega
  have := hc (a + i) (by omega)
  rw [show ((P.drop a).take n).getD i Sk.d0 = P.getD (a + i) Sk.d0 by rw [List.getD_eq_getElem?_getD, List.getD_eq_getElem?_getD, List.getElem?_take_of_lt hi', List.getElem?_drop]]
  rw [show off + a * 2 + i * 2 = off + (a + i) * 2 by omega]
  exact this
set_option maxHeartbeats 4000000 in
set_option maxRecDepth 100000 in
theorem rCnt_any (u : Value) (Q : List Sk.Str) (b : Int) (p : Bool) (w : World) (hu : SeeK w u Q) : Calls Tryd.prog 97 #[u, .agg #[.int .i64 b, .bool p]] w fun e w' => e = .returned (.int .i64 (Sq.cn Q (b, p) : Int)) ∧ Below w.heap.size w w' := by
  obtain ⟨ao, cap, rfl, hcap1, hcap2, hC⟩ := hu
  have HC := Lib.hid hC
  obtain ⟨P0, L0, z0⟩ := boxP_new w (.int .i64 b) (.bool p) 47
  have HL0 := Lib.hid L0
  have HP0 := Lib.hid P0
  have HT := Lib.hid (fun i (h : i < Q.length) => Sq.cn_take h (b, p))
  have HE : Hid (Sq.cn Q (b, p) = Sq.cn (Q.take Q.length) (b, p)) := Lib.hid (by rw [List.take_length])
  have HLe := Lib.hid (fun i => Nat.le_trans (Sq.cn_le (Q.take i) (b, p)) (List.length_take_le i Q))
  clear hC P0 L0 z0
  go_enter Tryd.func97, Tryd.ntmps97
  go_wp2
  go_loopw [5, 6] (fun s5 s6 wr => ∃ i : Nat, i ≤ Q.length ∧ s6 = .int .i64 (i : Int) ∧ s5 = .int .i64 (Sq.cn (Q.take i) (b, p) : Int) ∧ Hid (BoxP wr w.heap.size (.int .i64 b) (.bool p)) ∧ Hid (Below w.heap.size w wr)) (fun _ s6 _ => Q.length - (intOf s6).toNat)
  case atStart => exact ⟨0, Nat.zero_le _, rfl, rfl, HP0, HL0⟩
  case round =>
    obtain ⟨i, hi, rfl, rfl, HP, HB⟩ := hrel
    have hwi : IntKind.i64.wrap (i : Int) = (i : Int) := IntWalk.i64_in _ (by omega)
    by_cases hil : i < Q.length
    · obtain ⟨g, off, rfl, hg, c1, c2⟩ := HC.out.at HB.out hil
      have hgr : g < wr.heap.size := Nat.lt_of_lt_of_le hg HB.out.size
      have HTi := Lib.hid (HT.out i hil)
      have hle := HLe.out i
      obtain ⟨p0, p1, p2⟩ := HP.out
      clear HT HLe HE
      generalize Q.getD i Sk.d0 = y at *
      generalize Sq.cn (Q.take i) (b, p) = N at *
      obtain ⟨ya, yo⟩ := y
      simp only at c1 c2 HTi
      by_cases hxy : ((ya, yo) : Sk.Str) = (b, p)
      · have HTn := Lib.hid (show Sq.cn (Q.take (i + 1)) (b, p) = N + 1 by rw [HTi.out, if_pos hxy])
        obtain ⟨rfl, rfl⟩ := Prod.mk.inj hxy
        have hxx : (ya == ya) = true := by simp
        have hoo : (yo == yo) = true := by simp
        have hns := eqlS ya ya yo yo
        rw [hxx, hoo, Bool.and_self] at hns
        clear HTi
        go_wp2
        go_quiet (fail)
        go_wp2
        all_goals exact ⟨⟨i + 1, by omega, by first | rfl | go_num, by rw [HTn.out]; first | rfl | go_num, Lib.hid (HP.out.step (below_drewN _ _)), Lib.hid (HB.out.trans (below_drewN _ _))⟩, by simp [intOf]; omega⟩
      · have HTn := Lib.hid (show Sq.cn (Q.take (i + 1)) (b, p) = N by rw [HTi.out, if_neg hxy])
        have hxx : (ya == b && yo == p) = false := by
          rw [Bool.and_eq_false_iff, beq_eq_false_iff_ne, beq_eq_false_iff_ne]
          rcases Decidable.em (ya = b) with h | h
          · exact .inr (fun e => hxy (by rw [h, e]))
          · exact .inl h
        have hns := eqlS ya b yo p
        rw [hxx] at hns
        clear HTi
        go_wp2
        go_quiet (fail)
        go_wp2
        all_goals exact ⟨⟨i + 1, by omega, by first | rfl | go_num, by rw [HTn.out], Lib.hid (HP.out.step (below_drewN _ _)), Lib.hid (HB.out.trans (below_drewN _ _))⟩, by simp [intOf]; omega⟩
    · obtain rfl : i = Q.length := by omega
      go_wp2
      go_ret
      exact ⟨by rw [HE.out]; rfl, HB.out⟩
set_option maxHeartbeats 16000000 in
set_option maxRecDepth 100000 in
theorem rTks_any (n : Int) (v u : Value) (L : List Sk.Stp) (P : List Sk.Str) (w : World) (hs : SeeT w v L) (hu : SeeK w u P) (hR : Sq.Rt n L) (hP : P.length ≤ 100000) : Calls Tryd.prog 71 #[.agg #[.int .i64 n, v], u] w fun e w' => e = .returned (.bool (Sq.acc L P)) ∧ Below w.heap.size w w' := by
  have HU := Lib.hid hu
  obtain ⟨uo, ucap, rfl, hucap1, hucap2, hD⟩ := hu
  obtain ⟨ao, cap, rfl, hcap1, hcap2, hC⟩ := hs
  have HC := Lib.hid hC
  obtain ⟨P0, L0, z0⟩ := boxP_new w (.int .i64 n) (.slice ao L.length cap) 32
  have HL0 := Lib.hid L0
  have HP0 := Lib.hid P0
  have hl64 := hR.l64
  have HT := Lib.hid (fun i (h : i < L.length) P => Sq.acc_at h P)
  have HE := Lib.hid (fun P => Sq.acc_end L P)
  have HRL := Lib.hid (fun k (h : k < L.length) => (Sk.chkP_ok (Sq.stE_ok (hR.stp k h)).1).1)
  have hv : Sq.acc L P = Sq.acc (L.drop 0) (P.drop 0) := rfl
  rw [hv]
  clear hC hD hR hv
  obtain ⟨p0, p1, p2⟩ := P0
  clear L0 z0
  go_enter Tryd.func71, Tryd.ntmps71
  go_wp2
  clear p0 p1 p2
  go_loopw [5, 6] (fun s5 s6 wr => ∃ i a : Nat, i ≤ L.length ∧ a ≤ P.length ∧ s6 = .int .i64 (i : Int) ∧ s5 = .int .i64 (a : Int) ∧ Hid (Sq.acc (L.drop 0) (P.drop 0) = Sq.acc (L.drop i) (P.drop a)) ∧ Hid (BoxP wr w.heap.size (.int .i64 n) (.slice ao L.length cap)) ∧ Hid (Below w.heap.size w wr)) (fun _ s6 _ => L.length - (intOf s6).toNat)
  case atStart => exact ⟨0, 0, Nat.zero_le _, Nat.zero_le _, rfl, rfl, Lib.hid rfl, HP0, HL0⟩
  case round =>
    obtain ⟨i, a, hi, ha, rfl, rfl, HA, HP, HB⟩ := hrel
    obtain ⟨p0, p1, p2⟩ := HP.out
    have hiz : (L.length : Int) ≤ 64 := by omega
    have hwi : IntKind.i64.wrap (i : Int) = (i : Int) := IntWalk.i64_in _ (by omega)
    by_cases hil : i < L.length
    · obtain ⟨g, off, ak, ck, rfl, hg, c1, c2, hk⟩ := HC.out.at HB.out hil
      have HTi := Lib.hid (HT.out i hil (P.drop a))
      have HRi := Lib.hid (HRL.out i hil)
      have HK := Lib.hid hk
      have hgr : g < wr.heap.size := Nat.lt_of_lt_of_le hg HB.out.size
      clear HT HRL hk
      generalize L.getD i Sk.t0 = y at *
      obtain ⟨l, k⟩ := y
      simp only at c1 c2 HK HTi HRi
      have hl6 := HRi.out.le6
      have hlp := HRi.out.pos
      have hdl : (P.drop a).length = P.length - a := List.length_drop ..
      have hwa : IntKind.i64.wrap ((a : Int) + (l.length : Int)) = (a : Int) + (l.length : Int) := IntWalk.i64_in _ (by omega)
      by_cases hn : a + l.length ≤ P.length
      · obtain ⟨ug, uoff, rfl, hcut⟩ := HU.out.cut hn hlp
        have HQ := Lib.hid hcut
        have hQl : ((P.drop a).take l.length).length = l.length := by rw [List.length_take]; omega
        have HON := Lib.hid (Sq.one_hal HRi.out hQl)
        have HA1 := Lib.hid (show Sq.one ((P.drop a).take l.length) l = true → Sq.acc (L.drop 0) (P.drop 0) = Sq.acc (L.drop (i + 1)) (P.drop (a + l.length)) from fun h => by rw [HA.out, HTi.out, if_pos ⟨by omega, by rw [← HON.out]; exact h⟩, List.drop_drop])
        have HA0 := Lib.hid (show Sq.one ((P.drop a).take l.length) l = false → Sq.acc (L.drop 0) (P.drop 0) = false from fun h => by rw [HA.out, HTi.out, if_neg (fun hh => by rw [← HON.out, h] at hh; simp at hh)])
        obtain ⟨la, lc, le, -, -, hLC⟩ := HK.out
        have hLC' : la = ak := by simp at le; exact le.1.symm
        subst hLC'
        have HLC := Lib.hid hLC
        have hcapz : P.length ≤ ucap := hucap1
        clear hcut hQl HON HTi HA hLC le
        generalize (P.drop a).take l.length = Q at *
        obtain ⟨wo, hwo⟩ : ∃ wo, wo = wr := ⟨_, rfl⟩
        subst hwo
        go_wp2
        clear p0 p1 p2
        go_loopw [8] (fun s8 wq => ∃ j : Nat, j ≤ l.length ∧ s8 = .int .i64 (j : Int) ∧ Hid (∀ i, i < j → Sq.cn Q ((l.getD i Sk.d0).1, (l.getD i Sk.d0).2) = 1) ∧ Hid (BoxP wq w.heap.size (.int .i64 n) (.slice (some ⟨g, off, none⟩) L.length cap)) ∧ Hid (Below wo.heap.size wo wq)) (fun s8 _ => l.length - (intOf s8).toNat)
        case atStart => exact ⟨0, Nat.zero_le _, rfl, Lib.hid (fun i h => by omega), HP, Lib.hid (Below.refl _ _)⟩
        case round =>
          obtain ⟨j, hj, rfl, HJ, HPj, HBj⟩ := hrel
          have hwj : IntKind.i64.wrap (j : Int) = (j : Int) := IntWalk.i64_in _ (by omega)
          have HBw := Lib.hid (below_nxt HB.out HBj.out)
          by_cases hjl : j < l.length
          · obtain ⟨gk, ok, rfl, hgk, d1, d2⟩ := HLC.out.at HBj.out hjl
            have HNo := Lib.hid (fun b p (h : l.getD j Sk.d0 = (b, p)) (hn : Sq.cn Q (b, p) ≠ 1) => HA0.out (Sq.one_no hjl h hn))
            have HJ2 : Hid (Sq.cn Q ((l.getD j Sk.d0).1, (l.getD j Sk.d0).2) = 1 → ∀ i, i < j + 1 → Sq.cn Q ((l.getD i Sk.d0).1, (l.getD i Sk.d0).2) = 1) := Lib.hid (fun h i hi => by
              by_cases e : i = j
              · rw [e]; exact h
              · exact HJ.out i (by omega))
            have hdr := (Below.refl wr.heap.size wr).drew
            have HBd := Lib.hid (below_nxt HBj.out hdr)
            have HPd := Lib.hid (HPj.out.step hdr)
            have HQd := Lib.hid (HQ.out.step (below_nxt HB.out HBd.out))
            have hgd : gk < wr.drew.heap.size := Nat.lt_of_lt_of_le hgk HBd.out.size
            have D1 := (hdr.cell (p := ⟨gk, ok + j * 2, none⟩) (Nat.lt_of_lt_of_le hgk HBj.out.size)).trans d1
            have D2 := (hdr.cell (p := ⟨gk, ok + j * 2 + 1, none⟩) (Nat.lt_of_lt_of_le hgk HBj.out.size)).trans d2
            have hca : ¬ ucap = a := by omega
            clear HBw HBj HPj HJ HQ hdr d1 d2 HA0 HLC
            generalize l.getD j Sk.d0 = y at *
            obtain ⟨b, p⟩ := y
            simp only at D1 D2 HJ2
            have CH := fun V (h : SeeK V (.slice (some ⟨ug, uoff + a * 2, none⟩) l.length (ucap - a)) Q) => Lib.hid (rCnt_any (.slice (some ⟨ug, uoff + a * 2, none⟩) l.length (ucap - a)) Q b p V h)
            generalize hN : Sq.cn Q (b, p) = N at *
            by_cases hN1 : N = 1
            · subst hN1
              have HJ3 := Lib.hid (HJ2.out rfl)
              clear HJ2 HNo hN
              go_wp2_with fail
              refine wp_region_noPanic ?_
              refine wp_region_held_drew (S := fun W => W.cell? ⟨gk, ok + j * 2, none⟩ = some (.int .i64 b) ∧ W.cell? ⟨gk, ok + j * 2 + 1, none⟩ = some (.bool p)) (by kernel_rfl) ?_ (fun hHeld => ?_)
              · exact ⟨D1, D2⟩
              refine wpAnyH_take (i := 0) (v := ?_) rfl (by kernel_rfl) (by kernel_rfl) (by kernel_rfl) (fun _ _ _ h => h) (Or.inl ⟨by rfl, ?_⟩) (by assumption) ?_
              rotate_left 1
              · (intro w hSw; (try dsimp only at hSw); go_simp; (try with_reducible rfl))
              try simp only [Act.put, List.getElem_toArray, List.getElem_cons_zero, List.setIfInBounds_toArray, List.set_cons_zero, List.set_cons_succ]
              refine wpAnyH_take (i := 1) (v := ?_) rfl (by kernel_rfl) (by kernel_rfl) (by kernel_rfl) (fun _ _ _ h => h) (Or.inl ⟨by rfl, ?_⟩) (by assumption) ?_
              rotate_left 1
              · (intro w hSw; (try dsimp only at hSw); go_simp; (try with_reducible rfl))
              try simp only [Act.put, List.getElem_toArray, List.getElem_cons_succ, List.getElem_cons_zero, List.setIfInBounds_toArray, List.set_cons_zero, List.set_cons_succ]
              refine wpAnyH_take (i := 2) (v := ?_) rfl (by kernel_rfl) (by kernel_rfl) (by kernel_rfl) (fun _ _ _ h => h) (Or.inl ⟨by rfl, ?_⟩) (by assumption) ?_
              rotate_left 1
              · (intro w hSw; (try dsimp only at hSw); go_simp; (try with_reducible rfl))
              try simp only [Act.put, List.getElem_toArray, List.getElem_cons_succ, List.getElem_cons_zero, List.setIfInBounds_toArray, List.set_cons_zero, List.set_cons_succ]
              refine wpAnyH_take (i := 3) (v := ?_) rfl (by kernel_rfl) (by kernel_rfl) (by kernel_rfl) (fun _ _ _ h => h) (Or.inl ⟨by rfl, ?_⟩) (by assumption) ?_
              rotate_left 1
              · (intro w hSw; (try dsimp only at hSw); go_simp; (try with_reducible rfl))
              try simp only [Act.put, List.getElem_toArray, List.getElem_cons_succ, List.getElem_cons_zero, List.setIfInBounds_toArray, List.set_cons_zero, List.set_cons_succ]
              refine wpAnyH_take (i := 4) (v := ?_) rfl (by kernel_rfl) (by kernel_rfl) (by kernel_rfl) (fun _ _ _ h => h) (Or.inl ⟨by rfl, ?_⟩) (by assumption) ?_
              rotate_left 1
              · (intro w hSw; (try dsimp only at hSw); go_simp; (try with_reducible rfl))
              try simp only [Act.put, List.getElem_toArray, List.getElem_cons_succ, List.getElem_cons_zero, List.setIfInBounds_toArray, List.set_cons_zero, List.set_cons_succ]
              refine wpAnyH_take (i := 5) (v := ?_) rfl (by kernel_rfl) (by kernel_rfl) (by kernel_rfl) (fun _ _ _ h => h) (Or.inl ⟨by rfl, ?_⟩) (by assumption) ?_
              rotate_left 1
              · (intro w hSw; (try dsimp only at hSw); go_simp; (try with_reducible rfl))
              try simp only [Act.put, List.getElem_toArray, List.getElem_cons_succ, List.getElem_cons_zero, List.setIfInBounds_toArray, List.set_cons_zero, List.set_cons_succ]
              refine wpAnyH_take (i := 6) (v := .slice (some ⟨ug, uoff + a * 2, none⟩) l.length (ucap - a)) rfl (by kernel_rfl) (by kernel_rfl) (by kernel_rfl) (fun _ _ _ h => h) (Or.inl ⟨by rfl, ?_⟩) (by assumption) ?_
              skip
              · (intro w hSw; (try dsimp only at hSw); go_simp; rw [if_pos ⟨by omega, by omega⟩, if_pos (by omega), show ((a : Int) + (l.length : Int)).toNat - a = l.length by omega])
              try simp only [Act.put, List.getElem_toArray, List.getElem_cons_succ, List.getElem_cons_zero, List.setIfInBounds_toArray, List.set_cons_zero, List.set_cons_succ]
              refine wpAnyH_take (i := 7) (v := ?_) rfl (by kernel_rfl) (by kernel_rfl) (by kernel_rfl) (fun _ _ _ h => h) (Or.inl ⟨by rfl, ?_⟩) (by assumption) ?_
              rotate_left 1
              · (intro w hSw; (try dsimp only at hSw); go_simp; (try with_reducible rfl))
              try simp only [Act.put, List.getElem_toArray, List.getElem_cons_succ, List.getElem_cons_zero, List.setIfInBounds_toArray, List.set_cons_zero, List.set_cons_succ]
              refine wpAnyH_take (i := 8) (v := ?_) rfl (by kernel_rfl) (by kernel_rfl) (by kernel_rfl) (fun _ _ _ h => h) (Or.inl ⟨by rfl, ?_⟩) (by assumption) ?_
              rotate_left 1
              · (intro w hSw; (try dsimp only at hSw); go_simp; (try with_reducible rfl))
              try simp only [Act.put, List.getElem_toArray, List.getElem_cons_succ, List.getElem_cons_zero, List.setIfInBounds_toArray, List.set_cons_zero, List.set_cons_succ]
              refine wpAnyH_take (i := 9) (v := ?_) rfl (by kernel_rfl) (by kernel_rfl) (by kernel_rfl) (fun _ _ _ h => h) (Or.inl ⟨by rfl, ?_⟩) (by assumption) ?_
              rotate_left 1
              · (intro w hSw; (try dsimp only at hSw); go_simp; (try with_reducible rfl))
              try simp only [Act.put, List.getElem_toArray, List.getElem_cons_succ, List.getElem_cons_zero, List.setIfInBounds_toArray, List.set_cons_zero, List.set_cons_succ]
              refine wpAnyH_take (i := 10) (v := ?_) rfl (by kernel_rfl) (by kernel_rfl) (by kernel_rfl) (fun _ _ _ h => h) (Or.inl ⟨by rfl, ?_⟩) (by assumption) ?_
              rotate_left 1
              · (intro w hSw; (try dsimp only at hSw); go_simp; (try with_reducible rfl))
              try simp only [Act.put, List.getElem_toArray, List.getElem_cons_succ, List.getElem_cons_zero, List.setIfInBounds_toArray, List.set_cons_zero, List.set_cons_succ]
              refine wpAnyH_ready (rs := [11]) (by kernel_rfl) (by simp) ?_
              refine AllReadyH.cons rfl (fun K hK => ?_) AllReadyH.nil
              go_simp
              (go_at_call 97; (with_reducible refine ((CH _ HQd.out).out).mono ?_); rintro e wn ⟨rfl, hb⟩; have HBq := Lib.hid (below_nxt HBd.out hb); have HPq := Lib.hid (HPd.out.step hb); have D1q := (hb.cell (p := ⟨gk, ok + j * 2, none⟩) hgd).trans D1; have D2q := (hb.cell (p := ⟨gk, ok + j * 2 + 1, none⟩) hgd).trans D2; clear HBd HPd D1 D2 hb HQd hgd; have HBd := HBq; have HPd := HPq; have D1 := D1q; have D2 := D2q; clear HBq HPq D1q D2q)
              go_simp
              refine hK.out _ _ ?_ (fun hHeld => ?_)
              · exact ⟨D1, D2⟩
              clear hK K
              try simp only [Act.put, List.getElem_toArray, List.getElem_cons_succ, List.getElem_cons_zero, List.setIfInBounds_toArray, List.set_cons_zero, List.set_cons_succ]
              refine wpAnyH_take (i := 12) (v := ?_) rfl (by kernel_rfl) (by kernel_rfl) (by kernel_rfl) (fun _ _ _ h => h) (Or.inl ⟨by rfl, ?_⟩) (by assumption) ?_
              rotate_left 1
              · (intro w hSw; (try dsimp only at hSw); go_simp; (try with_reducible rfl))
              try simp only [Act.put, List.getElem_toArray, List.getElem_cons_succ, List.getElem_cons_zero, List.setIfInBounds_toArray, List.set_cons_zero, List.set_cons_succ]
              refine wpAnyH_done (by kernel_rfl) ?_ _
              refine NoPanic.normal ?_
              go_wp2
              exact ⟨⟨j + 1, by omega, by first | rfl | go_num, HJ3, HPd, HBd⟩, by simp [intOf]; omega⟩
            · have HRes := Lib.hid (HNo.out b p rfl (by rw [hN]; exact hN1))
              have hNz : ((N : Int) != 1) = true := by rw [bne_iff_ne]; omega
              clear HJ2 HNo hN
              go_wp2_with fail
              refine wp_region_noPanic ?_
              refine wp_region_held_drew (S := fun W => W.cell? ⟨gk, ok + j * 2, none⟩ = some (.int .i64 b) ∧ W.cell? ⟨gk, ok + j * 2 + 1, none⟩ = some (.bool p)) (by kernel_rfl) ?_ (fun hHeld => ?_)
              · exact ⟨D1, D2⟩
              refine wpAnyH_take (i := 0) (v := ?_) rfl (by kernel_rfl) (by kernel_rfl) (by kernel_rfl) (fun _ _ _ h => h) (Or.inl ⟨by rfl, ?_⟩) (by assumption) ?_
              rotate_left 1
              · (intro w hSw; (try dsimp only at hSw); go_simp; (try with_reducible rfl))
              try simp only [Act.put, List.getElem_toArray, List.getElem_cons_zero, List.setIfInBounds_toArray, List.set_cons_zero, List.set_cons_succ]
              refine wpAnyH_take (i := 1) (v := ?_) rfl (by kernel_rfl) (by kernel_rfl) (by kernel_rfl) (fun _ _ _ h => h) (Or.inl ⟨by rfl, ?_⟩) (by assumption) ?_
              rotate_left 1
              · (intro w hSw; (try dsimp only at hSw); go_simp; (try with_reducible rfl))
              try simp only [Act.put, List.getElem_toArray, List.getElem_cons_succ, List.getElem_cons_zero, List.setIfInBounds_toArray, List.set_cons_zero, List.set_cons_succ]
              refine wpAnyH_take (i := 2) (v := ?_) rfl (by kernel_rfl) (by kernel_rfl) (by kernel_rfl) (fun _ _ _ h => h) (Or.inl ⟨by rfl, ?_⟩) (by assumption) ?_
              rotate_left 1
              · (intro w hSw; (try dsimp only at hSw); go_simp; (try with_reducible rfl))
              try simp only [Act.put, List.getElem_toArray, List.getElem_cons_succ, List.getElem_cons_zero, List.setIfInBounds_toArray, List.set_cons_zero, List.set_cons_succ]
              refine wpAnyH_take (i := 3) (v := ?_) rfl (by kernel_rfl) (by kernel_rfl) (by kernel_rfl) (fun _ _ _ h => h) (Or.inl ⟨by rfl, ?_⟩) (by assumption) ?_
              rotate_left 1
              · (intro w hSw; (try dsimp only at hSw); go_simp; (try with_reducible rfl))
              try simp only [Act.put, List.getElem_toArray, List.getElem_cons_succ, List.getElem_cons_zero, List.setIfInBounds_toArray, List.set_cons_zero, List.set_cons_succ]
              refine wpAnyH_take (i := 4) (v := ?_) rfl (by kernel_rfl) (by kernel_rfl) (by kernel_rfl) (fun _ _ _ h => h) (Or.inl ⟨by rfl, ?_⟩) (by assumption) ?_
              rotate_left 1
              · (intro w hSw; (try dsimp only at hSw); go_simp; (try with_reducible rfl))
              try simp only [Act.put, List.getElem_toArray, List.getElem_cons_succ, List.getElem_cons_zero, List.setIfInBounds_toArray, List.set_cons_zero, List.set_cons_succ]
              refine wpAnyH_take (i := 5) (v := ?_) rfl (by kernel_rfl) (by kernel_rfl) (by kernel_rfl) (fun _ _ _ h => h) (Or.inl ⟨by rfl, ?_⟩) (by assumption) ?_
              rotate_left 1
              · (intro w hSw; (try dsimp only at hSw); go_simp; (try with_reducible rfl))
              try simp only [Act.put, List.getElem_toArray, List.getElem_cons_succ, List.getElem_cons_zero, List.setIfInBounds_toArray, List.set_cons_zero, List.set_cons_succ]
              refine wpAnyH_take (i := 6) (v := .slice (some ⟨ug, uoff + a * 2, none⟩) l.length (ucap - a)) rfl (by kernel_rfl) (by kernel_rfl) (by kernel_rfl) (fun _ _ _ h => h) (Or.inl ⟨by rfl, ?_⟩) (by assumption) ?_
              skip
              · (intro w hSw; (try dsimp only at hSw); go_simp; rw [if_pos ⟨by omega, by omega⟩, if_pos (by omega), show ((a : Int) + (l.length : Int)).toNat - a = l.length by omega])
              try simp only [Act.put, List.getElem_toArray, List.getElem_cons_succ, List.getElem_cons_zero, List.setIfInBounds_toArray, List.set_cons_zero, List.set_cons_succ]
              refine wpAnyH_take (i := 7) (v := ?_) rfl (by kernel_rfl) (by kernel_rfl) (by kernel_rfl) (fun _ _ _ h => h) (Or.inl ⟨by rfl, ?_⟩) (by assumption) ?_
              rotate_left 1
              · (intro w hSw; (try dsimp only at hSw); go_simp; (try with_reducible rfl))
              try simp only [Act.put, List.getElem_toArray, List.getElem_cons_succ, List.getElem_cons_zero, List.setIfInBounds_toArray, List.set_cons_zero, List.set_cons_succ]
              refine wpAnyH_take (i := 8) (v := ?_) rfl (by kernel_rfl) (by kernel_rfl) (by kernel_rfl) (fun _ _ _ h => h) (Or.inl ⟨by rfl, ?_⟩) (by assumption) ?_
              rotate_left 1
              · (intro w hSw; (try dsimp only at hSw); go_simp; (try with_reducible rfl))
              try simp only [Act.put, List.getElem_toArray, List.getElem_cons_succ, List.getElem_cons_zero, List.setIfInBounds_toArray, List.set_cons_zero, List.set_cons_succ]
              refine wpAnyH_take (i := 9) (v := ?_) rfl (by kernel_rfl) (by kernel_rfl) (by kernel_rfl) (fun _ _ _ h => h) (Or.inl ⟨by rfl, ?_⟩) (by assumption) ?_
              rotate_left 1
              · (intro w hSw; (try dsimp only at hSw); go_simp; (try with_reducible rfl))
              try simp only [Act.put, List.getElem_toArray, List.getElem_cons_succ, List.getElem_cons_zero, List.setIfInBounds_toArray, List.set_cons_zero, List.set_cons_succ]
              refine wpAnyH_take (i := 10) (v := ?_) rfl (by kernel_rfl) (by kernel_rfl) (by kernel_rfl) (fun _ _ _ h => h) (Or.inl ⟨by rfl, ?_⟩) (by assumption) ?_
              rotate_left 1
              · (intro w hSw; (try dsimp only at hSw); go_simp; (try with_reducible rfl))
              try simp only [Act.put, List.getElem_toArray, List.getElem_cons_succ, List.getElem_cons_zero, List.setIfInBounds_toArray, List.set_cons_zero, List.set_cons_succ]
              refine wpAnyH_ready (rs := [11]) (by kernel_rfl) (by simp) ?_
              refine AllReadyH.cons rfl (fun K hK => ?_) AllReadyH.nil
              go_simp
              (go_at_call 97; (with_reducible refine ((CH _ HQd.out).out).mono ?_); rintro e wn ⟨rfl, hb⟩; have HBq := Lib.hid (below_nxt HBd.out hb); have HPq := Lib.hid (HPd.out.step hb); have D1q := (hb.cell (p := ⟨gk, ok + j * 2, none⟩) hgd).trans D1; have D2q := (hb.cell (p := ⟨gk, ok + j * 2 + 1, none⟩) hgd).trans D2; clear HBd HPd D1 D2 hb HQd hgd; have HBd := HBq; have HPd := HPq; have D1 := D1q; have D2 := D2q; clear HBq HPq D1q D2q)
              go_simp
              refine hK.out _ _ ?_ (fun hHeld => ?_)
              · exact ⟨D1, D2⟩
              clear hK K
              try simp only [Act.put, List.getElem_toArray, List.getElem_cons_succ, List.getElem_cons_zero, List.setIfInBounds_toArray, List.set_cons_zero, List.set_cons_succ]
              refine wpAnyH_take (i := 12) (v := ?_) rfl (by kernel_rfl) (by kernel_rfl) (by kernel_rfl) (fun _ _ _ h => h) (Or.inl ⟨by rfl, ?_⟩) (by assumption) ?_
              rotate_left 1
              · (intro w hSw; (try dsimp only at hSw); go_simp; (try with_reducible rfl))
              try simp only [Act.put, List.getElem_toArray, List.getElem_cons_succ, List.getElem_cons_zero, List.setIfInBounds_toArray, List.set_cons_zero, List.set_cons_succ]
              refine wpAnyH_done (by kernel_rfl) ?_ _
              refine NoPanic.normal ?_
              go_wp2
              exact bodyPost_ret (v := .bool false) (by simp [results, Tryd.f71, go_sem]) rfl ⟨by rw [HRes.out], below_nxt HB.out HBd.out⟩
          · obtain rfl : j = l.length := by omega
            have HRes := Lib.hid (HA1.out (Sq.one_yes HJ.out))
            go_wp2
            exact ⟨⟨i + 1, a + l.length, by omega, by omega, by first | rfl | go_num, by first | rfl | go_num, HRes, HPj, HBw⟩, by simp [intOf]; omega⟩
      · have hres : Sq.acc (L.drop 0) (P.drop 0) = false := by rw [HA.out, HTi.out, if_neg (fun h => by omega)]
        have HRes := Lib.hid hres
        clear hres HTi HA hdl
        go_wp2
        exact bodyPost_ret (v := .bool false) (by simp [results, Tryd.f71, go_sem]) rfl ⟨by rw [HRes.out], HB.out⟩
    · obtain rfl : i = L.length := by omega
      have hend : Sq.acc (L.drop 0) (P.drop 0) = decide (P.length = a) := by
        rw [HA.out, HE.out, List.length_drop]
        exact decide_eq_decide.2 (by omega)
      have HEnd := Lib.hid hend
      clear hend HA
      have hdz : ((a : Int) == (P.length : Int)) = decide (P.length = a) := by
        by_cases h : P.length = a
        · rw [h]; simp
        · rw [decide_eq_false h, beq_eq_false_iff_ne]; omega
      go_wp2
      exact bodyPost_ret (v := .bool (decide (P.length = a))) (by simp [results, Tryd.f71, go_sem]) rfl ⟨by rw [HEnd.out], HB.out⟩
end Go.Proofs.YtjpbccpleflkhaaDoor
