/- The call of the statement SequenceReads. -/
import Derived.Test.YtjpbccpleflkhaaDoorG17
import Derived.Test.YtjpbccpleflkhaaDoorG13
import Derived.Test.YtjpbccpleflkhaaDoorG14
namespace Sq
open Sk
theorem mx_ge (a b : Int) : a ≤ mx a b ∧ b ≤ mx a b := by unfold mx; split <;> omega
theorem gre1_ge : ∀ {l : List Str} {a : Int}, a ≤ gre1 l a ∧ ∀ x ∈ l, x.1 ≤ gre1 l a
  | [], a => ⟨Int.le_refl _, by simp⟩
  | x :: l, a => by
    have ih := gre1_ge (l := l) (a := mx a x.1)
    have e : gre1 (x :: l) a = gre1 l (mx a x.1) := rfl
    have h := mx_ge a x.1
    rw [e]
    refine ⟨by omega, fun y hy => ?_⟩
    rcases List.mem_cons.1 hy with rfl | hy
    · omega
    · exact ih.2 y hy
theorem gre_ge : ∀ {L : List Stp} {a : Int}, a ≤ gre L a ∧ ∀ x ∈ L, ∀ y ∈ x.1, y.1 ≤ gre L a
  | [], a => ⟨Int.le_refl _, by simp⟩
  | z :: L, a => by
    have ih := gre_ge (L := L) (a := gre1 z.1 a)
    have h := gre1_ge (l := z.1) (a := a)
    have e : gre (z :: L) a = gre L (gre1 z.1 a) := rfl
    rw [e]
    refine ⟨by omega, fun x hx y hy => ?_⟩
    rcases List.mem_cons.1 hx with rfl | hx
    · have := h.2 y hy; omega
    · exact ih.2 x hx y hy
theorem gre_lt {n : Int} : ∀ {L : List Stp} {a : Int}, a < n → (∀ x ∈ L, ∀ y ∈ x.1, y.1 < n) → gre L a < n
  | [], _, h, _ => h
  | z :: L, a, h, hx => gre_lt (L := L) (gre1_lt.2 ⟨h, hx z (by simp)⟩) (fun x h' => hx x (List.mem_cons_of_mem _ h'))
theorem mem_ix {L : List Stp} {x : Stp} (h : x ∈ L) : ∃ i, i < L.length ∧ L.getD i t0 = x := by
  obtain ⟨i, hi, rfl⟩ := List.mem_iff_getElem.1 h
  exact ⟨i, hi, getD_at hi⟩
theorem way_mem {l : List Str} {a : Int} (h : wayV l a ≠ 0) : ∃ y ∈ l, y.1 = a := by
  induction l with
  | nil => exact absurd rfl h
  | cons x l ih =>
    by_cases e : x.1 = a
    · exact ⟨x, by simp, e⟩
    · have h2 : wayV (x :: l) a = wayV l a := if_neg e
      rw [h2] at h
      obtain ⟨y, hy, he⟩ := ih h
      exact ⟨y, List.mem_cons_of_mem _ hy, he⟩
/-- A right sequence has the actuators up to the greatest one. -/
theorem rt_gre {n : Int} {L : List Stp} (h : Rt n L) : gre L 0 + 1 = n := by
  have h1 := h.n1
  have hlt : gre L 0 < n := gre_lt (by omega) (fun x hx y hy => by
    obtain ⟨i, hi, rfl⟩ := mem_ix hx
    have hl := (stE_ok (h.stp i hi)).2.1
    unfold low at hl
    have := of_decide_eq_true (List.all_eq_true.1 hl y hy)
    omega)
  have hm := h.mov (n.toNat - 1) (by omega)
  unfold mvs at hm
  obtain ⟨x, hx, hw⟩ := List.any_eq_true.1 hm
  obtain ⟨y, hy, he⟩ := way_mem (of_decide_eq_true hw)
  have := (gre_ge (L := L) (a := 0)).2 x hx y hy
  omega
theorem chkF_rt {n : Int} {L : List Stp} (h : Rt n L) : chkF L = 0 := fe_all fun i hi => (stE_ok (h.stp i hi)).1
theorem txt_ok {n : Int} {L : List Stp} (h : (txtV n L).2 = 0) : chk n L = 0 := by
  unfold txtV at h
  by_cases hc : chk n L = 0
  · exact hc
  · rw [if_neg hc] at h; exact absurd h hc
theorem txt_fmt {n : Int} {L : List Stp} (h : chk n L = 0) : txtV n L = (fmtT L, 0) := by
  have hR := chk_ok h
  have := hR.l64
  unfold txtV
  rw [if_pos h]
  unfold fmtV
  rw [if_neg (by omega), if_pos (chkF_rt hR)]
theorem seq_back {n : Int} {L : List Stp} (h : chk n L = 0) : seqV (fmtT L) = ((n, L), 0, 0) := by
  have hR := chk_ok h
  have hp := par_fmt (chkF_rt hR) hR.l64
  have h1 := hR.l1
  unfold seqV
  rw [hp]
  simp only
  rw [if_neg (by simp), if_neg (by omega), rt_gre hR, if_pos h]
theorem seq_txt {t : List UInt8} {n : Int} {L : List Stp} {k : Int} (h : seqV t = ((n, L), k, 0)) : txtV n L = (t, 0) := by
  obtain ⟨M, j, m, hp⟩ : ∃ M j m, parV t = (M, j, m) := ⟨_, _, _, rfl⟩
  unfold seqV at h
  rw [hp] at h
  simp only at h
  by_cases hm : m = 0
  · subst hm
    rw [if_neg (by simp)] at h
    by_cases hl : M.length = 0
    · rw [if_pos hl] at h; simp at h
    rw [if_neg hl] at h
    by_cases hc : chk (gre M 0 + 1) M = 0
    · rw [if_pos hc] at h
      simp only [Prod.mk.injEq] at h
      obtain ⟨⟨rfl, rfl⟩, -⟩ := h
      unfold txtV
      rw [if_pos hc]
      exact fmt_par hp
    · rw [if_neg hc] at h
      simp only [Prod.mk.injEq] at h
      exact absurd h.2.2 hc
  · rw [if_pos hm] at h
    simp only [Prod.mk.injEq] at h
    exact absurd h.2.2 hm
end Sq
namespace Go.Proofs.YtjpbccpleflkhaaDoor
open Go.RowKit Go.Shelf
attribute [local go_sem] Oper.semAt_some
set_option maxHeartbeats 32000000 in
set_option maxRecDepth 100000 in
theorem reads14_any (n : Int) (v : Value) (L : List Sk.Stp) (t : ByteArray) (w : World) (hst : StQ w) (hs : SeeT w v L) (_ : t.size ≤ 9223372036854775807) : Calls Tryd.prog 9 #[.agg #[.int .i64 n, v], .string t] w fun e w' => e = .returned (.bool true) ∧ Below w.heap.size w w' := by
  have HST := Lib.hid hst
  have HS := Lib.hid hs
  obtain ⟨ao, cap, rfl, -⟩ := hs
  have CF := fun V (h : SeeT V (.slice ao L.length cap) L) => Lib.hid (rFew14_any n (.slice ao L.length cap) L V h)
  obtain ⟨P0, L0, z0⟩ := boxP_new w (.int .i64 n) (.slice ao L.length cap) 32
  have HL0 := Lib.hid L0
  have HP0 := Lib.hid P0
  obtain ⟨p0, p1, p2⟩ := P0
  clear L0 z0 hst
  have hway : Sq.fewV L = false ∨ (Sq.fewV L = true ∧ 800 < t.size) ∨ (Sq.fewV L = true ∧ t.size ≤ 800) := by
    cases Sq.fewV L
    · exact .inl rfl
    · by_cases h : t.size ≤ 800
      · exact .inr (.inr ⟨rfl, h⟩)
      · exact .inr (.inl ⟨rfl, by omega⟩)
  rcases hway with hf | ⟨hf, hlen⟩ | ⟨hf, hlen⟩
  · rw [hf] at CF
    clear hf
    go_enter Tryd.func9, Tryd.ntmps9
    go_wp2_with fail
    refine ((CF _ (HS.out.step HL0.out)).out).mono ?_
    rintro e w1 ⟨rfl, hb⟩
    have HB1 := Lib.hid (below_nxt HL0.out hb)
    clear hb p0 p1 p2
    go_wp2_with fail
    refine (awake14_any _ (HST.out.step HB1.out)).mono ?_
    rintro e wz ⟨rfl, hbz⟩
    have HBz := Lib.hid (below_nxt HB1.out hbz)
    clear hbz
    go_wp2
    go_ret
    exact ⟨rfl, HBz.out⟩
  · rw [hf] at CF
    clear hf
    have hlz : decide (800 < (t.size : Int)) = true := decide_eq_true (by omega)
    go_enter Tryd.func9, Tryd.ntmps9
    go_wp2_with fail
    refine ((CF _ (HS.out.step HL0.out)).out).mono ?_
    rintro e w1 ⟨rfl, hb⟩
    have HB1 := Lib.hid (below_nxt HL0.out hb)
    clear hb p0 p1 p2
    go_wp2_with fail
    refine (awake14_any _ (HST.out.step HB1.out)).mono ?_
    rintro e wz ⟨rfl, hbz⟩
    have HBz := Lib.hid (below_nxt HB1.out hbz)
    clear hbz
    go_wp2
    go_ret
    exact ⟨rfl, HBz.out⟩
  rw [hf] at CF
  clear hf
  have hlz : decide (800 < (t.size : Int)) = false := decide_eq_false (by omega)
  obtain ⟨⟨m, M⟩, k, me, hpv⟩ : ∃ q k me, Sq.seqV t.data.toList = (q, k, me) := ⟨_, _, _, rfl⟩
  have D1 : ∀ W, StQ W → Hid (Calls Tryd.prog 42 #[.string t] W fun e w' => ∃ ao cap, e = .returned (.tuple #[.agg #[.int .i64 m, .slice ao M.length cap], .int .i64 k, .int .i64 me]) ∧ SeeT w' (.slice ao M.length cap) M ∧ Below W.heap.size W w') := fun W h => Lib.hid (by have g := qPar_any t W h; rw [hpv] at g; exact g)
  by_cases hq : (Sq.txtV n L).2 = 0
  · have hc := Sq.txt_ok hq
    have hfv := Sq.txt_fmt hc
    have C1 : ∀ W, StQ W → SeeT W (.slice ao L.length cap) L → Hid (Calls Tryd.prog 41 #[.agg #[.int .i64 n, .slice ao L.length cap]] W fun e w' => e = .returned (.tuple #[.string ⟨(Sk.fmtT L).toArray⟩, .int .i64 0]) ∧ Below W.heap.size W w') := fun W h g => Lib.hid (by have q := qTxt_any n _ L W h.st g; rw [hfv] at q; exact q)
    have C2 : ∀ W, StQ W → Hid (Calls Tryd.prog 42 #[.string ⟨(Sk.fmtT L).toArray⟩] W fun e w' => ∃ ao cap, e = .returned (.tuple #[.agg #[.int .i64 n, .slice ao L.length cap], .int .i64 0, .int .i64 0]) ∧ SeeT w' (.slice ao L.length cap) L ∧ Below W.heap.size W w') := fun W h => Lib.hid (by
      have g := qPar_any ⟨(Sk.fmtT L).toArray⟩ W h
      rw [show (⟨(Sk.fmtT L).toArray⟩ : ByteArray).data.toList = Sk.fmtT L by simp, Sq.seq_back hc] at g
      exact g)
    have C3 : ∀ W v2, SeeT W (.slice ao L.length cap) L → SeeT W v2 L → Hid (Calls Tryd.prog 25 #[.agg #[.int .i64 n, .slice ao L.length cap], .agg #[.int .i64 n, v2]] W fun e w' => e = .returned (.bool true) ∧ Below W.heap.size W w') := fun W v2 h g => Lib.hid (by have q := rSame14_any n n _ v2 L L W h g; rw [decide_eq_true ⟨rfl, rfl⟩] at q; exact q)
    clear hc hfv hq
    generalize (⟨(Sk.fmtT L).toArray⟩ : ByteArray) = F at *
    by_cases he : me = 0
    · subst he
      have hfm : Sq.txtV m M = (t.data.toList, 0) := Sq.seq_txt hpv
      have D2 : ∀ W v, SeeT W v M → StQ W → Hid (Calls Tryd.prog 41 #[.agg #[.int .i64 m, v]] W fun e w' => e = .returned (.tuple #[.string t, .int .i64 0]) ∧ Below W.heap.size W w') := fun W v g h => Lib.hid (by have q := qTxt_any m v M W h.st g; rw [hfm] at q; exact q)
      clear hfm hpv
      go_enter Tryd.func9, Tryd.ntmps9
      go_wp2_with fail
      refine ((CF _ (HS.out.step HL0.out)).out).mono ?_
      rintro e w1 ⟨rfl, hb⟩
      have HB1 := Lib.hid (below_nxt HL0.out hb)
      have HP1 := Lib.hid (HP0.out.step hb)
      clear hb p0 p1 p2
      obtain ⟨p0, p1, p2⟩ := HP1.out
      go_wp2_with fail
      refine ((C1 _ (HST.out.step HB1.out) (HS.out.step HB1.out)).out).mono ?_
      rintro e w2 ⟨rfl, hb⟩
      have HB2 := Lib.hid (below_nxt HB1.out hb)
      have HP2 := Lib.hid (HP1.out.step hb)
      clear hb p0 p1 p2
      obtain ⟨p0, p1, p2⟩ := HP2.out
      go_wp2_with fail
      refine ((C2 _ (HST.out.step HB2.out)).out).mono ?_
      rintro e w3 ⟨lo, lcap, rfl, hl, hb⟩
      obtain ⟨hx, hxb, -⟩ := boxP_new w3 (.int .i64 n) (.slice lo L.length lcap) 32
      have hb' := below_nxt hb hxb
      have HB3 := Lib.hid (below_nxt HB2.out hb')
      have HP3 := Lib.hid (HP2.out.step hb')
      have HX3 := Lib.hid hx
      have HL3 := Lib.hid (hl.step hxb)
      clear hl hb hb' hx hxb p0 p1 p2
      obtain ⟨p0, p1, p2⟩ := HP3.out
      obtain ⟨x0, x1, x2⟩ := HX3.out
      go_wp2_with fail
      refine ((C3 _ _ (HS.out.step HB3.out) HL3.out).out).mono ?_
      rintro e w4 ⟨rfl, hb⟩
      have HB4 := Lib.hid (below_nxt HB3.out hb)
      clear hb p0 p1 p2 x0 x1 x2
      go_wp2_with fail
      refine ((D1 _ (HST.out.step HB4.out)).out).mono ?_
      rintro e w5 ⟨mo, mcap, rfl, hm, hb⟩
      obtain ⟨hx, hxb, -⟩ := boxP_new w5 (.int .i64 m) (.slice mo M.length mcap) 32
      have HB5 := Lib.hid (below_nxt HB4.out (below_nxt hb hxb))
      have HX5 := Lib.hid hx
      have HM5 := Lib.hid (hm.step hxb)
      clear hm hb hx hxb
      obtain ⟨x0, x1, x2⟩ := HX5.out
      go_wp2_with fail
      refine ((D2 _ _ HM5.out (HST.out.step HB5.out)).out).mono ?_
      rintro e w6 ⟨rfl, hb⟩
      have HB6 := Lib.hid (below_nxt HB5.out hb)
      clear hb x0 x1 x2
      go_wp2_with fail
      refine (awake14_any _ (HST.out.step HB6.out)).mono ?_
      rintro e wz ⟨rfl, hbz⟩
      have HBz := Lib.hid (below_nxt HB6.out hbz)
      clear hbz
      go_wp2
      go_ret
      exact ⟨rfl, HBz.out⟩
    · have hme : (me == 0) = false := by rw [beq_eq_false_iff_ne]; exact he
      clear hpv he
      go_enter Tryd.func9, Tryd.ntmps9
      go_wp2_with fail
      refine ((CF _ (HS.out.step HL0.out)).out).mono ?_
      rintro e w1 ⟨rfl, hb⟩
      have HB1 := Lib.hid (below_nxt HL0.out hb)
      have HP1 := Lib.hid (HP0.out.step hb)
      clear hb p0 p1 p2
      obtain ⟨p0, p1, p2⟩ := HP1.out
      go_wp2_with fail
      refine ((C1 _ (HST.out.step HB1.out) (HS.out.step HB1.out)).out).mono ?_
      rintro e w2 ⟨rfl, hb⟩
      have HB2 := Lib.hid (below_nxt HB1.out hb)
      have HP2 := Lib.hid (HP1.out.step hb)
      clear hb p0 p1 p2
      obtain ⟨p0, p1, p2⟩ := HP2.out
      go_wp2_with fail
      refine ((C2 _ (HST.out.step HB2.out)).out).mono ?_
      rintro e w3 ⟨lo, lcap, rfl, hl, hb⟩
      obtain ⟨hx, hxb, -⟩ := boxP_new w3 (.int .i64 n) (.slice lo L.length lcap) 32
      have hb' := below_nxt hb hxb
      have HB3 := Lib.hid (below_nxt HB2.out hb')
      have HP3 := Lib.hid (HP2.out.step hb')
      have HX3 := Lib.hid hx
      have HL3 := Lib.hid (hl.step hxb)
      clear hl hb hb' hx hxb p0 p1 p2
      obtain ⟨p0, p1, p2⟩ := HP3.out
      obtain ⟨x0, x1, x2⟩ := HX3.out
      go_wp2_with fail
      refine ((C3 _ _ (HS.out.step HB3.out) HL3.out).out).mono ?_
      rintro e w4 ⟨rfl, hb⟩
      have HB4 := Lib.hid (below_nxt HB3.out hb)
      clear hb p0 p1 p2 x0 x1 x2
      go_wp2_with fail
      refine ((D1 _ (HST.out.step HB4.out)).out).mono ?_
      rintro e w5 ⟨mo, mcap, rfl, hm, hb⟩
      obtain ⟨hx, hxb, -⟩ := boxP_new w5 (.int .i64 m) (.slice mo M.length mcap) 32
      have HB5 := Lib.hid (below_nxt HB4.out (below_nxt hb hxb))
      have HX5 := Lib.hid hx
      have HM5 := Lib.hid (hm.step hxb)
      clear hm hb hx hxb
      obtain ⟨x0, x1, x2⟩ := HX5.out
      go_wp2_with fail
      refine (awake14_any _ (HST.out.step HB5.out)).mono ?_
      rintro e wz ⟨rfl, hbz⟩
      have HBz := Lib.hid (below_nxt HB5.out hbz)
      clear hbz
      go_wp2
      go_ret
      exact ⟨rfl, HBz.out⟩
  · have C1 : ∀ W, StQ W → SeeT W (.slice ao L.length cap) L → Hid (Calls Tryd.prog 41 #[.agg #[.int .i64 n, .slice ao L.length cap]] W fun e w' => e = .returned (.tuple #[.string ⟨(Sq.txtV n L).1.toArray⟩, .int .i64 (Sq.txtV n L).2]) ∧ Below W.heap.size W w') := fun W h g => Lib.hid (qTxt_any n _ L W h.st g)
    generalize (Sq.txtV n L).2 = fq at *
    generalize (⟨(Sq.txtV n L).1.toArray⟩ : ByteArray) = F at *
    have hfq : (fq == 0) = false := by rw [beq_eq_false_iff_ne]; exact hq
    clear hq
    by_cases he : me = 0
    · subst he
      have hfm : Sq.txtV m M = (t.data.toList, 0) := Sq.seq_txt hpv
      have D2 : ∀ W v, SeeT W v M → StQ W → Hid (Calls Tryd.prog 41 #[.agg #[.int .i64 m, v]] W fun e w' => e = .returned (.tuple #[.string t, .int .i64 0]) ∧ Below W.heap.size W w') := fun W v g h => Lib.hid (by have q := qTxt_any m v M W h.st g; rw [hfm] at q; exact q)
      clear hfm hpv
      go_enter Tryd.func9, Tryd.ntmps9
      go_wp2_with fail
      refine ((CF _ (HS.out.step HL0.out)).out).mono ?_
      rintro e w1 ⟨rfl, hb⟩
      have HB1 := Lib.hid (below_nxt HL0.out hb)
      have HP1 := Lib.hid (HP0.out.step hb)
      clear hb p0 p1 p2
      obtain ⟨p0, p1, p2⟩ := HP1.out
      go_wp2_with fail
      refine ((C1 _ (HST.out.step HB1.out) (HS.out.step HB1.out)).out).mono ?_
      rintro e w2 ⟨rfl, hb⟩
      have HB2 := Lib.hid (below_nxt HB1.out hb)
      have HP2 := Lib.hid (HP1.out.step hb)
      clear hb p0 p1 p2
      obtain ⟨p0, p1, p2⟩ := HP2.out
      go_wp2_with fail
      refine ((D1 _ (HST.out.step HB2.out)).out).mono ?_
      rintro e w5 ⟨mo, mcap, rfl, hm, hb⟩
      obtain ⟨hx, hxb, -⟩ := boxP_new w5 (.int .i64 m) (.slice mo M.length mcap) 32
      have HB5 := Lib.hid (below_nxt HB2.out (below_nxt hb hxb))
      have HX5 := Lib.hid hx
      have HM5 := Lib.hid (hm.step hxb)
      clear hm hb hx hxb
      obtain ⟨x0, x1, x2⟩ := HX5.out
      go_wp2_with fail
      refine ((D2 _ _ HM5.out (HST.out.step HB5.out)).out).mono ?_
      rintro e w6 ⟨rfl, hb⟩
      have HB6 := Lib.hid (below_nxt HB5.out hb)
      clear hb x0 x1 x2
      go_wp2_with fail
      refine (awake14_any _ (HST.out.step HB6.out)).mono ?_
      rintro e wz ⟨rfl, hbz⟩
      have HBz := Lib.hid (below_nxt HB6.out hbz)
      clear hbz
      go_wp2
      go_ret
      exact ⟨rfl, HBz.out⟩
    · have hme : (me == 0) = false := by rw [beq_eq_false_iff_ne]; exact he
      clear hpv he
      go_enter Tryd.func9, Tryd.ntmps9
      go_wp2_with fail
      refine ((CF _ (HS.out.step HL0.out)).out).mono ?_
      rintro e w1 ⟨rfl, hb⟩
      have HB1 := Lib.hid (below_nxt HL0.out hb)
      have HP1 := Lib.hid (HP0.out.step hb)
      clear hb p0 p1 p2
      obtain ⟨p0, p1, p2⟩ := HP1.out
      go_wp2_with fail
      refine ((C1 _ (HST.out.step HB1.out) (HS.out.step HB1.out)).out).mono ?_
      rintro e w2 ⟨rfl, hb⟩
      have HB2 := Lib.hid (below_nxt HB1.out hb)
      have HP2 := Lib.hid (HP1.out.step hb)
      clear hb p0 p1 p2
      obtain ⟨p0, p1, p2⟩ := HP2.out
      go_wp2_with fail
      refine ((D1 _ (HST.out.step HB2.out)).out).mono ?_
      rintro e w5 ⟨mo, mcap, rfl, hm, hb⟩
      obtain ⟨hx, hxb, -⟩ := boxP_new w5 (.int .i64 m) (.slice mo M.length mcap) 32
      have HB5 := Lib.hid (below_nxt HB2.out (below_nxt hb hxb))
      have HX5 := Lib.hid hx
      have HM5 := Lib.hid (hm.step hxb)
      clear hm hb hx hxb
      obtain ⟨x0, x1, x2⟩ := HX5.out
      go_wp2_with fail
      refine (awake14_any _ (HST.out.step HB5.out)).mono ?_
      rintro e wz ⟨rfl, hbz⟩
      have HBz := Lib.hid (below_nxt HB5.out hbz)
      clear hbz
      go_wp2
      go_ret
      exact ⟨rfl, HBz.out⟩
end Go.Proofs.YtjpbccpleflkhaaDoor
