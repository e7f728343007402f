/- Parse of the reference of layer 14; the call of the statement SequenceTexts. -/
import Derived.Test.YtjpbccpleflkhaaGreatDoorWZ
import Derived.Test.YtjpbccpleflkhaaGreatDoorG17
namespace Go.Proofs.YtjpbccpleflkhaaGreatDoor
open Go.RowKit Go.Shelf
attribute [local go_sem] Oper.semAt_some
set_option maxHeartbeats 8000000 in
set_option maxRecDepth 100000 in
theorem rPar_own (s : ByteArray) (w : World) (hz : s.size ≤ 8192) : Calls Tryz.prog 23 #[.string s] w (ParO (Sk.parV s.data.toList) w) := by
  have hlz : s.data.toList.length = s.size := Array.length_toList
  by_cases hbig : 4096 < s.size
  · have hv : Sk.parV s.data.toList = ([], 0, 17) := if_pos (by omega)
    rw [hv]
    have hb' : decide (4096 < (s.size : Int)) = true := decide_eq_true (by omega)
    clear hv
    go_enter Tryz.func23, Tryz.ntmps23
    go_wp2
    exact bodyPost_ret (v := .tuple #[.slice none 0 0, .int .i64 0, .int .i64 17]) (by simp [results, Tryz.f23, go_sem]) rfl ⟨none, 0, rfl, RowT.nil _ _ _, Below.refl _ _⟩
  have hb' : decide (4096 < (s.size : Int)) = false := decide_eq_false (by omega)
  by_cases hem : s.size = 0
  · have hv : Sk.parV s.data.toList = ([], 0, 0) := by unfold Sk.parV; rw [if_neg (by omega), if_pos (by omega)]
    rw [hv]
    have hs0 : s = ⟨#[]⟩ := by
      have h := List.eq_nil_of_length_eq_zero (l := s.data.toList) (by omega)
      have h2 : s.data = #[] := by simpa using h
      exact (show s = ⟨s.data⟩ from rfl).trans (by rw [h2])
    subst hs0
    clear hv
    go_enter Tryz.func23, Tryz.ntmps23
    go_wp2
    exact bodyPost_ret (v := .tuple #[.slice none 0 0, .int .i64 0, .int .i64 0]) (by simp [results, Tryz.f23, go_sem]) rfl ⟨none, 0, rfl, RowT.nil _ _ _, Below.refl _ _⟩
  have hv : Sk.parV s.data.toList = Sk.ro (Sk.prts s.data.toList [59, 32]) [] := by unfold Sk.parV; rw [if_neg (by omega), if_neg (by omega)]
  have hne : ([] == s.toList) = false := by
    rw [ByteArray.toList_eq]
    have : s.data.toList ≠ [] := fun h => hem (by rw [← hlz, h]; rfl)
    simpa using fun h => this (by simp [h])
  have hne' : (s.toList == []) = false := by
    rw [ByteArray.toList_eq]
    have : s.data.toList ≠ [] := fun h => hem (by rw [← hlz, h]; rfl)
    simpa using fun h => this (by simp [h])
  obtain ⟨i0, hi0, hzi0, hzi1, hzi2⟩ := info_stp
  have hpl := Sk.prt_len s.data.toList [59, 32] (by decide) (s.data.toList.length + 1) 0 (Nat.zero_le _)
  have hpp := Sk.prt_pos s.data.toList [59, 32] s.data.toList.length 0
  have hps := Sk.prt_sum s.data.toList [59, 32] (by decide) (s.data.toList.length + 1) 0 (Nat.zero_le _)
  have hpo := Sk.offs_prt s.data.toList [59, 32] (s.data.toList.length + 1) 0
  change (Sk.prts s.data.toList [59, 32]).length ≤ _ at hpl
  change 0 < (Sk.prts s.data.toList [59, 32]).length at hpp
  change ∀ p ∈ Sk.prts s.data.toList [59, 32], _ at hps
  change Sk.offs 2 (Sk.prts s.data.toList [59, 32]) 0 at hpo
  have HSV := Lib.hid hv
  clear hv
  go_enter Tryz.func23, Tryz.ntmps23
  go_wp2_with fail
  refine (rCut_any s ⟨#[59, 32]⟩ _ hz (by decide) (by decide)).mono ?_
  rintro e w1 ⟨v, F, rfl, hr, hf, hb⟩
  change F.map (·.data.toList) = (Sk.prts s.data.toList [59, 32]).map (·.2) at hf
  have HB1 := Lib.hid hb
  have hFl : F.length = (Sk.prts s.data.toList [59, 32]).length := by have := congrArg List.length hf; simpa using this
  obtain ⟨g, cap, rfl, hg1, hg2, hc1, hc2⟩ := hr.form (by omega)
  have HF : Hid (∀ i, i < F.length → ∃ p r, (Sk.prts s.data.toList [59, 32]).drop i = p :: r ∧ r = (Sk.prts s.data.toList [59, 32]).drop (i + 1) ∧ p.2 = (F.getD i ⟨#[]⟩).data.toList ∧ (F.getD i ⟨#[]⟩).size ≤ 8192) := Lib.hid (fun i hi => by
    have hi2 : i < (Sk.prts s.data.toList [59, 32]).length := by omega
    refine ⟨(Sk.prts s.data.toList [59, 32])[i], _, List.drop_eq_getElem_cons hi2, rfl, ?_⟩
    have h1 : ((Sk.prts s.data.toList [59, 32])[i]).2 = (F.getD i ⟨#[]⟩).data.toList := by
      have := congrArg (fun l : List (List UInt8) => l[i]?) hf
      simp only [List.getElem?_map, List.getElem?_eq_getElem hi, List.getElem?_eq_getElem hi2, Option.map_some, Option.some.injEq] at this
      rw [List.getD_eq_getElem?_getD, List.getElem?_eq_getElem hi]; exact this.symm
    refine ⟨h1, ?_⟩
    have h2 := hps _ (List.getElem_mem hi2)
    rw [h1, hlz] at h2
    have h3 : (F.getD i ⟨#[]⟩).data.toList.length = (F.getD i ⟨#[]⟩).size := Array.length_toList
    omega)
  have HFl : Hid (F.length = (Sk.prts s.data.toList [59, 32]).length) := Lib.hid hFl
  have HPO := Lib.hid hpo
  have HRow := Lib.hid (show CellsF w1 g F from ⟨hg2, fun i hi => hr.at hi⟩)
  obtain ⟨B, hB⟩ : ∃ B, w1.heap.size = B := ⟨_, rfl⟩
  have hz1 : g < B := by omega
  have hz3 : w.heap.size ≤ B := by have := hb.size; omega
  have HZB : Hid (B ≤ w1.heap.size) := Lib.hid (by omega)
  have hF0 : 0 < F.length := by omega
  have hF1 : F.length ≤ 8193 := by omega
  generalize Sk.prts s.data.toList [59, 32] = P at *
  generalize Sk.parV s.data.toList = q at *
  clear hf hr hb hFl hpl hpp hps hlz hpo hg2 hB hne hne' hem hb' hbig
  go_wp2
  go_loopw [5, 7, 8] (fun s5 s7 s8 wr => ∃ (i a : Nat) (L : List Sk.Stp), s7 = .int .i64 (a : Int) ∧ s8 = .int .i64 (i : Int) ∧ i ≤ F.length ∧ i ≤ 64 ∧ a ≤ i * 8194 ∧ Hid (L.length = i) ∧ Hid (Sk.ro P [] = Sk.ro (P.drop i) L ∧ Sk.offs 2 (P.drop i) a) ∧
    Hid (RowT B 40 wr s5 L) ∧ Hid (CellsF wr g F) ∧ Hid (Below w.heap.size w wr) ∧ Hid (B ≤ wr.heap.size)) (fun _ _ s8 _ => F.length - (intOf s8).toNat)
  case atStart => exact ⟨0, 0, [], rfl, rfl, Nat.zero_le _, Nat.zero_le _, Nat.zero_le _, Lib.hid rfl, Lib.hid ⟨rfl, HPO.out⟩, Lib.hid (RowT.nil _ _ _), HRow, HB1, HZB⟩
  case round =>
    clear HRow HB1 HZB
    obtain ⟨i, a, L, rfl, rfl, hi, hi64, ha, HLi, HJ, HT, HRow, HB, hz2⟩ := hrel
    have hFz : (F.length : Int) ≤ 8193 := by omega
    by_cases hil : i < F.length
    · have hilz : (i : Int) < (F.length : Int) := by omega
      obtain ⟨p, r, hd, hr, hp, hpz⟩ := HF.out i hil
      obtain ⟨hj1, hj2⟩ := HJ.out
      rw [hd] at hj1 hj2
      obtain ⟨ho1, ho2⟩ := hj2
      have HRd := Lib.hid hr
      by_cases h64 : i = 64
      · have HQ : Hid (q = ([], (a : Int), 5)) := Lib.hid (by rw [HSV.out, hj1, Sk.ro_many (by rw [HLi.out]; exact h64), ho1])
        have h64' : ((i : Int) == 64) = true := by rw [h64]; rfl
        clear hd hr hp hpz hj1 ho1 ho2 HF HFl HSV HJ h64
        go_wp2
        exact bodyPost_ret (v := .tuple #[.slice none 0 0, .int .i64 (a : Int), .int .i64 5]) (by simp [results, Tryz.f23, go_sem]) rfl ⟨none, 0, by rw [HQ.out]; rfl, by rw [HQ.out]; exact RowT.nil _ _ _, HB.out⟩
      have hi63 : i < 64 := by omega
      have h64' : ((i : Int) == 64) = false := by rw [beq_eq_false_iff_ne]; omega
      have c1 := HRow.out.2 i hil
      have CS := fun W => Lib.hid (rSt_any (F.getD i ⟨#[]⟩) W hpz)
      rw [← hp] at CS
      rw [Sk.ro_st (by rw [HLi.out]; exact h64)] at hj1
      have hplz : p.2.length = (F.getD i ⟨#[]⟩).size := by rw [hp]; exact Array.length_toList
      generalize hS : F.getD i ⟨#[]⟩ = S at *
      have HS := Lib.hid hS
      generalize hst : Sk.stV p.2 = st at *
      obtain ⟨⟨l, n⟩, er⟩ := st
      obtain ⟨vo, vc, hvo⟩ := HT.out.form
      subst hvo
      have hlt := HT.out.lt
      have HLT := Lib.hid hlt
      simp only at hj1
      by_cases her : er = 0
      · subst her
        rw [if_pos rfl] at hj1
        have HJn : Hid (Sk.ro P [] = Sk.ro r (L ++ [(l, n)]) ∧ Sk.offs 2 r (a + (S.size + 2))) := Lib.hid ⟨hj1, by rw [← hplz]; exact ho2⟩
        clear hd hr hp hj1 ho1 ho2 HF HFl HSV HJ hS hst hplz h64 hlt
        go_wp2_with fail
        refine ((CS _).out).mono ?_
        rintro e w2 ⟨u, rfl, hs2, hf2, hb2⟩
        obtain ⟨ua, uc, hu, -⟩ := id hs2
        have L3 := allocB w2 (.cells #[u, .int .i64 n] 40)
        have hb3 := below_nxt hb2 L3
        have HB3 := Lib.hid (below_nxt HB.out hb3)
        have HT3 := Lib.hid (HT.out.step hb3)
        have HF3 := Lib.hid (HRow.out.step hb3)
        have HS3 := Lib.hid (hs2.step L3)
        have HZ3 := Lib.hid (Nat.le_trans hz2.out hb3.size)
        have HFr := Lib.hid (fun r e => show B ≤ r ∧ r < w2.heap.size ∧ (Value.slice vo L.length vc).ownBlock ≠ some r from ⟨Nat.le_trans hz2.out (hf2 r e).1, (hf2 r e).2, fun e' => by have := (HLT.out r e').2; have := (hf2 r e).1; omega⟩)
        have HRO := Lib.hid (fun r e => (HLT.out r e).1)
        have hz64 : L.length ≤ 64 := by have := HLi.out; omega
        clear hs2 hf2 hb2 hb3 L3 HT HRow HB hz2 c1 CS HLT
        subst hu
        have c2 := HF3.out.2 i hil
        rw [HS.out] at c2
        have HZL := Lib.hid hz64
        clear hz64
        go_wp2_with (at_builtin; refine wpList_append_stp rfl _ _ 22 rfl 40 i0 Tryz.underlying22 hi0 hzi0 hzi1 hzi2 _ L l n (.slice ua l.length uc) (w2.heap.size + 1) rfl rfl B (HT3.out.step (allocB _ _)) (by simp) (by simp) (HS3.out.step (allocB _ _)) (fun r e => ⟨(HFr.out r e).1, by have := (HFr.out r e).2.1; simp; omega, (HFr.out r e).2.2⟩) (by have := HZL.out; omega) (Nat.le_trans HZ3.out (by simp)) ?_; intro a5 p5 w5 hr5 hg5 hb5; have HR5 := Lib.hid hr5; have HF5 := Lib.hid ((HF3.out.step (allocB _ (.cells #[.slice ua l.length uc, .int .i64 n] 40))).grown hg5 (fun r e => by have := HRO.out r e; omega)); have HB5 := Lib.hid ((HB3.out.alloc HB3.out.size (.cells #[.slice ua l.length uc, .int .i64 n] 40)).grown hg5 (Nat.le_trans HB3.out.size (by simp)) (fun r e => by have := HRO.out r e; omega)); have HZ5 := Lib.hid (Nat.le_trans (Nat.le_trans HZ3.out (show _ ≤ _ from (allocB _ (.cells #[.slice ua l.length uc, .int .i64 n] 40)).size)) hg5.size); clear hr5 hg5 hb5; have c3 := HF5.out.2 i hil; rw [HS.out] at c3; have c4 := HF5.out.1)
        refine ⟨⟨i + 1, a + (S.size + 2), L ++ [(l, n)], by first | rfl | go_num, by first | rfl | go_num, by omega, by omega, by omega, Lib.hid (by simp [HLi.out]), Lib.hid ⟨by rw [HJn.out.1, HRd.out], by rw [← HRd.out]; exact HJn.out.2⟩, HR5, HF5, HB5, HZ5⟩, by simp [intOf]; omega⟩
      · have HQ : Hid (q = ([], (a : Int), er)) := Lib.hid (by rw [HSV.out, hj1, if_neg her, ho1])
        have her' : (er != 0) = true := by simpa using her
        clear hd hr hp hpz hj1 ho1 ho2 HF HFl HSV HJ hS hst hplz h64 hlt her
        go_wp2_with fail
        refine ((CS _).out).mono ?_
        rintro e w2 ⟨u, rfl, hs2, hf2, hb2⟩
        obtain ⟨ua, uc, hu, -⟩ := id hs2
        have HB2 := Lib.hid (below_nxt HB.out (below_nxt hb2 (allocB w2 (.cells #[u, .int .i64 n] 40))))
        clear hs2 hf2 hb2
        subst hu
        go_wp2
        exact bodyPost_ret (v := .tuple #[.slice none 0 0, .int .i64 (a : Int), .int .i64 er]) (by simp [results, Tryz.f23, go_sem]) rfl ⟨none, 0, by rw [HQ.out]; rfl, by rw [HQ.out]; exact RowT.nil _ _ _, HB2.out⟩
    · have hil2 : i = F.length := by omega
      have HQ : Hid (q = (L, 0, 0)) := Lib.hid (by
        rw [HSV.out, HJ.out.1, List.drop_eq_nil_of_le (by rw [← HFl.out]; omega)]; rfl)
      have hilz : (i : Int) = (F.length : Int) := by omega
      obtain ⟨vo, vc, hvo⟩ := HT.out.form
      have HSe := Lib.hid (HT.out.weak (B' := w.heap.size) hz3)
      clear HF HJ HFl HSV HRow hz2 HT
      subst hvo
      go_wp2
      exact bodyPost_ret (v := .tuple #[.slice vo L.length vc, .int .i64 0, .int .i64 0]) (by simp [results, Tryz.f23, go_sem]) rfl ⟨vo, vc, by rw [HQ.out], by rw [HQ.out]; exact HSe.out, HB.out⟩
set_option maxHeartbeats 8000000 in
set_option maxRecDepth 100000 in
theorem rPar14_any (s : ByteArray) (w : World) (hz : s.size ≤ 8192) : Calls Tryz.prog 9 #[.string s] w (SeqP (Sq.seqV s.data.toList) w) := by
  have HR0 := Lib.hid (resP_new w (.int .i64 0) (.slice none 0 0) 24)
  have HB0 := Lib.hid (allocB w (.cells #[.int .i64 0, .slice none 0 0] 24))
  obtain ⟨L, k, m, hp⟩ : ∃ L k m, Sk.parV s.data.toList = (L, k, m) := ⟨_, _, _, rfl⟩
  have C1 : ∀ W, Hid (Calls Tryz.prog 23 #[.string s] W fun e w' => ∃ ao cap, e = .returned (.tuple #[.slice ao L.length cap, .int .i64 k, .int .i64 m]) ∧ RowT W.heap.size 40 w' (.slice ao L.length cap) L ∧ Below W.heap.size W w') := fun W => Lib.hid (by have g := rPar_own s W hz; rw [hp] at g; exact g)
  have hv : Sq.seqV s.data.toList = if m ≠ 0 then ((0, []), k, m) else (if L.length = 0 then ((0, []), 0, 13) else (if Sq.chk (Sq.gre L 0 + 1) L = 0 then ((Sq.gre L 0 + 1, L), 0, 0) else ((0, []), 0, Sq.chk (Sq.gre L 0 + 1) L))) := by
    unfold Sq.seqV; rw [hp]
  rw [hv]
  clear hv
  obtain ⟨r0, r1, r2, r3, r4⟩ := HR0.out
  by_cases hm : m = 0
  · subst hm
    rw [if_neg (by simp)]
    have hck := Sq.par_chk hp
    clear hp
    by_cases hl : L.length = 0
    · rw [if_pos hl]
      have hlz : ((L.length : Int) == 0) = true := by rw [hl]; rfl
      go_enter Tryz.func9, Tryz.ntmps9
      go_wp2_with fail
      refine ((C1 _).out).mono ?_
      rintro e w1 ⟨ao, cap, rfl, hr1, hb1⟩
      have HB1 := Lib.hid (below_nxt HB0.out hb1)
      have HR1 := Lib.hid (HR0.out.step hb1)
      clear hb1 hr1 r0 r1 r2 r3 r4
      obtain ⟨r0, r1, r2, r3, r4⟩ := HR1.out
      go_wp2
      obtain ⟨-, f1, f2, -, -⟩ := HR1.out.put (.int .i64 0) (.slice none 0 0)
      exact bodyPost_ret (v := .tuple #[.agg #[.int .i64 0, .slice none 0 0], .int .i64 0, .int .i64 13]) (by simp [results, Tryz.f9, go_sem, f1, f2]) rfl ⟨none, 0, rfl, SeeT.nil _, (HB1.out.setCell (p := ⟨w.heap.size, 0, none⟩) (by simp) _).setCell (p := ⟨w.heap.size, 1, none⟩) (by simp) _⟩
    · rw [if_neg hl]
      have hlz : ((L.length : Int) == 0) = false := by rw [beq_eq_false_iff_ne]; omega
      have CG := fun v W (h : SeeT W v L) => Lib.hid (rOf_any v L W h (by omega) hck)
      have CC := fun v W (h : SeeT W v L) => Lib.hid (rChk_any (Sq.gre L 0 + 1) v L W h)
      clear hl hck
      generalize Sq.gre L 0 + 1 = G at *
      generalize Sq.chk G L = c at *
      by_cases hc : c = 0
      · rw [if_pos hc]
        subst hc
        go_enter Tryz.func9, Tryz.ntmps9
        go_wp2_with fail
        refine ((C1 _).out).mono ?_
        rintro e w1 ⟨ao, cap, rfl, hr1, hb1⟩
        have HB1 := Lib.hid (below_nxt HB0.out hb1)
        have HR1 := Lib.hid (HR0.out.step hb1)
        have HT1 := Lib.hid (hr1.weak (show w.heap.size + 1 ≤ (w.alloc (.cells #[.int .i64 0, .slice none 0 0] 24)).heap.size by simp))
        clear hb1 hr1 r0 r1 r2 r3 r4
        obtain ⟨r0, r1, r2, r3, r4⟩ := HR1.out
        go_wp2_with fail
        refine ((CG _ _ HT1.out.sees).out).mono ?_
        rintro e w2 ⟨rfl, hb2⟩
        have HB2 := Lib.hid (below_nxt HB1.out hb2)
        have HR2 := Lib.hid (HR1.out.step hb2)
        have HT2 := Lib.hid (HT1.out.step hb2)
        clear hb2 r0 r1 r2 r3 r4
        go_wp2_with fail
        refine ((CC _ _ HT2.out.sees).out).mono ?_
        rintro e w3 ⟨rfl, hb3⟩
        have HB3 := Lib.hid (below_nxt HB2.out hb3)
        have HR3 := Lib.hid (HR2.out.step hb3)
        have HT3 := Lib.hid (HT2.out.step hb3)
        clear hb3
        obtain ⟨r0, r1, r2, r3, r4⟩ := HR3.out
        go_wp2_with fail
        refine ((CG _ _ HT3.out.sees).out).mono ?_
        rintro e w4 ⟨rfl, hb4⟩
        have HB4 := Lib.hid (below_nxt HB3.out hb4)
        have HR4 := Lib.hid (HR3.out.step hb4)
        have HT4 := Lib.hid (HT3.out.step hb4)
        clear hb4 r0 r1 r2 r3 r4
        obtain ⟨r0, r1, r2, r3, r4⟩ := HR4.out
        go_wp2
        obtain ⟨-, f1, f2, -, -⟩ := HR4.out.put (.int .i64 G) (.slice ao L.length cap)
        exact bodyPost_ret (v := .tuple #[.agg #[.int .i64 G, .slice ao L.length cap], .int .i64 0, .int .i64 0]) (by simp [results, Tryz.f9, go_sem, f1, f2]) rfl ⟨ao, cap, rfl, ((HT4.out.set (a := ⟨w.heap.size, 0, none⟩) (by show w.heap.size < _; omega) _).set (a := ⟨w.heap.size, 1, none⟩) (by show w.heap.size < _; omega) _).sees, (HB4.out.setCell (p := ⟨w.heap.size, 0, none⟩) (by simp) _).setCell (p := ⟨w.heap.size, 1, none⟩) (by simp) _⟩
      · rw [if_neg hc]
        have hcz : (c != 0) = true := by simpa using hc
        clear hc
        go_enter Tryz.func9, Tryz.ntmps9
        go_wp2_with fail
        refine ((C1 _).out).mono ?_
        rintro e w1 ⟨ao, cap, rfl, hr1, hb1⟩
        have HB1 := Lib.hid (below_nxt HB0.out hb1)
        have HR1 := Lib.hid (HR0.out.step hb1)
        have HT1 := Lib.hid (hr1.weak (show w.heap.size + 1 ≤ (w.alloc (.cells #[.int .i64 0, .slice none 0 0] 24)).heap.size by simp))
        clear hb1 hr1 r0 r1 r2 r3 r4
        obtain ⟨r0, r1, r2, r3, r4⟩ := HR1.out
        go_wp2_with fail
        refine ((CG _ _ HT1.out.sees).out).mono ?_
        rintro e w2 ⟨rfl, hb2⟩
        have HB2 := Lib.hid (below_nxt HB1.out hb2)
        have HR2 := Lib.hid (HR1.out.step hb2)
        have HT2 := Lib.hid (HT1.out.step hb2)
        clear hb2 r0 r1 r2 r3 r4
        go_wp2_with fail
        refine ((CC _ _ HT2.out.sees).out).mono ?_
        rintro e w3 ⟨rfl, hb3⟩
        have HB3 := Lib.hid (below_nxt HB2.out hb3)
        have HR3 := Lib.hid (HR2.out.step hb3)
        have HT3 := Lib.hid (HT2.out.step hb3)
        clear hb3
        obtain ⟨r0, r1, r2, r3, r4⟩ := HR3.out
        go_wp2
        obtain ⟨-, f1, f2, -, -⟩ := HR3.out.put (.int .i64 0) (.slice none 0 0)
        exact bodyPost_ret (v := .tuple #[.agg #[.int .i64 0, .slice none 0 0], .int .i64 0, .int .i64 c]) (by simp [results, Tryz.f9, go_sem, f1, f2]) rfl ⟨none, 0, rfl, SeeT.nil _, (HB3.out.setCell (p := ⟨w.heap.size, 0, none⟩) (by simp) _).setCell (p := ⟨w.heap.size, 1, none⟩) (by simp) _⟩
  · rw [if_pos hm]
    have hmz : (m != 0) = true := by simpa using hm
    clear hm hp
    go_enter Tryz.func9, Tryz.ntmps9
    go_wp2_with fail
    refine ((C1 _).out).mono ?_
    rintro e w1 ⟨ao, cap, rfl, hr1, hb1⟩
    have HB1 := Lib.hid (below_nxt HB0.out hb1)
    have HR1 := Lib.hid (HR0.out.step hb1)
    clear hb1 hr1 r0 r1 r2 r3 r4
    obtain ⟨r0, r1, r2, r3, r4⟩ := HR1.out
    go_wp2
    obtain ⟨-, f1, f2, -, -⟩ := HR1.out.put (.int .i64 0) (.slice none 0 0)
    exact bodyPost_ret (v := .tuple #[.agg #[.int .i64 0, .slice none 0 0], .int .i64 k, .int .i64 m]) (by simp [results, Tryz.f9, go_sem, f1, f2]) rfl ⟨none, 0, rfl, SeeT.nil _, (HB1.out.setCell (p := ⟨w.heap.size, 0, none⟩) (by simp) _).setCell (p := ⟨w.heap.size, 1, none⟩) (by simp) _⟩
set_option maxHeartbeats 32000000 in
set_option maxRecDepth 100000 in
theorem texts14_any (n : Int) (v : Value) (L : List Sk.Stp) (t : ByteArray) (w : World) (hst : StQ w) (hs : SeeT w v L) (_ : t.size ≤ 9223372036854775807) : Calls Tryz.prog 3 #[.agg #[.int .i64 n, v], .string t] w fun e w' => e = .returned (.bool true) ∧ Below w.heap.size w w' := by
  have HST := Lib.hid hst
  have HS := Lib.hid hs
  obtain ⟨ao, cap, rfl, -⟩ := hs
  have CF := fun V (h : SeeT V (.slice ao L.length cap) L) => Lib.hid (rFew14_any n (.slice ao L.length cap) L V h)
  obtain ⟨P0, L0, z0⟩ := boxP_new w (.int .i64 n) (.slice ao L.length cap) 24
  have HL0 := Lib.hid L0
  have HP0 := Lib.hid P0
  obtain ⟨p0, p1, p2⟩ := P0
  clear L0 z0 hst
  have hway : Sq.fewV L = false ∨ (Sq.fewV L = true ∧ decide (800 < (t.size : Int)) = true ∧ decide ((t.size : Int) ≤ 4096) = true) ∨ (Sq.fewV L = true ∧ decide (800 < (t.size : Int)) = true ∧ decide ((t.size : Int) ≤ 4096) = false ∧ decide (8192 < (t.size : Int)) = true) ∨
      (Sq.fewV L = true ∧ t.size ≤ 8192 ∧ decide (8192 < (t.size : Int)) = false ∧ (decide (800 < (t.size : Int)) = false ∨ (decide (800 < (t.size : Int)) = true ∧ decide ((t.size : Int) ≤ 4096) = false))) := by
    cases Sq.fewV L
    · exact .inl rfl
    · by_cases h8 : t.size ≤ 800
      · exact .inr (.inr (.inr ⟨rfl, by omega, decide_eq_false (by omega), .inl (decide_eq_false (by omega))⟩))
      · by_cases h4 : t.size ≤ 4096
        · exact .inr (.inl ⟨rfl, decide_eq_true (by omega), decide_eq_true (by omega)⟩)
        · by_cases h2 : t.size ≤ 8192
          · exact .inr (.inr (.inr ⟨rfl, h2, decide_eq_false (by omega), .inr ⟨decide_eq_true (by omega), decide_eq_false (by omega)⟩⟩))
          · exact .inr (.inr (.inl ⟨rfl, decide_eq_true (by omega), decide_eq_false (by omega), decide_eq_true (by omega)⟩))
  rcases hway with hf | ⟨hf, h1, h2⟩ | ⟨hf, h1, h2, h3⟩ | ⟨hf, hz, h3, hor⟩
  · rw [hf] at CF
    clear hf
    go_enter Tryz.func3, Tryz.ntmps3
    go_wp2_with fail
    refine ((CF _ (HS.out.step HL0.out)).out).mono ?_
    rintro e w1 ⟨rfl, hb⟩
    have HB1 := Lib.hid (below_nxt HL0.out hb)
    have HP1 := Lib.hid (HP0.out.step hb)
    clear hb p0 p1 p2
    go_wp2_with fail
    refine (awake14_any _ (HST.out.step HB1.out)).mono ?_
    rintro e wz ⟨rfl, hbz⟩
    have HBz := Lib.hid (below_nxt HB1.out hbz)
    clear hbz
    go_wp2
    go_ret
    exact ⟨rfl, HBz.out⟩
  · rw [hf] at CF
    clear hf
    go_enter Tryz.func3, Tryz.ntmps3
    go_wp2_with fail
    refine ((CF _ (HS.out.step HL0.out)).out).mono ?_
    rintro e w1 ⟨rfl, hb⟩
    have HB1 := Lib.hid (below_nxt HL0.out hb)
    have HP1 := Lib.hid (HP0.out.step hb)
    clear hb p0 p1 p2
    go_wp2_with fail
    refine (awake14_any _ (HST.out.step HB1.out)).mono ?_
    rintro e wz ⟨rfl, hbz⟩
    have HBz := Lib.hid (below_nxt HB1.out hbz)
    clear hbz
    go_wp2
    go_ret
    exact ⟨rfl, HBz.out⟩
  · rw [hf] at CF
    clear hf
    go_enter Tryz.func3, Tryz.ntmps3
    go_wp2_with fail
    refine ((CF _ (HS.out.step HL0.out)).out).mono ?_
    rintro e w1 ⟨rfl, hb⟩
    have HB1 := Lib.hid (below_nxt HL0.out hb)
    have HP1 := Lib.hid (HP0.out.step hb)
    clear hb p0 p1 p2
    go_wp2_with fail
    refine (awake14_any _ (HST.out.step HB1.out)).mono ?_
    rintro e wz ⟨rfl, hbz⟩
    have HBz := Lib.hid (below_nxt HB1.out hbz)
    clear hbz
    go_wp2
    go_ret
    exact ⟨rfl, HBz.out⟩
  rw [hf] at CF
  clear hf
  obtain ⟨⟨m, M⟩, k, me, hpv⟩ : ∃ q k me, Sq.seqV t.data.toList = (q, k, me) := ⟨_, _, _, rfl⟩
  have D1 : ∀ W, StQ W → Hid (Calls Tryz.prog 8 #[.string t] W fun e w' => ∃ ao cap, e = .returned (.tuple #[.agg #[.int .i64 m, .slice ao M.length cap], .int .i64 k, .int .i64 me]) ∧ SeeT w' (.slice ao M.length cap) M ∧ Below W.heap.size W w') := fun W h => Lib.hid (by have g := qPar_any t W h; rw [hpv] at g; exact g)
  have D2 : ∀ W, Hid (Calls Tryz.prog 9 #[.string t] W fun e w' => ∃ ao cap, e = .returned (.tuple #[.agg #[.int .i64 m, .slice ao M.length cap], .int .i64 k, .int .i64 me]) ∧ SeeT w' (.slice ao M.length cap) M ∧ Below W.heap.size W w') := fun W => Lib.hid (by have g := rPar14_any t W hz; rw [hpv] at g; exact g)
  have C1 : ∀ W, StQ W → SeeT W (.slice ao L.length cap) L → Hid (Calls Tryz.prog 6 #[.agg #[.int .i64 n, .slice ao L.length cap]] W fun e w' => e = .returned (.tuple #[.string ⟨(Sq.txtV n L).1.toArray⟩, .int .i64 (Sq.txtV n L).2]) ∧ Below W.heap.size W w') := fun W h g => Lib.hid (qTxt_any n _ L W h.st g)
  have C2 : ∀ W, SeeT W (.slice ao L.length cap) L → Hid (Calls Tryz.prog 7 #[.agg #[.int .i64 n, .slice ao L.length cap]] W fun e w' => e = .returned (.tuple #[.string ⟨(Sq.txtV n L).1.toArray⟩, .int .i64 (Sq.txtV n L).2]) ∧ Below W.heap.size W w') := fun W g => Lib.hid (rTxt14_any n _ L W g)
  have C3 : ∀ W v v2, SeeT W v M → SeeT W v2 M → Hid (Calls Tryz.prog 10 #[.agg #[.int .i64 m, v], .agg #[.int .i64 m, v2]] W fun e w' => e = .returned (.bool true) ∧ Below W.heap.size W w') := fun W v v2 h g => Lib.hid (by have q := rSame14_any m m v v2 M M W h g; rw [decide_eq_true ⟨rfl, rfl⟩] at q; exact q)
  generalize (Sq.txtV n L).2 = fq at *
  generalize (⟨(Sq.txtV n L).1.toArray⟩ : ByteArray) = F at *
  have hqq : (fq == fq) = true := by simp
  have hkk : (k == k) = true := by simp
  have hmm : (me == me) = true := by simp
  clear hpv hz
  rcases hor with h1 | ⟨h1, h2⟩
  all_goals
    go_enter Tryz.func3, Tryz.ntmps3
    go_wp2_with fail
    refine ((CF _ (HS.out.step HL0.out)).out).mono ?_
    rintro e w1 ⟨rfl, hb⟩
    have HB1 := Lib.hid (below_nxt HL0.out hb)
    have HP1 := Lib.hid (HP0.out.step hb)
    clear hb p0 p1 p2
    obtain ⟨p0, p1, p2⟩ := HP1.out
    go_wp2_with fail
    refine ((C1 _ (HST.out.step HB1.out) (HS.out.step HB1.out)).out).mono ?_
    rintro e w2 ⟨rfl, hb⟩
    have HB2 := Lib.hid (below_nxt HB1.out hb)
    have HP2 := Lib.hid (HP1.out.step hb)
    clear hb p0 p1 p2
    obtain ⟨p0, p1, p2⟩ := HP2.out
    go_wp2_with fail
    refine ((C2 _ (HS.out.step HB2.out)).out).mono ?_
    rintro e w3 ⟨rfl, hb⟩
    have HB3 := Lib.hid (below_nxt HB2.out hb)
    clear hb p0 p1 p2
    go_wp2_with fail
    refine ((D1 _ (HST.out.step HB3.out)).out).mono ?_
    rintro e w4 ⟨mo, mcap, rfl, hm, hb⟩
    obtain ⟨hx, hxb, -⟩ := boxP_new w4 (.int .i64 m) (.slice mo M.length mcap) 24
    have HB4 := Lib.hid (below_nxt HB3.out (below_nxt hb hxb))
    have HX4 := Lib.hid hx
    have HM4 := Lib.hid (hm.step hxb)
    clear hm hb hx hxb
    go_wp2_with fail
    refine ((D2 _).out).mono ?_
    rintro e w5 ⟨no, ncap, rfl, hm, hb⟩
    obtain ⟨hx, hxb, -⟩ := boxP_new w5 (.int .i64 m) (.slice no M.length ncap) 24
    have hb' := below_nxt hb hxb
    have HB5 := Lib.hid (below_nxt HB4.out hb')
    have HX5 := Lib.hid (HX4.out.step hb')
    have HM5 := Lib.hid (HM4.out.step hb')
    have HY5 := Lib.hid hx
    have HN5 := Lib.hid (hm.step hxb)
    clear hm hb hb' hx hxb
    obtain ⟨x0, x1, x2⟩ := HX5.out
    obtain ⟨y0, y1, y2⟩ := HY5.out
    go_wp2_with fail
    refine ((C3 _ _ _ HM5.out HN5.out).out).mono ?_
    rintro e w6 ⟨rfl, hb⟩
    have HB6 := Lib.hid (below_nxt HB5.out hb)
    clear hb x0 x1 x2 y0 y1 y2
    go_wp2_with fail
    refine (awake14_any _ (HST.out.step HB6.out)).mono ?_
    rintro e wz ⟨rfl, hbz⟩
    have HBz := Lib.hid (below_nxt HB6.out hbz)
    clear hbz
    go_wp2
    go_ret
    exact ⟨rfl, HBz.out⟩
end Go.Proofs.YtjpbccpleflkhaaGreatDoor
