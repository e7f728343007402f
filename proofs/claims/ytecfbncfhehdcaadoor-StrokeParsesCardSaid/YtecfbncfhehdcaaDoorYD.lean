/- Parse of the reference. -/
import Derived.Test.YtecfbncfhehdcaaDoorYC
import Derived.Test.YtecfbncfhehdcaaDoorQW
namespace Go.Proofs.YtecfbncfhehdcaaDoor
open Go.RowKit
/-- 'append' of a step to a slice of the call's own. -/
theorem wpList_append_stp {P : Program} {w : World} {ops : Array Oper} {rest : List Oper} {o : Oper} {a : Act} {Q : Exit → Act → World → Prop} (hgd : o.guard = none) (s x : Operand) (t : TypeId)
    (ho : o.op = .call { callee := .builtin .append, args := #[s, x], argTypes := #[t, t] })
    (e : TypeId) (i : TypeInfo) (ht : P.underlying t = some (.slice e)) (hi : P.info? e = some i) (hz : i.zero = some (.agg #[.slice none 0 0, .int .i64 0])) (hsize : i.size = 2) (hby : i.bytes = 32)
    (v : Value) (L : List Sk.Stp) (l : List Sk.Str) (m : Int) (u : Value) (g : Nat) (hs : a.eval s = v) (hx : a.eval x = .slice (some ⟨g, 0, none⟩) 1 1) (B : Nat) (hown : RowT B e w v L)
    (h0 : w.cell? ⟨g, 0, none⟩ = some u) (h1 : w.cell? ⟨g, 1, none⟩ = some (.int .i64 m)) (hu : SeeK w u l) (hf : ∀ r, u.ownBlock = some r → B ≤ r ∧ r < w.heap.size ∧ v.ownBlock ≠ some r) (hlen : L.length ≤ 1048576) (hB : B ≤ w.heap.size)
    (h : ∀ ao' cap' w', RowT B e w' (.slice ao' (L.length + 1) cap') (L ++ [(l, m)]) → w.grownBy w' v.ownBlock → Below B w w' → wpList P ops Q rest (a.put o.dst (.slice ao' (L.length + 1) cap')) w') : wpList P ops Q (o :: rest) a w := by
  obtain ⟨ps, hown, hl, hp⟩ := hown
  refine wpList_append_own_at w hgd s x t ho B e i (.agg #[.slice none 0 0, .int .i64 0]) 2 32 ht hi hz hsize hby rfl (by omega) v L.length _ hs hown ⟨g, 0, none⟩ 1 1 [u, .int .i64 m] hx (by simp) ?_ ?_ (by unfold maxLen; omega) ?_ hB ?_
  · intro j u' hj
    rw [addr_add]
    rcases j with _ | _ | j
    · simp at hj; subst hj; exact h0
    · simp at hj; subst hj; exact h1
    · simp at hj
  · obtain ⟨ao, cap, rfl, -⟩ := hu
    simp [Value.oneCell']
  · omega
  · intro v' w' r1 r2 r3 r4
    have hk : ∀ u l, SeeK w u l → (∀ r, u.ownBlock = some r → B ≤ r ∧ r < w.heap.size ∧ v.ownBlock ≠ some r) → SeeK w' u l ∧ ∀ r, u.ownBlock = some r → B ≤ r ∧ r < w'.heap.size ∧ v'.ownBlock ≠ some r := fun u l hs hf =>
      ⟨hs.same r2.size (fun r e hr => r2.block r hr (fun e' => (hf r e).2.2 e'.symm)), fun r e => ⟨(hf r e).1, Nat.lt_of_lt_of_le (hf r e).2.1 r2.size, fun e' => by
        rcases r4 with r4 | r4
        · exact (hf r e).2.2 (r4 ▸ e')
        · rw [r4] at e'; have := (hf r e).2.1; simp at e'; omega⟩⟩
    have hr : RowT B e w' v' (L ++ [(l, m)]) := by
      refine ⟨ps ++ [(u, m)], ?_, by simp [hl], fun i hi => ?_⟩
      · rw [List.length_append, List.flatMap_append]
        exact r1
      · by_cases hi' : i < L.length
        · obtain ⟨a1, a2, a3⟩ := hp i hi'
          rw [getD_left _ _ _ (by omega), getD_left _ _ _ hi']
          obtain ⟨b1, b2⟩ := hk _ _ a1 a3
          exact ⟨b1, a2, b2⟩
        · have : i = L.length := by simp at hi; omega
          subst this
          rw [getD_end _ _ _ (by omega), getD_end _ _ _ rfl]
          obtain ⟨b1, b2⟩ := hk u l hu hf
          exact ⟨b1, rfl, b2⟩
    obtain ⟨ao', cap', rfl⟩ : ∃ ao' cap', v' = .slice ao' (L.length + 1) cap' := by
      rcases r1.2 with ⟨_, h⟩ | ⟨g, cap, cur, rfl, _⟩
      · omega
      · exact ⟨_, _, rfl⟩
    exact h _ _ _ hr r2 ((Below.refl _ _).grown r2 hB (fun g hg => (World.ownsRow.lt hown g hg).1))
set_option maxHeartbeats 8000000 in
set_option maxRecDepth 100000 in
theorem rPar_any (s : ByteArray) (w : World) (hz : s.size ≤ 8192) : Calls Tryd.prog 13 #[.string s] w (ParP (Sk.parV s.data.toList) w) := by
  have hlz : s.data.toList.length = s.size := Array.length_toList
  by_cases hbig : 4096 < s.size
  · have hv : Sk.parV s.data.toList = ([], 0, 17) := if_pos (by omega)
    rw [hv]
    have hb' : decide (4096 < (s.size : Int)) = true := decide_eq_true (by omega)
    clear hv
    go_enter Tryd.func13, Tryd.ntmps13
    go_wp2
    exact bodyPost_ret (v := .tuple #[.slice none 0 0, .int .i64 0, .int .i64 17]) (by simp [results, Tryd.f13, go_sem]) rfl ⟨none, 0, rfl, SeeT.nil _, Below.refl _ _⟩
  have hb' : decide (4096 < (s.size : Int)) = false := decide_eq_false (by omega)
  by_cases hem : s.size = 0
  · have hv : Sk.parV s.data.toList = ([], 0, 0) := by unfold Sk.parV; rw [if_neg (by omega), if_pos (by omega)]
    rw [hv]
    have hs0 : s = ⟨#[]⟩ := by
      have h := List.eq_nil_of_length_eq_zero (l := s.data.toList) (by omega)
      have h2 : s.data = #[] := by simpa using h
      exact (show s = ⟨s.data⟩ from rfl).trans (by rw [h2])
    subst hs0
    clear hv
    go_enter Tryd.func13, Tryd.ntmps13
    go_wp2
    exact bodyPost_ret (v := .tuple #[.slice none 0 0, .int .i64 0, .int .i64 0]) (by simp [results, Tryd.f13, go_sem]) rfl ⟨none, 0, rfl, SeeT.nil _, Below.refl _ _⟩
  have hv : Sk.parV s.data.toList = Sk.ro (Sk.prts s.data.toList [59, 32]) [] := by unfold Sk.parV; rw [if_neg (by omega), if_neg (by omega)]
  have hne : ([] == s.toList) = false := by
    rw [ByteArray.toList_eq]
    have : s.data.toList ≠ [] := fun h => hem (by rw [← hlz, h]; rfl)
    simpa using fun h => this (by simp [h])
  have hne' : (s.toList == []) = false := by
    rw [ByteArray.toList_eq]
    have : s.data.toList ≠ [] := fun h => hem (by rw [← hlz, h]; rfl)
    simpa using fun h => this (by simp [h])
  obtain ⟨i0, hi0, hzi0, hzi1, hzi2⟩ := info_stp
  have hpl := Sk.prt_len s.data.toList [59, 32] (by decide) (s.data.toList.length + 1) 0 (Nat.zero_le _)
  have hpp := Sk.prt_pos s.data.toList [59, 32] s.data.toList.length 0
  have hps := Sk.prt_sum s.data.toList [59, 32] (by decide) (s.data.toList.length + 1) 0 (Nat.zero_le _)
  have hpo := Sk.offs_prt s.data.toList [59, 32] (s.data.toList.length + 1) 0
  change (Sk.prts s.data.toList [59, 32]).length ≤ _ at hpl
  change 0 < (Sk.prts s.data.toList [59, 32]).length at hpp
  change ∀ p ∈ Sk.prts s.data.toList [59, 32], _ at hps
  change Sk.offs 2 (Sk.prts s.data.toList [59, 32]) 0 at hpo
  have HSV := Lib.hid hv
  clear hv
  go_enter Tryd.func13, Tryd.ntmps13
  go_wp2_with fail
  refine (rCut_any s ⟨#[59, 32]⟩ _ hz (by decide) (by decide)).mono ?_
  rintro e w1 ⟨v, F, rfl, hr, hf, hb⟩
  change F.map (·.data.toList) = (Sk.prts s.data.toList [59, 32]).map (·.2) at hf
  have HB1 := Lib.hid hb
  have hFl : F.length = (Sk.prts s.data.toList [59, 32]).length := by have := congrArg List.length hf; simpa using this
  obtain ⟨g, cap, rfl, hg1, hg2, hc1, hc2⟩ := hr.form (by omega)
  have HF : Hid (∀ i, i < F.length → ∃ p r, (Sk.prts s.data.toList [59, 32]).drop i = p :: r ∧ r = (Sk.prts s.data.toList [59, 32]).drop (i + 1) ∧ p.2 = (F.getD i ⟨#[]⟩).data.toList ∧ (F.getD i ⟨#[]⟩).size ≤ 8192) := Lib.hid (fun i hi => by
    have hi2 : i < (Sk.prts s.data.toList [59, 32]).length := by omega
    refine ⟨(Sk.prts s.data.toList [59, 32])[i], _, List.drop_eq_getElem_cons hi2, rfl, ?_⟩
    have h1 : ((Sk.prts s.data.toList [59, 32])[i]).2 = (F.getD i ⟨#[]⟩).data.toList := by
      have := congrArg (fun l : List (List UInt8) => l[i]?) hf
      simp only [List.getElem?_map, List.getElem?_eq_getElem hi, List.getElem?_eq_getElem hi2, Option.map_some, Option.some.injEq] at this
      rw [List.getD_eq_getElem?_getD, List.getElem?_eq_getElem hi]; exact this.symm
    refine ⟨h1, ?_⟩
    have h2 := hps _ (List.getElem_mem hi2)
    rw [h1, hlz] at h2
    have h3 : (F.getD i ⟨#[]⟩).data.toList.length = (F.getD i ⟨#[]⟩).size := Array.length_toList
    omega)
  have HFl : Hid (F.length = (Sk.prts s.data.toList [59, 32]).length) := Lib.hid hFl
  have HPO := Lib.hid hpo
  have HRow := Lib.hid (show CellsF w1 g F from ⟨hg2, fun i hi => hr.at hi⟩)
  obtain ⟨B, hB⟩ : ∃ B, w1.heap.size = B := ⟨_, rfl⟩
  have hz1 : g < B := by omega
  have hz3 : w.heap.size ≤ B := by have := hb.size; omega
  have HZB : Hid (B ≤ w1.heap.size) := Lib.hid (by omega)
  have hF0 : 0 < F.length := by omega
  have hF1 : F.length ≤ 8193 := by omega
  generalize Sk.prts s.data.toList [59, 32] = P at *
  generalize Sk.parV s.data.toList = q at *
  clear hf hr hb hFl hpl hpp hps hlz hpo hg2 hB hne hne' hem hb' hbig
  go_wp2
  go_loopw [5, 7, 8] (fun s5 s7 s8 wr => ∃ (i a : Nat) (L : List Sk.Stp), s7 = .int .i64 (a : Int) ∧ s8 = .int .i64 (i : Int) ∧ i ≤ F.length ∧ i ≤ 64 ∧ a ≤ i * 8194 ∧ Hid (L.length = i) ∧ Hid (Sk.ro P [] = Sk.ro (P.drop i) L ∧ Sk.offs 2 (P.drop i) a) ∧
    Hid (RowT B 70 wr s5 L) ∧ Hid (CellsF wr g F) ∧ Hid (Below w.heap.size w wr) ∧ Hid (B ≤ wr.heap.size)) (fun _ _ s8 _ => F.length - (intOf s8).toNat)
  case atStart => exact ⟨0, 0, [], rfl, rfl, Nat.zero_le _, Nat.zero_le _, Nat.zero_le _, Lib.hid rfl, Lib.hid ⟨rfl, HPO.out⟩, Lib.hid (RowT.nil _ _ _), HRow, HB1, HZB⟩
  case round =>
    clear HRow HB1 HZB
    obtain ⟨i, a, L, rfl, rfl, hi, hi64, ha, HLi, HJ, HT, HRow, HB, hz2⟩ := hrel
    have hFz : (F.length : Int) ≤ 8193 := by omega
    by_cases hil : i < F.length
    · have hilz : (i : Int) < (F.length : Int) := by omega
      obtain ⟨p, r, hd, hr, hp, hpz⟩ := HF.out i hil
      obtain ⟨hj1, hj2⟩ := HJ.out
      rw [hd] at hj1 hj2
      obtain ⟨ho1, ho2⟩ := hj2
      have HRd := Lib.hid hr
      by_cases h64 : i = 64
      · have HQ : Hid (q = ([], (a : Int), 5)) := Lib.hid (by rw [HSV.out, hj1, Sk.ro_many (by rw [HLi.out]; exact h64), ho1])
        have h64' : ((i : Int) == 64) = true := by rw [h64]; rfl
        clear hd hr hp hpz hj1 ho1 ho2 HF HFl HSV HJ h64
        go_wp2
        exact bodyPost_ret (v := .tuple #[.slice none 0 0, .int .i64 (a : Int), .int .i64 5]) (by simp [results, Tryd.f13, go_sem]) rfl ⟨none, 0, by rw [HQ.out]; rfl, by rw [HQ.out]; exact SeeT.nil _, HB.out⟩
      have hi63 : i < 64 := by omega
      have h64' : ((i : Int) == 64) = false := by rw [beq_eq_false_iff_ne]; omega
      have c1 := HRow.out.2 i hil
      have CS := fun W => Lib.hid (rSt_any (F.getD i ⟨#[]⟩) W hpz)
      rw [← hp] at CS
      rw [Sk.ro_st (by rw [HLi.out]; exact h64)] at hj1
      have hplz : p.2.length = (F.getD i ⟨#[]⟩).size := by rw [hp]; exact Array.length_toList
      generalize hS : F.getD i ⟨#[]⟩ = S at *
      have HS := Lib.hid hS
      generalize hst : Sk.stV p.2 = st at *
      obtain ⟨⟨l, n⟩, er⟩ := st
      obtain ⟨vo, vc, hvo⟩ := HT.out.form
      subst hvo
      have hlt := HT.out.lt
      have HLT := Lib.hid hlt
      simp only at hj1
      by_cases her : er = 0
      · subst her
        rw [if_pos rfl] at hj1
        have HJn : Hid (Sk.ro P [] = Sk.ro r (L ++ [(l, n)]) ∧ Sk.offs 2 r (a + (S.size + 2))) := Lib.hid ⟨hj1, by rw [← hplz]; exact ho2⟩
        clear hd hr hp hj1 ho1 ho2 HF HFl HSV HJ hS hst hplz h64 hlt
        go_wp2_with fail
        refine ((CS _).out).mono ?_
        rintro e w2 ⟨u, rfl, hs2, hf2, hb2⟩
        obtain ⟨ua, uc, hu, -⟩ := id hs2
        have L3 := allocB w2 (.cells #[u, .int .i64 n] 70)
        have hb3 := below_nxt hb2 L3
        have HB3 := Lib.hid (below_nxt HB.out hb3)
        have HT3 := Lib.hid (HT.out.step hb3)
        have HF3 := Lib.hid (HRow.out.step hb3)
        have HS3 := Lib.hid (hs2.step L3)
        have HZ3 := Lib.hid (Nat.le_trans hz2.out hb3.size)
        have HFr := Lib.hid (fun r e => show B ≤ r ∧ r < w2.heap.size ∧ (Value.slice vo L.length vc).ownBlock ≠ some r from ⟨Nat.le_trans hz2.out (hf2 r e).1, (hf2 r e).2, fun e' => by have := (HLT.out r e').2; have := (hf2 r e).1; omega⟩)
        have HRO := Lib.hid (fun r e => (HLT.out r e).1)
        have hz64 : L.length ≤ 64 := by have := HLi.out; omega
        clear hs2 hf2 hb2 hb3 L3 HT HRow HB hz2 c1 CS HLT
        subst hu
        have c2 := HF3.out.2 i hil
        rw [HS.out] at c2
        have HZL := Lib.hid hz64
        clear hz64
        go_wp2_with (at_builtin; refine wpList_append_stp rfl _ _ 23 rfl 70 i0 Tryd.underlying23 hi0 hzi0 hzi1 hzi2 _ L l n (.slice ua l.length uc) (w2.heap.size + 1) rfl rfl B (HT3.out.step (allocB _ _)) (by simp) (by simp) (HS3.out.step (allocB _ _)) (fun r e => ⟨(HFr.out r e).1, by have := (HFr.out r e).2.1; simp; omega, (HFr.out r e).2.2⟩) (by have := HZL.out; omega) (Nat.le_trans HZ3.out (by simp)) ?_; intro a5 p5 w5 hr5 hg5 hb5; have HR5 := Lib.hid hr5; have HF5 := Lib.hid ((HF3.out.step (allocB _ (.cells #[.slice ua l.length uc, .int .i64 n] 70))).grown hg5 (fun r e => by have := HRO.out r e; omega)); have HB5 := Lib.hid ((HB3.out.alloc HB3.out.size (.cells #[.slice ua l.length uc, .int .i64 n] 70)).grown hg5 (Nat.le_trans HB3.out.size (by simp)) (fun r e => by have := HRO.out r e; omega)); have HZ5 := Lib.hid (Nat.le_trans (Nat.le_trans HZ3.out (show _ ≤ _ from (allocB _ (.cells #[.slice ua l.length uc, .int .i64 n] 70)).size)) hg5.size); clear hr5 hg5 hb5; have c3 := HF5.out.2 i hil; rw [HS.out] at c3; have c4 := HF5.out.1)
        refine ⟨⟨i + 1, a + (S.size + 2), L ++ [(l, n)], by first | rfl | go_num, by first | rfl | go_num, by omega, by omega, by omega, Lib.hid (by simp [HLi.out]), Lib.hid ⟨by rw [HJn.out.1, HRd.out], by rw [← HRd.out]; exact HJn.out.2⟩, HR5, HF5, HB5, HZ5⟩, by simp [intOf]; omega⟩
      · have HQ : Hid (q = ([], (a : Int), er)) := Lib.hid (by rw [HSV.out, hj1, if_neg her, ho1])
        have her' : (er != 0) = true := by simpa using her
        clear hd hr hp hpz hj1 ho1 ho2 HF HFl HSV HJ hS hst hplz h64 hlt her
        go_wp2_with fail
        refine ((CS _).out).mono ?_
        rintro e w2 ⟨u, rfl, hs2, hf2, hb2⟩
        obtain ⟨ua, uc, hu, -⟩ := id hs2
        have HB2 := Lib.hid (below_nxt HB.out (below_nxt hb2 (allocB w2 (.cells #[u, .int .i64 n] 70))))
        clear hs2 hf2 hb2
        subst hu
        go_wp2
        exact bodyPost_ret (v := .tuple #[.slice none 0 0, .int .i64 (a : Int), .int .i64 er]) (by simp [results, Tryd.f13, go_sem]) rfl ⟨none, 0, by rw [HQ.out]; rfl, by rw [HQ.out]; exact SeeT.nil _, HB2.out⟩
    · have hil2 : i = F.length := by omega
      have HQ : Hid (q = (L, 0, 0)) := Lib.hid (by
        rw [HSV.out, HJ.out.1, List.drop_eq_nil_of_le (by rw [← HFl.out]; omega)]; rfl)
      have hilz : (i : Int) = (F.length : Int) := by omega
      obtain ⟨vo, vc, hvo⟩ := HT.out.form
      have HSe := Lib.hid HT.out.sees
      clear HF HJ HFl HSV HRow hz2 HT
      subst hvo
      go_wp2
      exact bodyPost_ret (v := .tuple #[.slice vo L.length vc, .int .i64 0, .int .i64 0]) (by simp [results, Tryd.f13, go_sem]) rfl ⟨vo, vc, by rw [HQ.out], by rw [HQ.out]; exact HSe.out, HB.out⟩
end Go.Proofs.YtecfbncfhehdcaaDoor
