/- Parse of package stroke: its call. -/
import Derived.Test.YtecfbncfhehdcaaDoorQV
namespace Go.Proofs.YtecfbncfhehdcaaDoor
open Go.RowKit Go.Shelf
attribute [local go_sem] Oper.semAt_some
set_option maxHeartbeats 8000000 in
set_option maxRecDepth 100000 in
theorem sPar_any (s : ByteArray) (w : World) (hst : StQ w) : Calls Tryd.prog 12 #[.string s] w (ParP (Sk.parV s.data.toList) w) := by
  have HST := Lib.hid hst
  have h4 := hst.st.size
  have hlz : s.data.toList.length = s.size := Array.length_toList
  by_cases hbig : 4096 < s.size
  · have hv : Sk.parV s.data.toList = ([], 0, 17) := if_pos (by omega)
    rw [hv]
    have hb' : decide (4096 < (s.size : Int)) = true := decide_eq_true (by omega)
    clear hv hst HST
    go_enter Tryd.func12, Tryd.ntmps12
    go_wp2
    have c0 := boxV_new w (.slice none 0 0) 23
    have c1 := boxV_new (w.alloc (.cells #[.slice none 0 0] 23)) (.int .i64 0) 3
    have c2 := boxV_new ((w.alloc (.cells #[.slice none 0 0] 23)).alloc (.cells #[.int .i64 0] 3)) (.int .i64 17) 24
    rw [World.size_alloc] at c1
    rw [World.size_alloc, World.size_alloc] at c2
    have d0 := ((c0.step (allocB _ (.cells #[.int .i64 0] 3))).step (allocB _ (.cells #[.int .i64 17] 24))).2
    have d1 := (c1.step (allocB _ (.cells #[.int .i64 17] 24))).2
    have d2 := c2.2
    refine bodyPost_ret (v := .tuple #[.slice none 0 0, .int .i64 0, .int .i64 17]) ?_ rfl ⟨none, 0, rfl, SeeT.nil _, (((allocB w _).alloc (by simp) _).alloc (by simp; omega) _)⟩
    simp [results, Tryd.f12, go_sem, d0, d1, d2]
  · have hb' : decide (4096 < (s.size : Int)) = false := decide_eq_false (by omega)
    by_cases hem : s.size = 0
    · have hv : Sk.parV s.data.toList = ([], 0, 0) := by unfold Sk.parV; rw [if_neg (by omega), if_pos (by omega)]
      rw [hv]
      have hs0 : s = ⟨#[]⟩ := by
        have h := List.eq_nil_of_length_eq_zero (l := s.data.toList) (by omega)
        have h2 : s.data = #[] := by simpa using h
        exact (show s = ⟨s.data⟩ from rfl).trans (by rw [h2])
      subst hs0
      clear hv hst HST
      go_enter Tryd.func12, Tryd.ntmps12
      go_wp2
      have c0 := boxV_new w (.slice none 0 0) 23
      have c1 := boxV_new (w.alloc (.cells #[.slice none 0 0] 23)) (.int .i64 0) 3
      have c2 := boxV_new ((w.alloc (.cells #[.slice none 0 0] 23)).alloc (.cells #[.int .i64 0] 3)) (.int .i64 0) 24
      rw [World.size_alloc] at c1
      rw [World.size_alloc, World.size_alloc] at c2
      have d0 := ((c0.step (allocB _ (.cells #[.int .i64 0] 3))).step (allocB _ (.cells #[.int .i64 0] 24))).2
      have d1 := (c1.step (allocB _ (.cells #[.int .i64 0] 24))).2
      have d2 := c2.2
      refine bodyPost_ret (v := .tuple #[.slice none 0 0, .int .i64 0, .int .i64 0]) ?_ rfl ⟨none, 0, rfl, SeeT.nil _, (((allocB w _).alloc (by simp) _).alloc (by simp; omega) _)⟩
      simp [results, Tryd.f12, go_sem, d0, d1, d2]
    · have hv : Sk.parV s.data.toList = Sk.ro (Sk.prts s.data.toList [59, 32]) [] := by unfold Sk.parV; rw [if_neg (by omega), if_neg (by omega)]
      rw [hv]
      clear hv
      have hne : ([] == s.toList) = false := by
        rw [ByteArray.toList_eq]
        have : s.data.toList ≠ [] := fun h => hem (by rw [← hlz, h]; rfl)
        simpa using fun h => this (by simp [h])
      have hne' : (s.toList == []) = false := by
        rw [ByteArray.toList_eq]
        have : s.data.toList ≠ [] := fun h => hem (by rw [← hlz, h]; rfl)
        simpa using fun h => this (by simp [h])
      have hz : s.size ≤ 4096 := by omega
      obtain ⟨m0, hm0⟩ := hst.st.maxLen
      refine (callsIn_wide (n := 9)).1 ?_
      refine callsIn_of_wp_marks Tryd.func12 rfl trivial ?_ rfl
      simp only [Tryd.ntmps12, List.size_toArray, List.length_cons, List.length_nil, Nat.reduceAdd, Nat.reduceSub, Array.replicate_succ, Array.replicate_zero, List.push_toArray, List.append_toArray, List.nil_append, List.cons_append]
      gi_wp2_with (refine ⟨trivial, ?_⟩; gi_at_call 52; refine (callsIn_wide.2 (sPts_any s ⟨#[59, 32]⟩ _)).mono ?_; rintro e Z ⟨rfl, rfl⟩)
      obtain ⟨W0, hW0⟩ : ∃ W0, ((((((w.alloc (.cells #[.slice none 0 0] 23)).alloc (.cells #[.int .i64 0] 3)).alloc (.cells #[.int .i64 0] 24)).alloc (.cells #[.slice none 0 0] 23)).alloc (.cells #[.string s] 9)).alloc (.cells #[.string ⟨#[59, 32]⟩] 9)) = W0 := ⟨_, rfl⟩
      have hz0 : W0.heap.size = w.heap.size + 6 := by rw [← hW0]; simp
      have hB0 : Below w.heap.size w W0 := by rw [← hW0]; exact (((((allocB w _).alloc (by simp) _).alloc (by simp; omega) _).alloc (by simp; omega) _).alloc (by simp; omega) _).alloc (by simp; omega) _
      have hRa : BoxW W0 w.heap.size (.slice none 0 0) := by rw [← hW0]; exact (((((boxW_new w _ _).step (allocB _ _)).step (allocB _ _)).step (allocB _ _)).step (allocB _ _)).step (allocB _ _)
      have hRb : BoxW W0 (w.heap.size + 1) (.int .i64 0) := by
        have h := boxW_new (w.alloc (.cells #[.slice none 0 0] 23)) (.int .i64 0) 3
        rw [World.size_alloc] at h
        rw [← hW0]; exact (((h.step (allocB _ _)).step (allocB _ _)).step (allocB _ _)).step (allocB _ _)
      have hRc : BoxW W0 (w.heap.size + 2) (.int .i64 0) := by
        have h := boxW_new ((w.alloc (.cells #[.slice none 0 0] 23)).alloc (.cells #[.int .i64 0] 3)) (.int .i64 0) 24
        rw [World.size_alloc, World.size_alloc] at h
        rw [← hW0]; exact ((h.step (allocB _ _)).step (allocB _ _)).step (allocB _ _)
      have hX : BoxW W0 (w.heap.size + 3) (.slice none 0 0) := by
        have h := boxW_new (((w.alloc (.cells #[.slice none 0 0] 23)).alloc (.cells #[.int .i64 0] 3)).alloc (.cells #[.int .i64 0] 24)) (.slice none 0 0) 23
        rw [World.size_alloc, World.size_alloc, World.size_alloc] at h
        rw [← hW0]; exact (h.step (allocB _ _)).step (allocB _ _)
      have hTs : W0.cell? ⟨w.heap.size + 4, 0, none⟩ = some (.string s) := by
        have h := boxV_new ((((w.alloc (.cells #[.slice none 0 0] 23)).alloc (.cells #[.int .i64 0] 3)).alloc (.cells #[.int .i64 0] 24)).alloc (.cells #[.slice none 0 0] 23)) (.string s) 9
        rw [World.size_alloc, World.size_alloc, World.size_alloc, World.size_alloc] at h
        rw [← hW0]; exact (h.step (allocB _ _)).2
      have hTp : W0.cell? ⟨w.heap.size + 5, 0, none⟩ = some (.string ⟨#[59, 32]⟩) := by
        have h := boxV_new (((((w.alloc (.cells #[.slice none 0 0] 23)).alloc (.cells #[.int .i64 0] 3)).alloc (.cells #[.int .i64 0] 24)).alloc (.cells #[.slice none 0 0] 23)).alloc (.cells #[.string s] 9)) (.string ⟨#[59, 32]⟩) 9
        rw [World.size_alloc, World.size_alloc, World.size_alloc, World.size_alloc, World.size_alloc] at h
        rw [← hW0]; exact h.2
      have hm1 : ∃ m : Int, W0.cell? ⟨0, 0, none⟩ = some (.int .i64 m) := ⟨m0, (hB0.cell (p := ⟨0, 0, none⟩) (by show 0 < w.heap.size; omega)).trans hm0⟩
      have hI0 : PsI w 70 [] W0 := ⟨⟨[], .slice none 0 0, fun rest => rfl, by simp, RowT.nil _ _ _, hX⟩, hRa, hRb, hRc, hB0, by omega⟩
      rw [hW0]
      clear hW0 hRa hRb hRc hX
      refine wpIn_rangeFunc_ownG rfl (by omega) (gf := 83) (lb := #[.pointer (some ⟨w.heap.size + 1 + 1 + 1 + 1, 0, none⟩), .pointer (some ⟨w.heap.size + 1 + 1 + 1 + 1 + 1, 0, none⟩)]) rfl trivial (enters_of Tryd.func83 (by kernel_rfl) rfl)
        (parts_stops s ⟨#[59, 32]⟩ (w.heap.size + 1 + 1 + 1 + 1) (w.heap.size + 1 + 1 + 1 + 1 + 1) W0 hz (by decide) (by decide) (by omega) (by omega) hm1 hTs hTp) KpT.trans (KpT.put W0 (by omega) (by omega)) (Below.refl _ _) (fun _ => rfl)
        (PsI w 70) (PsX w) (PsI.own (by omega)) (PsX.own (by omega)) hI0
        (fun x => { tmps := #[.string s, undef, .pointer (some ⟨w.heap.size, 0, none⟩), .pointer (some ⟨w.heap.size + 1, 0, none⟩), .pointer (some ⟨w.heap.size + 1 + 1, 0, none⟩), .pointer (some ⟨w.heap.size + 1 + 1 + 1, 0, none⟩), .int .i64 x.1.1, .string x.1.2, undef, undef, undef, .string s, .int .i64 (s.size : Int), .bool false, .string s, .bool false, .string s, .func (.func 83) #[] #[.pointer (some ⟨w.heap.size + 1 + 1 + 1 + 1, 0, none⟩), .pointer (some ⟨w.heap.size + 1 + 1 + 1 + 1 + 1, 0, none⟩)], .int .i64 x.1.1, .string x.1.2, undef, undef, undef, undef, undef, undef, undef, undef, undef, undef, undef, undef, undef, undef, undef, undef, undef, undef, undef, undef, undef, undef, undef], defers := [] }) ?assign ?body ?done ?stop
      case assign =>
        intro l x W K hK
        have ez : ∀ T : Array Value, (#[18, 19].zip (Sk.pe x)).foldl (fun (t : Array Value) (x : Nat × Value) => t.setIfInBounds x.1 x.2) T = (T.setIfInBounds 18 (.int .i64 x.1.1)).setIfInBounds 19 (.string x.1.2) := fun T => by simp [Sk.pe]
        simp only [ez]
        gi_wp2
        exact hK
      case body =>
        rintro lp pre x W hI -
        obtain ⟨⟨L, v, hrun, hLl, hK, hX⟩, hRa, hRb, hRc, hB, hz6⟩ := hI
        obtain ⟨va, vc, rfl⟩ := hK.form
        have HNx := Lib.hid (PsI.next (x := x) hrun)
        have hpz : x.1.2.size ≤ 4096 := x.2.2.2
        have HPV : Hid (Sk.pv x = (x.1.1, x.1.2.data.toList)) := Lib.hid rfl
        have HK := Lib.hid hK
        have HX := Lib.hid hX
        have HRa := Lib.hid hRa
        have HRb := Lib.hid hRb
        have HRc := Lib.hid hRc
        have HB := Lib.hid hB
        have hd : 1 ≤ 9 - 1 - 1 := by omega
        obtain ⟨i0, hi0, hzi0, hzi1, hzi2⟩ := info_stp
        clear hrun hK hRa hRb hRc hB hI0 hm1 hTs hTp hm0 hX
        generalize x.1.2 = p at *
        generalize x.1.1 = at0 at *
        obtain ⟨q0, q1, q2⟩ := HX.out
        by_cases h64 : L.length = 64
        · have HNo : Hid (∀ rest, Sk.ro ((pre ++ [x]).map Sk.pv ++ rest) [] = ([], at0, 5)) := Lib.hid (fun rest => by rw [HNx.out, Sk.ro_many h64, HPV.out])
          have h64' : ((L.length : Int) == 64) = true := by rw [h64]; rfl
          obtain ⟨c0, c1, c2⟩ := HRa.out
          obtain ⟨d0, d1, d2⟩ := HRb.out
          obtain ⟨e0, e1, e2⟩ := HRc.out
          clear HNx HPV
          gi_wp2
          exact PsX.mk HRa.out HRb.out HRc.out HB.out (Below.refl _ _) HNo.out _
        have h64' : ((L.length : Int) == 64) = false := by rw [beq_eq_false_iff_ne]; omega
        have h64n : (L.length == 64) = false := by rw [beq_eq_false_iff_ne]; omega
        cases hrd : Sk.rdP p.data.toList with
        | none =>
          have HNo : Hid (∀ rest, Sk.ro ((pre ++ [x]).map Sk.pv ++ rest) [] = ([], at0, 4)) := Lib.hid (fun rest => by rw [HNx.out, Sk.ro_form h64 (by rw [HPV.out]; exact hrd), HPV.out])
          have CR := fun V (h : StQ V) => Lib.hid (rdP_no p V h hpz hrd)
          clear HNx HPV hrd
          gi_wp2_with (refine ⟨trivial, ?_⟩; gi_at_call 53; refine (CallsIn.inRound lp (callsIn_wide.2 (CR _ (HST.out.step HB.out)).out)).mono ?_; rintro e W1 ⟨ao, k1, cap, n1, rfl, hb1⟩; have HB1 := Lib.hid hb1; clear CR hb1; have HA1 := Lib.hid (HB1.out.alloc HB1.out.size (.cells #[.slice ao k1 cap, .int .i64 n1] 70)); obtain ⟨c0, c1, c2⟩ := HRa.out.step HA1.out; obtain ⟨d0, d1, d2⟩ := HRb.out.step HA1.out; obtain ⟨e0, e1, e2⟩ := HRc.out.step HA1.out)
          exact PsX.mk HRa.out HRb.out HRc.out HB.out (HB1.out.alloc HB1.out.size _) HNo.out _
        | some y =>
          obtain ⟨l, n⟩ := y
          have CR := fun V (h : StQ V) => Lib.hid (rdP_yes p l n V h hpz hrd)
          have CS := fun v V (h : SeeK V v l) => Lib.hid (sStp_any v l n V h)
          by_cases hch : Sk.chkP l n = 0
          · have HNo : Hid (∀ rest, Sk.ro ((pre ++ [x]).map Sk.pv ++ rest) [] = Sk.ro rest (L ++ [(l, n)])) := Lib.hid (fun rest => by rw [HNx.out, Sk.ro_on h64 (by rw [HPV.out]; exact hrd) hch])
            rw [hch] at CS
            clear HNx HPV hrd hch
            gi_wp2_with first
              | (refine ⟨trivial, ?_⟩; gi_at_call 53; refine (CallsIn.inRound lp (callsIn_wide.2 (CR _ (HST.out.step HB.out)).out)).mono ?_; rintro e W1 ⟨ao, cap, rfl, hs1, hf1, hl1, hb1⟩; have HB1 := Lib.hid hb1; have HS1 := Lib.hid hs1; have HF1 := Lib.hid hf1; have HL1 := Lib.hid (fun r e => Nat.lt_of_lt_of_le (hl1 r e) (show W1.heap.size ≤ W1.heap.size from Nat.le_refl _)); clear CR hb1 hs1 hf1 hl1)
              | (refine ⟨trivial, ?_⟩; gi_at_call 54; refine (CallsIn.inRound lp (callsIn_wide.2 (CS _ _ (HS1.out.step (allocB _ _))).out)).mono ?_; rintro e W2 ⟨rfl, hb2⟩; have HB2 := Lib.hid (below_nxt (HB1.out.alloc HB1.out.size _) hb2); have HS2 := Lib.hid ((HS1.out.step (allocB _ _)).step hb2); have HP2 := Lib.hid ((boxP_new W1 (.slice ao l.length cap) (.int .i64 n) 70).1.step hb2); have HZ2 := Lib.hid (show W1.heap.size ≤ W2.heap.size from (by have := hb2.size; simp at this; omega)); clear CS hb2; obtain ⟨c0, c1, c2⟩ := HRa.out.step HB2.out; obtain ⟨d0, d1, d2⟩ := HRb.out.step HB2.out; obtain ⟨e0, e1, e2⟩ := HRc.out.step HB2.out; obtain ⟨g0, g1, g2⟩ := HX.out.step HB2.out; obtain ⟨p0, p1, p2⟩ := HP2.out; have HK2 := Lib.hid (HK.out.step HB2.out))
              | (gi_at_builtin; refine wpListIn_append_stp rfl _ _ 23 rfl 70 i0 Tryd.underlying23 hi0 hzi0 hzi1 hzi2 _ L l n (.slice ao l.length cap) W2.heap.size rfl rfl (w.heap.size + 6) (HK2.out.step (allocB _ _)) (by simp) (by simp) (HS2.out.step (allocB _ _)) (fun r e => ⟨Nat.le_trans hz6 (HF1.out r e), Nat.lt_of_lt_of_le (HL1.out r e) (by have := HZ2.out; simp; omega), fun e' => (by have := (HK.out.lt r e').2; have := HF1.out r e; omega)⟩) (by omega) (by have := HB2.out.size; simp; omega) ?_; intro a5 p5 w5 hr5 hg5 hb5; have HX5 := Lib.hid (((HX.out.step HB2.out).step (allocB _ _)).grown hg5 (fun r e => by have := (HK2.out.lt r e).1; omega)); have HR5 := Lib.hid hr5; have HG5 := Lib.hid hg5; clear hr5 hg5 hb5; obtain ⟨s0, s1, s2⟩ := HX5.out)
            exact PsI.stp HK.out HRa.out HRb.out HRc.out HX.out HB.out hz6 (HB2.out.alloc HB2.out.size _) HG5.out HR5.out HNo.out (by omega) _
          · have HNo : Hid (∀ rest, Sk.ro ((pre ++ [x]).map Sk.pv ++ rest) [] = ([], at0, Sk.chkP l n)) := Lib.hid (fun rest => by rw [HNx.out, Sk.ro_bad h64 (by rw [HPV.out]; exact hrd) hch, HPV.out])
            have hcht : (Sk.chkP l n == 0) = false := by rw [beq_eq_false_iff_ne]; exact hch
            clear HNx HPV hrd hch
            generalize Sk.chkP l n = cc at *
            gi_wp2_with first
              | (refine ⟨trivial, ?_⟩; gi_at_call 53; refine (CallsIn.inRound lp (callsIn_wide.2 (CR _ (HST.out.step HB.out)).out)).mono ?_; rintro e W1 ⟨ao, cap, rfl, hs1, hf1, hl1, hb1⟩; have HB1 := Lib.hid hb1; have HS1 := Lib.hid hs1; have HF1 := Lib.hid hf1; have HL1 := Lib.hid (fun r e => Nat.lt_of_lt_of_le (hl1 r e) (show W1.heap.size ≤ W1.heap.size from Nat.le_refl _)); clear CR hb1 hs1 hf1 hl1)
              | (refine ⟨trivial, ?_⟩; gi_at_call 54; refine (CallsIn.inRound lp (callsIn_wide.2 (CS _ _ (HS1.out.step (allocB _ _))).out)).mono ?_; rintro e W2 ⟨rfl, hb2⟩; have HB2 := Lib.hid (below_nxt (HB1.out.alloc HB1.out.size _) hb2); have HS2 := Lib.hid ((HS1.out.step (allocB _ _)).step hb2); have HP2 := Lib.hid ((boxP_new W1 (.slice ao l.length cap) (.int .i64 n) 70).1.step hb2); have HZ2 := Lib.hid (show W1.heap.size ≤ W2.heap.size from (by have := hb2.size; simp at this; omega)); clear CS hb2; obtain ⟨c0, c1, c2⟩ := HRa.out.step HB2.out; obtain ⟨d0, d1, d2⟩ := HRb.out.step HB2.out; obtain ⟨e0, e1, e2⟩ := HRc.out.step HB2.out; obtain ⟨g0, g1, g2⟩ := HX.out.step HB2.out; obtain ⟨p0, p1, p2⟩ := HP2.out; have HK2 := Lib.hid (HK.out.step HB2.out))
            exact PsX.mk HRa.out HRb.out HRc.out HB.out HB2.out HNo.out _
      case done =>
        rintro D ys W hD hS ⟨⟨L, u, hrun, hLl, hK, hX⟩, hRa, hRb, hRc, hB, hz6⟩ hK0
        obtain ⟨ua, uc, hu⟩ := hK.form
        have hrd : Sk.ro (Sk.prts s.data.toList [59, 32]) [] = (L, 0, 0) := by
          have := hrun []
          rw [List.append_nil, hS] at this
          exact this
        rw [hrd]
        subst hu
        have hRa0 := hRa
        have hRb0 := hRb
        have hRc0 := hRc
        obtain ⟨q0, q1, q2⟩ := hX
        obtain ⟨c0, c1, c2⟩ := hRa
        obtain ⟨d0, d1, d2⟩ := hRb
        obtain ⟨e0, e1, e2⟩ := hRc
        gi_wp2
        obtain ⟨u, hu⟩ : ∃ u, u = Value.slice ua L.length uc := ⟨_, rfl⟩
        rw [← hu] at hK ⊢
        have hRa' := (((hRa0.set u).other (k := w.heap.size + 1) (o := 0) (by omega) (.int .i64 0)).other (k := w.heap.size + 2) (o := 0) (by omega) (.int .i64 0))
        have hRb' := (((hRb0.other (k := w.heap.size) (o := 0) (by omega) u).set (.int .i64 0)).other (k := w.heap.size + 2) (o := 0) (by omega) (.int .i64 0))
        have hRc' := (((hRc0.other (k := w.heap.size) (o := 0) (by omega) u).other (k := w.heap.size + 1) (o := 0) (by omega) (.int .i64 0)).set (.int .i64 0))
        have hKK := ((hK.set (a := ⟨w.heap.size, 0, none⟩) (by show w.heap.size < w.heap.size + 6; omega) u).set (a := ⟨w.heap.size + 1, 0, none⟩) (by show w.heap.size + 1 < w.heap.size + 6; omega) (.int .i64 0)).set (a := ⟨w.heap.size + 2, 0, none⟩) (by show w.heap.size + 2 < w.heap.size + 6; omega) (.int .i64 0)
        have hBB := ((hB.setCell (p := ⟨w.heap.size, 0, none⟩) (by simp) u).setCell (p := ⟨w.heap.size + 1, 0, none⟩) (by simp) (.int .i64 0)).setCell (p := ⟨w.heap.size + 2, 0, none⟩) (by simp) (.int .i64 0)
        have hK' := (((KeepsOthers.setCell W ⟨w.heap.size, 0, none⟩ u).trans (KeepsOthers.setCell _ ⟨w.heap.size + 1, 0, none⟩ (.int .i64 0))).trans (KeepsOthers.setCell _ ⟨w.heap.size + 2, 0, none⟩ (.int .i64 0))).same D _ hK0 rfl
        generalize ((W.setCell ⟨w.heap.size, 0, none⟩ u).setCell ⟨w.heap.size + 1, 0, none⟩ (.int .i64 0)).setCell ⟨w.heap.size + 2, 0, none⟩ (.int .i64 0) = W' at *
        refine ⟨by simp, .inl ⟨_, _, rfl, run_takeDeferred hK', ?_⟩⟩
        have hg := grownBy_putObj' W' D (.deferred none)
        have hr : ∀ r, some D = some r → ∃ o : Obj, W'.heap[r]? = some o ∧ o.isCells = false := fun r e => by cases e; exact ⟨_, hK', rfl⟩
        obtain ⟨-, f1, -⟩ := hRa'.kept hg hr
        obtain ⟨-, f2, -⟩ := hRb'.kept hg hr
        obtain ⟨-, f3, -⟩ := hRc'.kept hg hr
        have hse := (hKK.kept hg hr).sees
        rw [hu] at f1 hse
        refine ⟨.tuple #[.slice ua L.length uc, .int .i64 0, .int .i64 0], ?_, ⟨ua, uc, rfl, hse, hBB.trans (belowK_b (w := w) (Nat.le_refl _) W' D _ _ (by omega) hK' rfl rfl)⟩⟩
        simp [results, Tryd.f12, go_sem, f1, f2, f3]
      case stop =>
        rintro D c pre W hD ⟨rest, hpre⟩ ⟨rfl, k, m, hno, hRa, hRb, hRc, hB⟩ hK0
        have hrd : Sk.ro (Sk.prts s.data.toList [59, 32]) [] = ([], k, m) := by
          have hpre' : Sk.prts s.data.toList [59, 32] = pre.map Sk.pv ++ rest := hpre
          rw [hpre']; exact hno rest
        rw [hrd]
        gi_wp2
        refine ⟨by simp, .inl ⟨_, _, rfl, run_takeDeferred hK0, ?_⟩⟩
        have hg := grownBy_putObj' W D (.deferred none)
        have hr : ∀ r, some D = some r → ∃ o : Obj, W.heap[r]? = some o ∧ o.isCells = false := fun r e => by cases e; exact ⟨_, hK0, rfl⟩
        obtain ⟨-, f1, -⟩ := hRa.kept hg hr
        obtain ⟨-, f2, -⟩ := hRb.kept hg hr
        obtain ⟨-, f3, -⟩ := hRc.kept hg hr
        refine ⟨.tuple #[.slice none 0 0, .int .i64 k, .int .i64 m], ?_, ⟨none, 0, rfl, SeeT.nil _, hB.trans (belowK_b (w := w) (Nat.le_refl _) W D _ _ (by omega) hK0 rfl rfl)⟩⟩
        simp [results, Tryd.f12, go_sem, f1, f2, f3]
end Go.Proofs.YtecfbncfhehdcaaDoor

