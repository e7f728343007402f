/- Parse of package stroke: what it returns is its own. Parts and joins, as plain facts: what is cut is joined again, and what is joined is cut again. The texts of steps, of the reference. What is written is read back, and what is read is written again: plain facts. Lists of steps: what is written is read back, and what is read is written again: plain facts. Parse of package sequence. -/
import Derived.Test.YtjpbccpleflkhaaDoorG05
import Derived.Test.YtjpbccpleflkhaaDoorG08
import Derived.Test.YtjpbccpleflkhaaDoorG10
namespace Go.Proofs.YtjpbccpleflkhaaDoor
open Go.RowKit Go.Shelf
theorem RowT.weak {B B' : Nat} {e : TypeId} {w : World} {v : Value} {L : List Sk.Stp} (h : RowT B e w v L) (hB : B' ≤ B) : RowT B' e w v L := by
  obtain ⟨ps, h, hl, hp⟩ := h
  refine ⟨ps, ?_, hl, fun i hi => ⟨(hp i hi).1, (hp i hi).2.1, fun r e => ⟨Nat.le_trans hB ((hp i hi).2.2 r e).1, ((hp i hi).2.2 r e).2⟩⟩⟩
  rcases h with ⟨h0, h | ⟨g, cap, cur, a, b, c⟩⟩
  · exact ⟨h0, .inl h⟩
  · exact ⟨h0, .inr ⟨g, cap, cur, a, Nat.le_trans hB b, c⟩⟩
/-- What Parse leaves, told with where it lies. -/
def ParO (q : List Sk.Stp × Int × Int) (w : World) (e : Ending) (w' : World) : Prop := ∃ ao cap, e = .returned (.tuple #[.slice ao q.1.length cap, .int .i64 q.2.1, .int .i64 q.2.2]) ∧ RowT w.heap.size 70 w' (.slice ao q.1.length cap) q.1 ∧ Below w.heap.size w w'
attribute [local go_sem] Oper.semAt_some
set_option maxHeartbeats 8000000 in
set_option maxRecDepth 100000 in
theorem sPar_own (s : ByteArray) (w : World) (hst : StQ w) : Calls Tryd.prog 12 #[.string s] w (ParO (Sk.parV s.data.toList) w) := by
  have HST := Lib.hid hst
  have h4 := hst.st.size
  have hlz : s.data.toList.length = s.size := Array.length_toList
  by_cases hbig : 4096 < s.size
  · have hv : Sk.parV s.data.toList = ([], 0, 17) := if_pos (by omega)
    rw [hv]
    have hb' : decide (4096 < (s.size : Int)) = true := decide_eq_true (by omega)
    clear hv hst HST
    go_enter Tryd.func12, Tryd.ntmps12
    go_wp2
    have c0 := boxV_new w (.slice none 0 0) 23
    have c1 := boxV_new (w.alloc (.cells #[.slice none 0 0] 23)) (.int .i64 0) 3
    have c2 := boxV_new ((w.alloc (.cells #[.slice none 0 0] 23)).alloc (.cells #[.int .i64 0] 3)) (.int .i64 17) 24
    rw [World.size_alloc] at c1
    rw [World.size_alloc, World.size_alloc] at c2
    have d0 := ((c0.step (allocB _ (.cells #[.int .i64 0] 3))).step (allocB _ (.cells #[.int .i64 17] 24))).2
    have d1 := (c1.step (allocB _ (.cells #[.int .i64 17] 24))).2
    have d2 := c2.2
    refine bodyPost_ret (v := .tuple #[.slice none 0 0, .int .i64 0, .int .i64 17]) ?_ rfl ⟨none, 0, rfl, RowT.nil _ _ _, (((allocB w _).alloc (by simp) _).alloc (by simp; omega) _)⟩
    simp [results, Tryd.f12, go_sem, d0, d1, d2]
  · have hb' : decide (4096 < (s.size : Int)) = false := decide_eq_false (by omega)
    by_cases hem : s.size = 0
    · have hv : Sk.parV s.data.toList = ([], 0, 0) := by unfold Sk.parV; rw [if_neg (by omega), if_pos (by omega)]
      rw [hv]
      have hs0 : s = ⟨#[]⟩ := by
        have h := List.eq_nil_of_length_eq_zero (l := s.data.toList) (by omega)
        have h2 : s.data = #[] := by simpa using h
        exact (show s = ⟨s.data⟩ from rfl).trans (by rw [h2])
      subst hs0
      clear hv hst HST
      go_enter Tryd.func12, Tryd.ntmps12
      go_wp2
      have c0 := boxV_new w (.slice none 0 0) 23
      have c1 := boxV_new (w.alloc (.cells #[.slice none 0 0] 23)) (.int .i64 0) 3
      have c2 := boxV_new ((w.alloc (.cells #[.slice none 0 0] 23)).alloc (.cells #[.int .i64 0] 3)) (.int .i64 0) 24
      rw [World.size_alloc] at c1
      rw [World.size_alloc, World.size_alloc] at c2
      have d0 := ((c0.step (allocB _ (.cells #[.int .i64 0] 3))).step (allocB _ (.cells #[.int .i64 0] 24))).2
      have d1 := (c1.step (allocB _ (.cells #[.int .i64 0] 24))).2
      have d2 := c2.2
      refine bodyPost_ret (v := .tuple #[.slice none 0 0, .int .i64 0, .int .i64 0]) ?_ rfl ⟨none, 0, rfl, RowT.nil _ _ _, (((allocB w _).alloc (by simp) _).alloc (by simp; omega) _)⟩
      simp [results, Tryd.f12, go_sem, d0, d1, d2]
    · have hv : Sk.parV s.data.toList = Sk.ro (Sk.prts s.data.toList [59, 32]) [] := by unfold Sk.parV; rw [if_neg (by omega), if_neg (by omega)]
      rw [hv]
      clear hv
      have hne : ([] == s.toList) = false := by
        rw [ByteArray.toList_eq]
        have : s.data.toList ≠ [] := fun h => hem (by rw [← hlz, h]; rfl)
        simpa using fun h => this (by simp [h])
      have hne' : (s.toList == []) = false := by
        rw [ByteArray.toList_eq]
        have : s.data.toList ≠ [] := fun h => hem (by rw [← hlz, h]; rfl)
        simpa using fun h => this (by simp [h])
      have hz : s.size ≤ 4096 := by omega
      obtain ⟨m0, hm0⟩ := hst.st.maxLen
      refine (callsIn_wide (n := 9)).1 ?_
      refine callsIn_of_wp_marks Tryd.func12 rfl trivial ?_ rfl
      simp only [Tryd.ntmps12, List.size_toArray, List.length_cons, List.length_nil, Nat.reduceAdd, Nat.reduceSub, Array.replicate_succ, Array.replicate_zero, List.push_toArray, List.append_toArray, List.nil_append, List.cons_append]
      gi_wp2_with (refine ⟨trivial, ?_⟩; gi_at_call 52; refine (callsIn_wide.2 (sPts_any s ⟨#[59, 32]⟩ _)).mono ?_; rintro e Z ⟨rfl, rfl⟩)
      obtain ⟨W0, hW0⟩ : ∃ W0, ((((((w.alloc (.cells #[.slice none 0 0] 23)).alloc (.cells #[.int .i64 0] 3)).alloc (.cells #[.int .i64 0] 24)).alloc (.cells #[.slice none 0 0] 23)).alloc (.cells #[.string s] 9)).alloc (.cells #[.string ⟨#[59, 32]⟩] 9)) = W0 := ⟨_, rfl⟩
      have hz0 : W0.heap.size = w.heap.size + 6 := by rw [← hW0]; simp
      have hB0 : Below w.heap.size w W0 := by rw [← hW0]; exact (((((allocB w _).alloc (by simp) _).alloc (by simp; omega) _).alloc (by simp; omega) _).alloc (by simp; omega) _).alloc (by simp; omega) _
      have hRa : BoxW W0 w.heap.size (.slice none 0 0) := by rw [← hW0]; exact (((((boxW_new w _ _).step (allocB _ _)).step (allocB _ _)).step (allocB _ _)).step (allocB _ _)).step (allocB _ _)
      have hRb : BoxW W0 (w.heap.size + 1) (.int .i64 0) := by
        have h := boxW_new (w.alloc (.cells #[.slice none 0 0] 23)) (.int .i64 0) 3
        rw [World.size_alloc] at h
        rw [← hW0]; exact (((h.step (allocB _ _)).step (allocB _ _)).step (allocB _ _)).step (allocB _ _)
      have hRc : BoxW W0 (w.heap.size + 2) (.int .i64 0) := by
        have h := boxW_new ((w.alloc (.cells #[.slice none 0 0] 23)).alloc (.cells #[.int .i64 0] 3)) (.int .i64 0) 24
        rw [World.size_alloc, World.size_alloc] at h
        rw [← hW0]; exact ((h.step (allocB _ _)).step (allocB _ _)).step (allocB _ _)
      have hX : BoxW W0 (w.heap.size + 3) (.slice none 0 0) := by
        have h := boxW_new (((w.alloc (.cells #[.slice none 0 0] 23)).alloc (.cells #[.int .i64 0] 3)).alloc (.cells #[.int .i64 0] 24)) (.slice none 0 0) 23
        rw [World.size_alloc, World.size_alloc, World.size_alloc] at h
        rw [← hW0]; exact (h.step (allocB _ _)).step (allocB _ _)
      have hTs : W0.cell? ⟨w.heap.size + 4, 0, none⟩ = some (.string s) := by
        have h := boxV_new ((((w.alloc (.cells #[.slice none 0 0] 23)).alloc (.cells #[.int .i64 0] 3)).alloc (.cells #[.int .i64 0] 24)).alloc (.cells #[.slice none 0 0] 23)) (.string s) 9
        rw [World.size_alloc, World.size_alloc, World.size_alloc, World.size_alloc] at h
        rw [← hW0]; exact (h.step (allocB _ _)).2
      have hTp : W0.cell? ⟨w.heap.size + 5, 0, none⟩ = some (.string ⟨#[59, 32]⟩) := by
        have h := boxV_new (((((w.alloc (.cells #[.slice none 0 0] 23)).alloc (.cells #[.int .i64 0] 3)).alloc (.cells #[.int .i64 0] 24)).alloc (.cells #[.slice none 0 0] 23)).alloc (.cells #[.string s] 9)) (.string ⟨#[59, 32]⟩) 9
        rw [World.size_alloc, World.size_alloc, World.size_alloc, World.size_alloc, World.size_alloc] at h
        rw [← hW0]; exact h.2
      have hm1 : ∃ m : Int, W0.cell? ⟨0, 0, none⟩ = some (.int .i64 m) := ⟨m0, (hB0.cell (p := ⟨0, 0, none⟩) (by show 0 < w.heap.size; omega)).trans hm0⟩
      have hI0 : PsI w 70 [] W0 := ⟨⟨[], .slice none 0 0, fun rest => rfl, by simp, RowT.nil _ _ _, hX⟩, hRa, hRb, hRc, hB0, by omega⟩
      rw [hW0]
      clear hW0 hRa hRb hRc hX
      refine wpIn_rangeFunc_ownG rfl (by omega) (gf := 83) (lb := #[.pointer (some ⟨w.heap.size + 1 + 1 + 1 + 1, 0, none⟩), .pointer (some ⟨w.heap.size + 1 + 1 + 1 + 1 + 1, 0, none⟩)]) rfl trivial (enters_of Tryd.func83 (by kernel_rfl) rfl)
        (parts_stops s ⟨#[59, 32]⟩ (w.heap.size + 1 + 1 + 1 + 1) (w.heap.size + 1 + 1 + 1 + 1 + 1) W0 hz (by decide) (by decide) (by omega) (by omega) hm1 hTs hTp) KpT.trans (KpT.put W0 (by omega) (by omega)) (Below.refl _ _) (fun _ => rfl)
        (PsI w 70) (PsX w) (PsI.own (by omega)) (PsX.own (by omega)) hI0
        (fun x => { tmps := #[.string s, undef, .pointer (some ⟨w.heap.size, 0, none⟩), .pointer (some ⟨w.heap.size + 1, 0, none⟩), .pointer (some ⟨w.heap.size + 1 + 1, 0, none⟩), .pointer (some ⟨w.heap.size + 1 + 1 + 1, 0, none⟩), .int .i64 x.1.1, .string x.1.2, undef, undef, undef, .string s, .int .i64 (s.size : Int), .bool false, .string s, .bool false, .string s, .func (.func 83) #[] #[.pointer (some ⟨w.heap.size + 1 + 1 + 1 + 1, 0, none⟩), .pointer (some ⟨w.heap.size + 1 + 1 + 1 + 1 + 1, 0, none⟩)], .int .i64 x.1.1, .string x.1.2, undef, undef, undef, undef, undef, undef, undef, undef, undef, undef, undef, undef, undef, undef, undef, undef, undef, undef, undef, undef, undef, undef, undef], defers := [] }) ?assign ?body ?done ?stop
      case assign =>
        intro l x W K hK
        have ez : ∀ T : Array Value, (#[18, 19].zip (Sk.pe x)).foldl (fun (t : Array Value) (x : Nat × Value) => t.setIfInBounds x.1 x.2) T = (T.setIfInBounds 18 (.int .i64 x.1.1)).setIfInBounds 19 (.string x.1.2) := fun T => by simp [Sk.pe]
        simp only [ez]
        gi_wp2
        exact hK
      case body =>
        rintro lp pre x W hI -
        obtain ⟨⟨L, v, hrun, hLl, hK, hX⟩, hRa, hRb, hRc, hB, hz6⟩ := hI
        obtain ⟨va, vc, rfl⟩ := hK.form
        have HNx := Lib.hid (PsI.next (x := x) hrun)
        have hpz : x.1.2.size ≤ 4096 := x.2.2.2
        have HPV : Hid (Sk.pv x = (x.1.1, x.1.2.data.toList)) := Lib.hid rfl
        have HK := Lib.hid hK
        have HX := Lib.hid hX
        have HRa := Lib.hid hRa
        have HRb := Lib.hid hRb
        have HRc := Lib.hid hRc
        have HB := Lib.hid hB
        have hd : 1 ≤ 9 - 1 - 1 := by omega
        obtain ⟨i0, hi0, hzi0, hzi1, hzi2⟩ := info_stp
        clear hrun hK hRa hRb hRc hB hI0 hm1 hTs hTp hm0 hX
        generalize x.1.2 = p at *
        generalize x.1.1 = at0 at *
        obtain ⟨q0, q1, q2⟩ := HX.out
        by_cases h64 : L.length = 64
        · have HNo : Hid (∀ rest, Sk.ro ((pre ++ [x]).map Sk.pv ++ rest) [] = ([], at0, 5)) := Lib.hid (fun rest => by rw [HNx.out, Sk.ro_many h64, HPV.out])
          have h64' : ((L.length : Int) == 64) = true := by rw [h64]; rfl
          obtain ⟨c0, c1, c2⟩ := HRa.out
          obtain ⟨d0, d1, d2⟩ := HRb.out
          obtain ⟨e0, e1, e2⟩ := HRc.out
          clear HNx HPV
          gi_wp2
          exact PsX.mk HRa.out HRb.out HRc.out HB.out (Below.refl _ _) HNo.out _
        have h64' : ((L.length : Int) == 64) = false := by rw [beq_eq_false_iff_ne]; omega
        have h64n : (L.length == 64) = false := by rw [beq_eq_false_iff_ne]; omega
        cases hrd : Sk.rdP p.data.toList with
        | none =>
          have HNo : Hid (∀ rest, Sk.ro ((pre ++ [x]).map Sk.pv ++ rest) [] = ([], at0, 4)) := Lib.hid (fun rest => by rw [HNx.out, Sk.ro_form h64 (by rw [HPV.out]; exact hrd), HPV.out])
          have CR := fun V (h : StQ V) => Lib.hid (rdP_no p V h hpz hrd)
          clear HNx HPV hrd
          gi_wp2_with (refine ⟨trivial, ?_⟩; gi_at_call 53; refine (CallsIn.inRound lp (callsIn_wide.2 (CR _ (HST.out.step HB.out)).out)).mono ?_; rintro e W1 ⟨ao, k1, cap, n1, rfl, hb1⟩; have HB1 := Lib.hid hb1; clear CR hb1; have HA1 := Lib.hid (HB1.out.alloc HB1.out.size (.cells #[.slice ao k1 cap, .int .i64 n1] 70)); obtain ⟨c0, c1, c2⟩ := HRa.out.step HA1.out; obtain ⟨d0, d1, d2⟩ := HRb.out.step HA1.out; obtain ⟨e0, e1, e2⟩ := HRc.out.step HA1.out)
          exact PsX.mk HRa.out HRb.out HRc.out HB.out (HB1.out.alloc HB1.out.size _) HNo.out _
        | some y =>
          obtain ⟨l, n⟩ := y
          have CR := fun V (h : StQ V) => Lib.hid (rdP_yes p l n V h hpz hrd)
          have CS := fun v V (h : SeeK V v l) => Lib.hid (sStp_any v l n V h)
          by_cases hch : Sk.chkP l n = 0
          · have HNo : Hid (∀ rest, Sk.ro ((pre ++ [x]).map Sk.pv ++ rest) [] = Sk.ro rest (L ++ [(l, n)])) := Lib.hid (fun rest => by rw [HNx.out, Sk.ro_on h64 (by rw [HPV.out]; exact hrd) hch])
            rw [hch] at CS
            clear HNx HPV hrd hch
            gi_wp2_with first
              | (refine ⟨trivial, ?_⟩; gi_at_call 53; refine (CallsIn.inRound lp (callsIn_wide.2 (CR _ (HST.out.step HB.out)).out)).mono ?_; rintro e W1 ⟨ao, cap, rfl, hs1, hf1, hl1, hb1⟩; have HB1 := Lib.hid hb1; have HS1 := Lib.hid hs1; have HF1 := Lib.hid hf1; have HL1 := Lib.hid (fun r e => Nat.lt_of_lt_of_le (hl1 r e) (show W1.heap.size ≤ W1.heap.size from Nat.le_refl _)); clear CR hb1 hs1 hf1 hl1)
              | (refine ⟨trivial, ?_⟩; gi_at_call 54; refine (CallsIn.inRound lp (callsIn_wide.2 (CS _ _ (HS1.out.step (allocB _ _))).out)).mono ?_; rintro e W2 ⟨rfl, hb2⟩; have HB2 := Lib.hid (below_nxt (HB1.out.alloc HB1.out.size _) hb2); have HS2 := Lib.hid ((HS1.out.step (allocB _ _)).step hb2); have HP2 := Lib.hid ((boxP_new W1 (.slice ao l.length cap) (.int .i64 n) 70).1.step hb2); have HZ2 := Lib.hid (show W1.heap.size ≤ W2.heap.size from (by have := hb2.size; simp at this; omega)); clear CS hb2; obtain ⟨c0, c1, c2⟩ := HRa.out.step HB2.out; obtain ⟨d0, d1, d2⟩ := HRb.out.step HB2.out; obtain ⟨e0, e1, e2⟩ := HRc.out.step HB2.out; obtain ⟨g0, g1, g2⟩ := HX.out.step HB2.out; obtain ⟨p0, p1, p2⟩ := HP2.out; have HK2 := Lib.hid (HK.out.step HB2.out))
              | (gi_at_builtin; refine wpListIn_append_stp rfl _ _ 23 rfl 70 i0 Tryd.underlying23 hi0 hzi0 hzi1 hzi2 _ L l n (.slice ao l.length cap) W2.heap.size rfl rfl (w.heap.size + 6) (HK2.out.step (allocB _ _)) (by simp) (by simp) (HS2.out.step (allocB _ _)) (fun r e => ⟨Nat.le_trans hz6 (HF1.out r e), Nat.lt_of_lt_of_le (HL1.out r e) (by have := HZ2.out; simp; omega), fun e' => (by have := (HK.out.lt r e').2; have := HF1.out r e; omega)⟩) (by omega) (by have := HB2.out.size; simp; omega) ?_; intro a5 p5 w5 hr5 hg5 hb5; have HX5 := Lib.hid (((HX.out.step HB2.out).step (allocB _ _)).grown hg5 (fun r e => by have := (HK2.out.lt r e).1; omega)); have HR5 := Lib.hid hr5; have HG5 := Lib.hid hg5; clear hr5 hg5 hb5; obtain ⟨s0, s1, s2⟩ := HX5.out)
            exact PsI.stp HK.out HRa.out HRb.out HRc.out HX.out HB.out hz6 (HB2.out.alloc HB2.out.size _) HG5.out HR5.out HNo.out (by omega) _
          · have HNo : Hid (∀ rest, Sk.ro ((pre ++ [x]).map Sk.pv ++ rest) [] = ([], at0, Sk.chkP l n)) := Lib.hid (fun rest => by rw [HNx.out, Sk.ro_bad h64 (by rw [HPV.out]; exact hrd) hch, HPV.out])
            have hcht : (Sk.chkP l n == 0) = false := by rw [beq_eq_false_iff_ne]; exact hch
            clear HNx HPV hrd hch
            generalize Sk.chkP l n = cc at *
            gi_wp2_with first
              | (refine ⟨trivial, ?_⟩; gi_at_call 53; refine (CallsIn.inRound lp (callsIn_wide.2 (CR _ (HST.out.step HB.out)).out)).mono ?_; rintro e W1 ⟨ao, cap, rfl, hs1, hf1, hl1, hb1⟩; have HB1 := Lib.hid hb1; have HS1 := Lib.hid hs1; have HF1 := Lib.hid hf1; have HL1 := Lib.hid (fun r e => Nat.lt_of_lt_of_le (hl1 r e) (show W1.heap.size ≤ W1.heap.size from Nat.le_refl _)); clear CR hb1 hs1 hf1 hl1)
              | (refine ⟨trivial, ?_⟩; gi_at_call 54; refine (CallsIn.inRound lp (callsIn_wide.2 (CS _ _ (HS1.out.step (allocB _ _))).out)).mono ?_; rintro e W2 ⟨rfl, hb2⟩; have HB2 := Lib.hid (below_nxt (HB1.out.alloc HB1.out.size _) hb2); have HS2 := Lib.hid ((HS1.out.step (allocB _ _)).step hb2); have HP2 := Lib.hid ((boxP_new W1 (.slice ao l.length cap) (.int .i64 n) 70).1.step hb2); have HZ2 := Lib.hid (show W1.heap.size ≤ W2.heap.size from (by have := hb2.size; simp at this; omega)); clear CS hb2; obtain ⟨c0, c1, c2⟩ := HRa.out.step HB2.out; obtain ⟨d0, d1, d2⟩ := HRb.out.step HB2.out; obtain ⟨e0, e1, e2⟩ := HRc.out.step HB2.out; obtain ⟨g0, g1, g2⟩ := HX.out.step HB2.out; obtain ⟨p0, p1, p2⟩ := HP2.out; have HK2 := Lib.hid (HK.out.step HB2.out))
            exact PsX.mk HRa.out HRb.out HRc.out HB.out HB2.out HNo.out _
      case done =>
        rintro D ys W hD hS ⟨⟨L, u, hrun, hLl, hK, hX⟩, hRa, hRb, hRc, hB, hz6⟩ hK0
        obtain ⟨ua, uc, hu⟩ := hK.form
        have hrd : Sk.ro (Sk.prts s.data.toList [59, 32]) [] = (L, 0, 0) := by
          have := hrun []
          rw [List.append_nil, hS] at this
          exact this
        rw [hrd]
        subst hu
        have hRa0 := hRa
        have hRb0 := hRb
        have hRc0 := hRc
        obtain ⟨q0, q1, q2⟩ := hX
        obtain ⟨c0, c1, c2⟩ := hRa
        obtain ⟨d0, d1, d2⟩ := hRb
        obtain ⟨e0, e1, e2⟩ := hRc
        gi_wp2
        obtain ⟨u, hu⟩ : ∃ u, u = Value.slice ua L.length uc := ⟨_, rfl⟩
        rw [← hu] at hK ⊢
        have hRa' := (((hRa0.set u).other (k := w.heap.size + 1) (o := 0) (by omega) (.int .i64 0)).other (k := w.heap.size + 2) (o := 0) (by omega) (.int .i64 0))
        have hRb' := (((hRb0.other (k := w.heap.size) (o := 0) (by omega) u).set (.int .i64 0)).other (k := w.heap.size + 2) (o := 0) (by omega) (.int .i64 0))
        have hRc' := (((hRc0.other (k := w.heap.size) (o := 0) (by omega) u).other (k := w.heap.size + 1) (o := 0) (by omega) (.int .i64 0)).set (.int .i64 0))
        have hKK := ((hK.set (a := ⟨w.heap.size, 0, none⟩) (by show w.heap.size < w.heap.size + 6; omega) u).set (a := ⟨w.heap.size + 1, 0, none⟩) (by show w.heap.size + 1 < w.heap.size + 6; omega) (.int .i64 0)).set (a := ⟨w.heap.size + 2, 0, none⟩) (by show w.heap.size + 2 < w.heap.size + 6; omega) (.int .i64 0)
        have hBB := ((hB.setCell (p := ⟨w.heap.size, 0, none⟩) (by simp) u).setCell (p := ⟨w.heap.size + 1, 0, none⟩) (by simp) (.int .i64 0)).setCell (p := ⟨w.heap.size + 2, 0, none⟩) (by simp) (.int .i64 0)
        have hK' := (((KeepsOthers.setCell W ⟨w.heap.size, 0, none⟩ u).trans (KeepsOthers.setCell _ ⟨w.heap.size + 1, 0, none⟩ (.int .i64 0))).trans (KeepsOthers.setCell _ ⟨w.heap.size + 2, 0, none⟩ (.int .i64 0))).same D _ hK0 rfl
        generalize ((W.setCell ⟨w.heap.size, 0, none⟩ u).setCell ⟨w.heap.size + 1, 0, none⟩ (.int .i64 0)).setCell ⟨w.heap.size + 2, 0, none⟩ (.int .i64 0) = W' at *
        refine ⟨by simp, .inl ⟨_, _, rfl, run_takeDeferred hK', ?_⟩⟩
        have hg := grownBy_putObj' W' D (.deferred none)
        have hr : ∀ r, some D = some r → ∃ o : Obj, W'.heap[r]? = some o ∧ o.isCells = false := fun r e => by cases e; exact ⟨_, hK', rfl⟩
        obtain ⟨-, f1, -⟩ := hRa'.kept hg hr
        obtain ⟨-, f2, -⟩ := hRb'.kept hg hr
        obtain ⟨-, f3, -⟩ := hRc'.kept hg hr
        have hse := (hKK.kept hg hr).weak (B' := w.heap.size) (by omega)
        rw [hu] at f1 hse
        refine ⟨.tuple #[.slice ua L.length uc, .int .i64 0, .int .i64 0], ?_, ⟨ua, uc, rfl, hse, hBB.trans (belowK_b (w := w) (Nat.le_refl _) W' D _ _ (by omega) hK' rfl rfl)⟩⟩
        simp [results, Tryd.f12, go_sem, f1, f2, f3]
      case stop =>
        rintro D c pre W hD ⟨rest, hpre⟩ ⟨rfl, k, m, hno, hRa, hRb, hRc, hB⟩ hK0
        have hrd : Sk.ro (Sk.prts s.data.toList [59, 32]) [] = ([], k, m) := by
          have hpre' : Sk.prts s.data.toList [59, 32] = pre.map Sk.pv ++ rest := hpre
          rw [hpre']; exact hno rest
        rw [hrd]
        gi_wp2
        refine ⟨by simp, .inl ⟨_, _, rfl, run_takeDeferred hK0, ?_⟩⟩
        have hg := grownBy_putObj' W D (.deferred none)
        have hr : ∀ r, some D = some r → ∃ o : Obj, W.heap[r]? = some o ∧ o.isCells = false := fun r e => by cases e; exact ⟨_, hK0, rfl⟩
        obtain ⟨-, f1, -⟩ := hRa.kept hg hr
        obtain ⟨-, f2, -⟩ := hRb.kept hg hr
        obtain ⟨-, f3, -⟩ := hRc.kept hg hr
        refine ⟨.tuple #[.slice none 0 0, .int .i64 k, .int .i64 m], ?_, ⟨none, 0, rfl, RowT.nil _ _ _, hB.trans (belowK_b (w := w) (Nat.le_refl _) W D _ _ (by omega) hK0 rfl rfl)⟩⟩
        simp [results, Tryd.f12, go_sem, f1, f2, f3]
end Go.Proofs.YtjpbccpleflkhaaDoor

namespace Sk
open Go
theorem cut_none {r sep : List UInt8} (h : (Lib.cut r sep).2.2 = false) : (Lib.cut r sep).1 = r := by
  unfold Lib.cut at h ⊢
  by_cases h0 : 0 ≤ Lib.index r sep
  · rw [if_pos h0] at h; cases h
  · rw [if_neg h0]
theorem cut_split {r sep : List UInt8} (h : (Lib.cut r sep).2.2 = true) : r = (Lib.cut r sep).1 ++ (sep ++ r.drop ((Lib.cut r sep).1.length + sep.length)) := by
  unfold Lib.cut at h ⊢
  by_cases h0 : 0 ≤ Lib.index r sep
  · rw [if_pos h0]
    rcases Lib.index_spec r sep with ⟨h1, _⟩ | ⟨i, h1, h2, h3, _⟩
    · omega
    · rw [h1]
      simp only [Int.toNat_natCast]
      have hl : (r.take i).length = i := by rw [List.length_take]; omega
      rw [hl]
      unfold Lib.occAt at h3
      rw [List.isPrefixOf_iff_prefix] at h3
      obtain ⟨t, ht⟩ := h3
      have e2 : r.drop (i + sep.length) = t := by
        rw [← List.drop_drop, ← ht]; simp
      rw [e2, ht, List.take_append_drop]
  · rw [if_neg h0] at h; cases h
/-- What is cut is joined again. -/
theorem join_prt (l sep : List UInt8) (hs : 0 < sep.length) : ∀ f a : Nat, l.length + 1 ≤ f + a → a ≤ l.length → Lib.join ((prt l sep f a).map (·.2)) sep = l.drop a
  | 0, a, h, h' => by omega
  | f + 1, a, h, h' => by
    rw [prt]
    cases hc : (Lib.cut (l.drop a) sep).2.2 with
    | false =>
      have h1 := cut_none hc
      simp [Lib.join_one, h1]
    | true =>
      have h1 := cut_split hc
      have h2 := cut_room hc
      rw [List.length_drop] at h2
      have ih := join_prt l sep hs f (a + ((Lib.cut (l.drop a) sep).1.length + sep.length)) (by omega) (by omega)
      rw [if_pos rfl, List.map_cons]
      generalize hr : (prt l sep f (a + ((Lib.cut (l.drop a) sep).1.length + sep.length))).map (·.2) = r at *
      have hne : r ≠ [] := by
        obtain ⟨g, rfl⟩ : ∃ g, f = g + 1 := ⟨f - 1, by omega⟩
        rw [prt] at hr
        rw [← hr]; simp
      obtain ⟨y, r', rfl⟩ := List.exists_cons_of_ne_nil hne
      rw [Lib.join_cons] at ih ⊢
      have e : Lib.joinTail sep (y :: r') = sep ++ (y ++ Lib.joinTail sep r') := by simp [Lib.joinTail]
      rw [e, ih]
      rw [List.drop_drop] at h1
      exact h1.symm
theorem join_prts (l sep : List UInt8) (hs : 0 < sep.length) : Lib.join ((prts l sep).map (·.2)) sep = l := by
  unfold prts
  rw [join_prt l sep hs _ 0 (by omega) (by omega)]; rfl
theorem occ_not {x t : List UInt8} {c : UInt8} {tl : List UInt8} {j : Nat} (hj : j < x.length) (hx : c ∉ x) : Lib.occAt (x ++ t) (c :: tl) j = false := by
  unfold Lib.occAt
  rw [List.drop_append_of_le_length (by omega), List.drop_eq_getElem_cons hj]
  have : x[j] ≠ c := fun e => hx (e ▸ List.getElem_mem hj)
  rw [List.cons_append, List.isPrefixOf]
  simp [Ne.symm this]
theorem cut_hit {x t : List UInt8} {c : UInt8} {tl : List UInt8} (hx : c ∉ x) : Lib.cut (x ++ ((c :: tl) ++ t)) (c :: tl) = (x, t, true) := by
  have hi : Lib.index (x ++ ((c :: tl) ++ t)) (c :: tl) = x.length := Lib.index_first (by simp) (by
    unfold Lib.occAt
    rw [List.drop_append_of_le_length (Nat.le_refl _), List.drop_length, List.nil_append, List.isPrefixOf_iff_prefix]
    exact List.prefix_append _ _) (fun j hj => occ_not hj hx)
  unfold Lib.cut
  rw [hi, if_pos (by omega)]
  simp
theorem cut_miss {x : List UInt8} {c : UInt8} {tl : List UInt8} (hx : c ∉ x) : Lib.cut x (c :: tl) = (x, [], false) := by
  have hi : Lib.index x (c :: tl) = -1 := Lib.index_none (fun j hj => by
    by_cases h : j < x.length
    · have := occ_not (t := []) (tl := tl) h hx
      rw [List.append_nil] at this; exact this
    · unfold Lib.occAt
      rw [List.drop_eq_nil_of_le (by omega)]; rfl)
  unfold Lib.cut
  rw [hi, if_neg (by decide)]
/-- What is joined is cut again. -/
theorem prt_join {c : UInt8} {tl : List UInt8} (l : List UInt8) : ∀ (r : List (List UInt8)) (x : List UInt8) (f a : Nat), (∀ y ∈ x :: r, c ∉ y) → l.drop a = Lib.join (x :: r) (c :: tl) → r.length + 1 ≤ f → (prt l (c :: tl) f a).map (·.2) = x :: r
  | r, x, 0, a, _, _, hf => by omega
  | [], x, f + 1, a, hx, hd, hf => by
    rw [Lib.join_one] at hd
    rw [prt, hd, cut_miss (hx x (by simp))]; simp
  | y :: r, x, f + 1, a, hx, hd, hf => by
    have e : Lib.join (x :: y :: r) (c :: tl) = x ++ ((c :: tl) ++ Lib.join (y :: r) (c :: tl)) := by
      rw [Lib.join_cons, Lib.join_cons]; simp [Lib.joinTail]
    rw [e] at hd
    have hd2 : l.drop (a + (x.length + (c :: tl).length)) = Lib.join (y :: r) (c :: tl) := by
      rw [← List.drop_drop, hd, ← List.drop_drop]; simp
    rw [prt, hd, cut_hit (hx x (by simp)), if_pos rfl, List.map_cons]
    rw [prt_join l r y f _ (fun z hz => hx z (by simp at hz ⊢; exact .inr hz)) hd2 (by simp at hf ⊢; omega)]
end Sk

namespace Sk
open Go
theorem join_snoc (r : List (List UInt8)) (x sep : List UInt8) : Lib.join (r ++ [x]) sep = if r.length = 0 then x else (Lib.join r sep ++ sep) ++ x := by
  cases r with
  | nil =>
    show Lib.join [x] sep = _
    rw [Lib.join_one]; rfl
  | cons y r =>
    rw [if_neg (by simp), List.cons_append, Lib.join_cons, Lib.join_cons]
    simp [Lib.joinTail]
theorem ln_take {l : List Str} {i : Nat} (hi : i < l.length) : lnT (l.take (i + 1)) = if i = 0 then strT (l.getD i d0) else (lnT (l.take i) ++ [32]) ++ strT (l.getD i d0) := by
  unfold lnT
  rw [take_map strT d0 hi, join_snoc]
  have : ((l.take i).map strT).length = i := by simp; omega
  rw [this]
theorem fm_take {L : List Stp} {i : Nat} (hi : i < L.length) : fmtT (L.take (i + 1)) = if i = 0 then stpT (L.getD i t0) else (fmtT (L.take i) ++ [59, 32]) ++ stpT (L.getD i t0) := by
  unfold fmtT
  rw [take_map stpT t0 hi, join_snoc]
  have : ((L.take i).map stpT).length = i := by simp; omega
  rw [this]
theorem lnT_take_len {l : List Str} (h : l.length ≤ 6) (i : Nat) : (lnT (l.take i)).length ≤ 18 := lnT_len (by rw [List.length_take]; omega)
theorem fmT_take_len {L : List Stp} (h : chkF L = 0) (hl : L.length ≤ 64) (i : Nat) : (fmtT (L.take i)).length ≤ 1792 :=
  fmtT_len (chkF_of (fun j hj => by
    rw [List.length_take] at hj
    have : (L.take i).getD j t0 = L.getD j t0 := by rw [List.getD_eq_getElem?_getD, List.getD_eq_getElem?_getD, List.getElem?_take, if_pos (by omega)]
    rw [this]; exact chkF_at h (by omega))) (by rw [List.length_take]; omega)
end Sk
namespace Go.Proofs.YtjpbccpleflkhaaDoor
open Go.RowKit
end Go.Proofs.YtjpbccpleflkhaaDoor

namespace Sk
open Go
theorem rdS_strT {k : Nat} {o : Bool} (hk : k < 6) : rdS (strT ((k : Int), o)) = some ((k : Int), o) := by
  rcases (show k = 0 ∨ k = 1 ∨ k = 2 ∨ k = 3 ∨ k = 4 ∨ k = 5 by omega) with rfl | rfl | rfl | rfl | rfl | rfl <;> cases o <;> decide
theorem strT_rdS {p : List UInt8} {y : Str} (h : rdS p = some y) : strT y = p := by
  unfold rdS at h
  split at h
  · rename_i a b
    split at h
    · rename_i hab
      obtain ⟨h1, h2, h3⟩ := hab
      cases h
      unfold strT
      have e : ((a.toNat : Int) - 65).toNat = a.toNat - 65 := by omega
      simp only [e]
      have e2 : (65 + (a.toNat - 65)).toUInt8 = a := by
        rw [show 65 + (a.toNat - 65) = a.toNat by omega]; simp
      rw [e2]
      rcases h3 with rfl | rfl <;> rfl
    · cases h
  · cases h
theorem rdS_dig {p : List UInt8} (h : p.all Fr.isDig = true) : rdS p = none := by
  unfold rdS
  split
  · rename_i a b
    have ha : Fr.isDig a = true := by simp at h; exact h.1
    unfold Fr.isDig at ha
    rw [Bool.and_eq_true, decide_eq_true_iff, decide_eq_true_iff] at ha
    rw [if_neg]
    rintro ⟨h1, h2, _⟩
    have h3 := ha.2
    omega
  · rfl
theorem wtV_render {n : Nat} (h0 : n ≠ 0) (h : n ≤ 1000000) : wtV (Fr.render n) = ((n : Int), true) := by
  unfold wtV
  rw [Tm.numOk_render h, Fr.dv_render, Bool.true_and, if_pos (by simpa using h0)]
theorem render_wtV {p : List UInt8} (h : (wtV p).2 = true) : Fr.render (wtV p).1.toNat = p ∧ (wtV p).1 ≠ 0 ∧ p.all Fr.isDig = true := by
  unfold wtV at h ⊢
  by_cases hc : (Tm.numOk p && decide (Fr.dv p ≠ 0)) = true
  · rw [if_pos hc]
    rw [Bool.and_eq_true, decide_eq_true_iff] at hc
    exact ⟨by simpa using Tm.numOk_back hc.1, by simpa using hc.2, (Tm.numOk_all hc.1).1⟩
  · rw [if_neg hc] at h; cases h
/-- The parts of a step. -/
def wrd (x : Stp) : List (List UInt8) := x.1.map strT ++ (if x.2 = 0 then [] else [Fr.render x.2.toNat])
theorem stpT_join {x : Stp} (h : x.1.length ≠ 0) : stpT x = Lib.join (wrd x) [32] := by
  unfold stpT wrd lnT
  by_cases h0 : x.2 = 0
  · rw [if_pos h0, if_pos h0, List.append_nil, List.append_nil]
  · rw [if_neg h0, if_neg h0, join_snoc, if_neg (by simpa using h), List.append_assoc]; rfl
/-- readStep over the texts of the parts. -/
def runL : List (List UInt8) → List Str × Int → Option (List Str × Int)
  | [], st => some st
  | p :: r, st => (stp1 st p).bind (runL r)
theorem runP_map : ∀ (ps : List (Int × List UInt8)) (st : List Str × Int), runP ps st = runL (ps.map (·.2)) st
  | [], _ => rfl
  | p :: r, st => by
    rw [runP, List.map_cons, runL]
    congr 1
    funext s
    exact runP_map r s
theorem runL_strs : ∀ (l : List Str) (L : List Str) (r : List (List UInt8)), (∀ y ∈ l, 0 ≤ y.1 ∧ y.1 < 6) → runL (l.map strT ++ r) (L, 0) = runL r (L ++ l, 0)
  | [], L, r, _ => by simp
  | y :: l, L, r, h => by
    obtain ⟨h1, h2⟩ := h y (by simp)
    obtain ⟨a, o⟩ := y
    obtain ⟨k, rfl⟩ := Int.eq_ofNat_of_zero_le h1
    have hs : stp1 (L, 0) (strT ((k : Int), o)) = some (L ++ [((k : Int), o)], 0) := stp1_str (rdS_strT (by simp only at h2; omega))
    rw [List.map_cons, List.cons_append, runL, hs, Option.bind_some, runL_strs l _ r (fun z hz => h z (by simp [hz])), List.append_assoc]; rfl
theorem runL_back : ∀ (ps : List (List UInt8)) (L M : List Str) (m : Int), runL ps (L, 0) = some (M, m) → ∃ l, M = L ++ l ∧ ps = l.map strT ++ (if m = 0 then [] else [Fr.render m.toNat])
  | [], L, M, m, h => by
    rw [runL] at h
    cases h
    exact ⟨[], by simp, rfl⟩
  | p :: r, L, M, m, h => by
    rw [runL] at h
    cases hr : rdS p with
    | some y =>
      rw [stp1_str hr, Option.bind_some] at h
      obtain ⟨l, h1, h2⟩ := runL_back r _ M m h
      exact ⟨y :: l, by rw [h1, List.append_assoc]; rfl, by rw [h2, List.map_cons, strT_rdS hr]; rfl⟩
    | none =>
      by_cases hw : (wtV p).2 = true ∧ L.length ≠ 0
      · rw [stp1_num hr hw.1 hw.2, Option.bind_some] at h
        obtain ⟨g1, g2, g3⟩ := render_wtV hw.1
        cases r with
        | nil =>
          rw [runL] at h
          cases h
          exact ⟨[], by simp, by rw [if_neg g2, g1]; rfl⟩
        | cons q r =>
          rw [runL, stp1_wait g2] at h
          cases h
      · have hno : stp1 (L, 0) p = none := stp1_no hr (by
          by_cases h1 : (wtV p).2 = true
          · exact .inr (Decidable.byContradiction (fun h2 => hw ⟨h1, h2⟩))
          · exact .inl (by simpa using h1))
        rw [hno] at h
        cases h
theorem no_strT {c : UInt8} (hc : c = 32 ∨ c = 59) {y : Str} (h : 0 ≤ y.1 ∧ y.1 < 6) : c ∉ strT y := by
  obtain ⟨a, o⟩ := y
  obtain ⟨k, rfl⟩ := Int.eq_ofNat_of_zero_le h.1
  have hk : k < 6 := by have := h.2; simp only at this; omega
  rcases hc with rfl | rfl <;> rcases (show k = 0 ∨ k = 1 ∨ k = 2 ∨ k = 3 ∨ k = 4 ∨ k = 5 by omega) with rfl | rfl | rfl | rfl | rfl | rfl <;> cases o <;> decide
theorem no_dig {c : UInt8} (hc : c = 32 ∨ c = 59) {p : List UInt8} (h : p.all Fr.isDig = true) : c ∉ p := by
  intro hm
  have := List.all_eq_true.1 h c hm
  rcases hc with rfl | rfl <;> revert this <;> decide
theorem act_mem {l : List Str} (h : RtL l) : ∀ y ∈ l, 0 ≤ y.1 ∧ y.1 < 6 := by
  intro y hy
  obtain ⟨i, hi, rfl⟩ := List.mem_iff_getElem.1 hy
  have := h.act i hi
  rw [List.getD_eq_getElem?_getD, List.getElem?_eq_getElem hi] at this
  exact this
theorem no_wrd {c : UInt8} (hc : c = 32 ∨ c = 59) {x : Stp} (h : RtL x.1) : ∀ p ∈ wrd x, c ∉ p := by
  intro p hp
  unfold wrd at hp
  rcases List.mem_append.1 hp with hp | hp
  · obtain ⟨y, hy, rfl⟩ := List.mem_map.1 hp
    exact no_strT hc (act_mem h y hy)
  · by_cases h0 : x.2 = 0
    · rw [if_pos h0] at hp; simp at hp
    · rw [if_neg h0] at hp
      simp at hp
      subst hp
      exact no_dig hc (Fr.render_all _)
/-- The text of a right step is read back. -/
theorem rdP_stpT {x : Stp} (hc : chkP x.1 x.2 = 0) : rdP (stpT x) = some x := by
  obtain ⟨hR, h0, h1⟩ := chkP_ok hc
  have hne : x.1.length ≠ 0 := by have := hR.pos; omega
  unfold rdP prts
  rw [runP_map]
  have hw : wrd x ≠ [] := by
    unfold wrd
    intro h
    have := (List.append_eq_nil_iff.1 h).1
    simp at this
    exact hne (by rw [this]; rfl)
  obtain ⟨p, r, hpr⟩ := List.exists_cons_of_ne_nil hw
  have hj := stpT_join hne
  rw [hpr] at hj
  have hcut : (prt (stpT x) [32] ((stpT x).length + 1) 0).map (·.2) = p :: r := prt_join (stpT x) r p _ 0 (by rw [← hpr]; exact no_wrd (.inl rfl) hR) (by rw [List.drop_zero]; exact hj) (by
    rw [hj, Lib.join_cons, List.length_append]
    have : r.length ≤ (Lib.joinTail [32] r).length := by
      clear hj hpr
      induction r with
      | nil => simp
      | cons y r ih =>
        have e : Lib.joinTail [32] (y :: r) = [32] ++ (y ++ Lib.joinTail [32] r) := by simp [Lib.joinTail]
        rw [e]; simp; omega
    omega)
  rw [hcut, ← hpr]
  unfold wrd
  rw [runL_strs x.1 [] _ (act_mem hR), List.nil_append]
  obtain ⟨l, n⟩ := x
  simp only at *
  by_cases hn : n = 0
  · subst hn; rw [if_pos rfl]; rfl
  · rw [if_neg hn]
    obtain ⟨m, rfl⟩ := Int.eq_ofNat_of_zero_le h0
    have hm : wtV (Fr.render m) = ((m : Int), true) := wtV_render (by omega) (by omega)
    have hs : stp1 (l, 0) (Fr.render m) = some (l, (m : Int)) := by
      rw [stp1_num (rdS_dig (Fr.render_all m)) (by rw [hm]) hne, hm]
    rw [show ((m : Int).toNat) = m from Int.toNat_natCast m, runL, hs]; rfl
/-- What was read as a right step is its text. -/
theorem stpT_rdP {p : List UInt8} {x : Stp} (h : rdP p = some x) (hc : chkP x.1 x.2 = 0) : stpT x = p := by
  obtain ⟨hR, h0, h1⟩ := chkP_ok hc
  have hne : x.1.length ≠ 0 := by have := hR.pos; omega
  unfold rdP at h
  rw [runP_map] at h
  obtain ⟨l, n⟩ := x
  obtain ⟨l', e1, e2⟩ := runL_back _ [] l n h
  rw [List.nil_append] at e1
  subst e1
  rw [stpT_join hne]
  have hj := join_prts p [32] (by decide)
  rw [e2] at hj
  exact hj
end Sk

namespace Sk
open Go
theorem no_tail {c : UInt8} {sep : List UInt8} (hs : c ∉ sep) : ∀ r : List (List UInt8), (∀ p ∈ r, c ∉ p) → c ∉ Lib.joinTail sep r
  | [], _ => by simp [Lib.joinTail]
  | y :: r, h => by
    have e : Lib.joinTail sep (y :: r) = sep ++ (y ++ Lib.joinTail sep r) := by simp [Lib.joinTail]
    rw [e]
    intro hm
    rcases List.mem_append.1 hm with hm | hm
    · exact hs hm
    · rcases List.mem_append.1 hm with hm | hm
      · exact h y (by simp) hm
      · exact no_tail hs r (fun p hp => h p (by simp [hp])) hm
theorem no_join {c : UInt8} {sep : List UInt8} (hs : c ∉ sep) : ∀ r : List (List UInt8), (∀ p ∈ r, c ∉ p) → c ∉ Lib.join r sep
  | [], _ => by rw [Lib.join_nil]; simp
  | y :: r, h => by
    rw [Lib.join_cons]
    intro hm
    rcases List.mem_append.1 hm with hm | hm
    · exact h y (by simp) hm
    · exact no_tail hs r (fun p hp => h p (by simp [hp])) hm
theorem no_stpT {x : Stp} (hc : chkP x.1 x.2 = 0) : (59 : UInt8) ∉ stpT x := by
  obtain ⟨hR, -, -⟩ := chkP_ok hc
  rw [stpT_join (by have := hR.pos; omega)]
  exact no_join (by decide) _ (no_wrd (.inr rfl) hR)
theorem tail_len (sep : List UInt8) (hs : 0 < sep.length) : ∀ r : List (List UInt8), r.length ≤ (Lib.joinTail sep r).length
  | [] => by simp
  | y :: r => by
    have e : Lib.joinTail sep (y :: r) = sep ++ (y ++ Lib.joinTail sep r) := by simp [Lib.joinTail]
    have := tail_len sep hs r
    rw [e]; simp; omega
theorem stpT_pos {x : Stp} (h : x.1.length ≠ 0) : 0 < (stpT x).length := by
  obtain ⟨l, n⟩ := x
  cases l with
  | nil => exact absurd rfl h
  | cons y l =>
    unfold stpT lnT
    rw [List.map_cons, Lib.join_cons, List.length_append, List.length_append]
    have : (strT y).length = 2 := rfl
    omega
theorem ro_steps : ∀ (S : List Stp) (ps : List (Int × List UInt8)) (L : List Stp), ps.map (·.2) = S.map stpT → (∀ x ∈ S, chkP x.1 x.2 = 0) → L.length + S.length ≤ 64 → ro ps L = (L ++ S, 0, 0)
  | [], ps, L, h, _, _ => by
    have : ps = [] := by simpa using h
    subst this
    rw [ro, List.append_nil]
  | x :: S, ps, L, h, hc, hl => by
    cases ps with
    | nil => simp at h
    | cons p r =>
      simp only [List.map_cons, List.cons.injEq] at h
      have hx := hc x (by simp)
      have hr : rdP p.2 = some x := by rw [h.1]; exact rdP_stpT hx
      rw [ro_on (by simp at hl; omega) hr hx, ro_steps S r (L ++ [x]) h.2 (fun y hy => hc y (by simp [hy])) (by simp at hl ⊢; omega), List.append_assoc]; rfl
/-- What is written is read back. -/
theorem par_fmt {L : List Stp} (hc : chkF L = 0) (hl : L.length ≤ 64) : parV (fmtT L) = (L, 0, 0) := by
  have hmem : ∀ x ∈ L, chkP x.1 x.2 = 0 := fun x hx => chkF_mem hc hx
  cases L with
  | nil => rfl
  | cons x S =>
    have hx := hmem x (by simp)
    obtain ⟨hR, -, -⟩ := chkP_ok hx
    have h1 := fmtT_len hc hl
    have hp : 0 < (stpT x).length := stpT_pos (by have := hR.pos; omega)
    have hj : fmtT (x :: S) = stpT x ++ Lib.joinTail [59, 32] (S.map stpT) := by unfold fmtT; rw [List.map_cons, Lib.join_cons]
    have h2 : (fmtT (x :: S)).length = (stpT x).length + (Lib.joinTail [59, 32] (S.map stpT)).length := by rw [hj, List.length_append]
    have h3 := tail_len [59, 32] (by decide) (S.map stpT)
    unfold parV
    rw [if_neg (by omega), if_neg (by omega)]
    have hcut : (prts (fmtT (x :: S)) [59, 32]).map (·.2) = (x :: S).map stpT := by
      unfold prts
      rw [List.map_cons]
      exact prt_join (fmtT (x :: S)) (S.map stpT) (stpT x) _ 0 (fun y hy => by
        rw [← List.map_cons] at hy
        obtain ⟨z, hz, rfl⟩ := List.mem_map.1 hy
        exact no_stpT (hmem z hz)) (by rw [List.drop_zero]; unfold fmtT; rw [List.map_cons]) (by omega)
    rw [ro_steps (x :: S) _ [] hcut hmem (by simpa using hl), List.nil_append]
theorem ro_back : ∀ (ps : List (Int × List UInt8)) (L M : List Stp) (k : Int), L.length ≤ 64 → ro ps L = (M, k, 0) → ∃ S, M = L ++ S ∧ ps.map (·.2) = S.map stpT ∧ (∀ x ∈ S, chkP x.1 x.2 = 0) ∧ M.length ≤ 64
  | [], L, M, k, hl, h => by
    rw [ro] at h
    cases h
    exact ⟨[], by simp, rfl, fun x hx => by simp at hx, hl⟩
  | p :: r, L, M, k, hl, h => by
    by_cases h64 : L.length = 64
    · rw [ro_many h64] at h
      simp at h
    · cases hr : rdP p.2 with
      | none => rw [ro_form h64 hr] at h; simp at h
      | some y =>
        by_cases hc : chkP y.1 y.2 = 0
        · rw [ro_on h64 hr hc] at h
          obtain ⟨S, h1, h2, h3, h4⟩ := ro_back r (L ++ [y]) M k (by simp; omega) h
          exact ⟨y :: S, by rw [h1, List.append_assoc]; rfl, by rw [List.map_cons, List.map_cons, h2, stpT_rdP hr hc], fun x hx => by
            rcases List.mem_cons.1 hx with rfl | hx
            · exact hc
            · exact h3 x hx, h4⟩
        · rw [ro_bad h64 hr hc] at h
          simp at h
          exact absurd h.2.2 hc
/-- What is read is written again. -/
theorem fmt_par {t : List UInt8} {M : List Stp} {k : Int} (h : parV t = (M, k, 0)) : fmtV M = (t, 0) := by
  unfold parV at h
  by_cases h1 : 4096 < t.length
  · rw [if_pos h1] at h; simp at h
  rw [if_neg h1] at h
  by_cases h2 : t.length = 0
  · rw [if_pos h2] at h
    have := List.eq_nil_of_length_eq_zero h2
    subst this
    cases h
    rfl
  rw [if_neg h2] at h
  obtain ⟨S, e1, e2, e3, e4⟩ := ro_back _ [] M k (by simp) h
  rw [List.nil_append] at e1
  subst e1
  have hch : chkF M = 0 := chkF_of (fun i hi => by
    have := e3 M[i] (List.getElem_mem hi)
    rw [List.getD_eq_getElem?_getD, List.getElem?_eq_getElem hi]
    exact this)
  have hj := join_prts t [59, 32] (by decide)
  rw [e2] at hj
  unfold fmtV
  rw [if_neg (by omega), if_pos hch]
  unfold fmtT
  rw [hj]
end Sk

namespace Sq
open Sk
theorem par_chk {t : List UInt8} {M : List Stp} {k : Int} (h : parV t = (M, k, 0)) : ∀ x ∈ M, chkP x.1 x.2 = 0 := by
  unfold parV at h
  by_cases h1 : 4096 < t.length
  · rw [if_pos h1] at h; simp at h
  · rw [if_neg h1] at h
    by_cases h2 : t.length = 0
    · rw [if_pos h2] at h
      simp only [Prod.mk.injEq] at h
      rw [← h.1]; intro x hx; simp at hx
    · rw [if_neg h2] at h
      obtain ⟨S, rfl, -, h3, -⟩ := ro_back _ _ _ _ (by simp) h
      exact h3
theorem gre1_rng {l : List Str} (h : RtL l) : ∀ {a : Int}, 0 ≤ a → a < 6 → 0 ≤ gre1 l a ∧ gre1 l a < 6 := by
  have h' := act_mem h
  clear h
  induction l with
  | nil => intro a h0 h6; exact ⟨h0, h6⟩
  | cons x l ih =>
    intro a h0 h6
    have hx := h' x (by simp)
    have e : gre1 (x :: l) a = gre1 l (mx a x.1) := rfl
    rw [e]
    exact ih (fun y hy => h' y (List.mem_cons_of_mem _ hy)) (by unfold mx; split <;> omega) (by unfold mx; split <;> omega)
theorem gre_rng : ∀ {L : List Stp}, (∀ x ∈ L, chkP x.1 x.2 = 0) → ∀ {a : Int}, 0 ≤ a → a < 6 → 0 ≤ gre L a ∧ gre L a < 6
  | [], _, a, h0, h6 => ⟨h0, h6⟩
  | x :: L, h, a, h0, h6 => by
    have hx := gre1_rng (chkP_ok (h x (by simp))).1 h0 h6
    exact gre_rng (L := L) (fun y hy => h y (List.mem_cons_of_mem _ hy)) hx.1 hx.2
/-- What Parse answers. -/
def seqV (t : List UInt8) : (Int × List Stp) × Int × Int :=
  if (parV t).2.2 ≠ 0 then ((0, []), (parV t).2.1, (parV t).2.2) else (if (parV t).1.length = 0 then ((0, []), 0, 13) else
    (if chk (gre (parV t).1 0 + 1) (parV t).1 = 0 then ((gre (parV t).1 0 + 1, (parV t).1), 0, 0) else ((0, []), 0, chk (gre (parV t).1 0 + 1) (parV t).1)))
end Sq
namespace Go.Proofs.YtjpbccpleflkhaaDoor
open Go.RowKit Go.Shelf
attribute [local go_sem] Oper.semAt_some
/-- What Parse leaves. -/
def SeqP (q : (Int × List Sk.Stp) × Int × Int) (w : World) (e : Ending) (w' : World) : Prop := ∃ ao cap, e = .returned (.tuple #[.agg #[.int .i64 q.1.1, .slice ao q.1.2.length cap], .int .i64 q.2.1, .int .i64 q.2.2]) ∧ SeeT w' (.slice ao q.1.2.length cap) q.1.2 ∧ Below w.heap.size w w'
set_option maxHeartbeats 8000000 in
set_option maxRecDepth 100000 in
theorem qPar_any (s : ByteArray) (w : World) (hst : StQ w) : Calls Tryd.prog 42 #[.string s] w (SeqP (Sq.seqV s.data.toList) w) := by
  have HST := Lib.hid hst
  have HR0 := Lib.hid (resP_new w (.int .i64 0) (.slice none 0 0) 32)
  have HB0 := Lib.hid (allocB w (.cells #[.int .i64 0, .slice none 0 0] 32))
  obtain ⟨L, k, m, hp⟩ : ∃ L k m, Sk.parV s.data.toList = (L, k, m) := ⟨_, _, _, rfl⟩
  have C1 : ∀ W, StQ W → Hid (Calls Tryd.prog 12 #[.string s] W fun e w' => ∃ ao cap, e = .returned (.tuple #[.slice ao L.length cap, .int .i64 k, .int .i64 m]) ∧ RowT W.heap.size 70 w' (.slice ao L.length cap) L ∧ Below W.heap.size W w') := fun W h => Lib.hid (by have g := sPar_own s W h; rw [hp] at g; exact g)
  clear hst
  have hv : Sq.seqV s.data.toList = if m ≠ 0 then ((0, []), k, m) else (if L.length = 0 then ((0, []), 0, 13) else (if Sq.chk (Sq.gre L 0 + 1) L = 0 then ((Sq.gre L 0 + 1, L), 0, 0) else ((0, []), 0, Sq.chk (Sq.gre L 0 + 1) L))) := by
    unfold Sq.seqV; rw [hp]
  rw [hv]
  clear hv
  by_cases hm : m = 0
  · subst hm
    rw [if_neg (by simp)]
    have hck := Sq.par_chk hp
    clear hp
    by_cases hl : L.length = 0
    · rw [if_pos hl]
      have hlz : ((L.length : Int) == 0) = true := by rw [hl]; rfl
      obtain ⟨r0, r1, r2, r3, r4⟩ := HR0.out
      go_enter Tryd.func42, Tryd.ntmps42
      go_wp2_with fail
      refine ((C1 _ (HST.out.step HB0.out)).out).mono ?_
      rintro e w1 ⟨ao, cap, rfl, hr1, hb1⟩
      have HB1 := Lib.hid (below_nxt HB0.out hb1)
      have HR1 := Lib.hid (HR0.out.step hb1)
      clear hb1 hr1 r0 r1 r2 r3 r4
      obtain ⟨r0, r1, r2, r3, r4⟩ := HR1.out
      go_wp2
      obtain ⟨-, f1, f2, -, -⟩ := HR1.out.put (.int .i64 0) (.slice none 0 0)
      exact bodyPost_ret (v := .tuple #[.agg #[.int .i64 0, .slice none 0 0], .int .i64 0, .int .i64 13]) (by simp [results, Tryd.f42, go_sem, f1, f2]) rfl ⟨none, 0, rfl, SeeT.nil _, (HB1.out.setCell (p := ⟨w.heap.size, 0, none⟩) (by simp) _).setCell (p := ⟨w.heap.size, 1, none⟩) (by simp) _⟩
    · rw [if_neg hl]
      have hlz : ((L.length : Int) == 0) = false := by rw [beq_eq_false_iff_ne]; omega
      have hgr := Sq.gre_rng hck (a := 0) (by omega) (by omega)
      have CG := fun v W (h : SeeT W v L) => Lib.hid (sGre_any v L W h)
      have CC := fun v W (h : SeeT W v L) => Lib.hid (qChk_any (Sq.gre L 0 + 1) v L W h)
      clear hl hck
      generalize Sq.gre L 0 = G at *
      have hgw : IntKind.i64.wrap (G + 1) = G + 1 := IntWalk.i64_in _ (by omega)
      obtain ⟨g0, g6⟩ := hgr
      generalize Sq.chk (G + 1) L = c at *
      obtain ⟨r0, r1, r2, r3, r4⟩ := HR0.out
      by_cases hc : c = 0
      · rw [if_pos hc]
        subst hc
        go_enter Tryd.func42, Tryd.ntmps42
        go_wp2_with fail
        refine ((C1 _ (HST.out.step HB0.out)).out).mono ?_
        rintro e w1 ⟨ao, cap, rfl, hr1, hb1⟩
        have HB1 := Lib.hid (below_nxt HB0.out hb1)
        have HR1 := Lib.hid (HR0.out.step hb1)
        have HT1 := Lib.hid (hr1.weak (show w.heap.size + 1 ≤ (w.alloc (.cells #[.int .i64 0, .slice none 0 0] 32)).heap.size by simp))
        clear hb1 hr1 r0 r1 r2 r3 r4
        obtain ⟨r0, r1, r2, r3, r4⟩ := HR1.out
        go_wp2_with fail
        refine ((CG _ _ HT1.out.sees).out).mono ?_
        rintro e w2 ⟨rfl, hb2⟩
        have HB2 := Lib.hid (below_nxt HB1.out hb2)
        have HR2 := Lib.hid (HR1.out.step hb2)
        have HT2 := Lib.hid (HT1.out.step hb2)
        clear hb2 r0 r1 r2 r3 r4
        obtain ⟨r0, r1, r2, r3, r4⟩ := HR2.out
        obtain ⟨hq, hqb, -⟩ := boxP_new w2 (.int .i64 (G + 1)) (.slice ao L.length cap) 32
        have HQ := Lib.hid hq
        have HQB := Lib.hid hqb
        clear hq hqb
        go_wp2_with fail
        refine ((CC _ _ (HT2.out.step HQB.out).sees).out).mono ?_
        rintro e w3 ⟨rfl, hb3⟩
        have HB3 := Lib.hid (below_nxt (below_nxt HB2.out HQB.out) hb3)
        have HR3 := Lib.hid ((HR2.out.step HQB.out).step hb3)
        have HT3 := Lib.hid ((HT2.out.step HQB.out).step hb3)
        have HQ3 := Lib.hid (HQ.out.step hb3)
        clear hb3 r0 r1 r2 r3 r4
        obtain ⟨r0, r1, r2, r3, r4⟩ := HR3.out
        obtain ⟨q0, q1, q2⟩ := HQ3.out
        go_wp2
        obtain ⟨-, f1, f2, -, -⟩ := HR3.out.put (.int .i64 (G + 1)) (.slice ao L.length cap)
        exact bodyPost_ret (v := .tuple #[.agg #[.int .i64 (G + 1), .slice ao L.length cap], .int .i64 0, .int .i64 0]) (by simp [results, Tryd.f42, go_sem, f1, f2]) rfl ⟨ao, cap, rfl, ((HT3.out.set (a := ⟨w.heap.size, 0, none⟩) (by show w.heap.size < _; omega) _).set (a := ⟨w.heap.size, 1, none⟩) (by show w.heap.size < _; omega) _).sees, (HB3.out.setCell (p := ⟨w.heap.size, 0, none⟩) (by simp) _).setCell (p := ⟨w.heap.size, 1, none⟩) (by simp) _⟩
      · rw [if_neg hc]
        have hcz : (c != 0) = true := by simpa using hc
        clear hc
        go_enter Tryd.func42, Tryd.ntmps42
        go_wp2_with fail
        refine ((C1 _ (HST.out.step HB0.out)).out).mono ?_
        rintro e w1 ⟨ao, cap, rfl, hr1, hb1⟩
        have HB1 := Lib.hid (below_nxt HB0.out hb1)
        have HR1 := Lib.hid (HR0.out.step hb1)
        have HT1 := Lib.hid hr1
        clear hb1 hr1 r0 r1 r2 r3 r4
        obtain ⟨r0, r1, r2, r3, r4⟩ := HR1.out
        go_wp2_with fail
        refine ((CG _ _ HT1.out.sees).out).mono ?_
        rintro e w2 ⟨rfl, hb2⟩
        have HB2 := Lib.hid (below_nxt HB1.out hb2)
        have HR2 := Lib.hid (HR1.out.step hb2)
        have HT2 := Lib.hid (HT1.out.step hb2)
        clear hb2 r0 r1 r2 r3 r4
        obtain ⟨r0, r1, r2, r3, r4⟩ := HR2.out
        obtain ⟨hq, hqb, -⟩ := boxP_new w2 (.int .i64 (G + 1)) (.slice ao L.length cap) 32
        have HQB := Lib.hid hqb
        clear hq hqb
        go_wp2_with fail
        refine ((CC _ _ (HT2.out.step HQB.out).sees).out).mono ?_
        rintro e w3 ⟨rfl, hb3⟩
        have HB3 := Lib.hid (below_nxt (below_nxt HB2.out HQB.out) hb3)
        have HR3 := Lib.hid ((HR2.out.step HQB.out).step hb3)
        clear hb3 r0 r1 r2 r3 r4
        obtain ⟨r0, r1, r2, r3, r4⟩ := HR3.out
        go_wp2
        obtain ⟨-, f1, f2, -, -⟩ := HR3.out.put (.int .i64 0) (.slice none 0 0)
        exact bodyPost_ret (v := .tuple #[.agg #[.int .i64 0, .slice none 0 0], .int .i64 0, .int .i64 c]) (by simp [results, Tryd.f42, go_sem, f1, f2]) rfl ⟨none, 0, rfl, SeeT.nil _, (HB3.out.setCell (p := ⟨w.heap.size, 0, none⟩) (by simp) _).setCell (p := ⟨w.heap.size, 1, none⟩) (by simp) _⟩
  · rw [if_pos hm]
    have hmz : (m != 0) = true := by simpa using hm
    obtain ⟨r0, r1, r2, r3, r4⟩ := HR0.out
    clear hm hp
    go_enter Tryd.func42, Tryd.ntmps42
    go_wp2_with fail
    refine ((C1 _ (HST.out.step HB0.out)).out).mono ?_
    rintro e w1 ⟨ao, cap, rfl, hr1, hb1⟩
    have HB1 := Lib.hid (below_nxt HB0.out hb1)
    have HR1 := Lib.hid (HR0.out.step hb1)
    clear hb1 hr1 r0 r1 r2 r3 r4
    obtain ⟨r0, r1, r2, r3, r4⟩ := HR1.out
    go_wp2
    obtain ⟨-, f1, f2, -, -⟩ := HR1.out.put (.int .i64 0) (.slice none 0 0)
    exact bodyPost_ret (v := .tuple #[.agg #[.int .i64 0, .slice none 0 0], .int .i64 k, .int .i64 m]) (by simp [results, Tryd.f42, go_sem, f1, f2]) rfl ⟨none, 0, rfl, SeeT.nil _, (HB1.out.setCell (p := ⟨w.heap.size, 0, none⟩) (by simp) _).setCell (p := ⟨w.heap.size, 1, none⟩) (by simp) _⟩
end Go.Proofs.YtjpbccpleflkhaaDoor
