/- readStep of package stroke: its call. -/
import Derived.Test.YtecfbncfhehdcaaDoorQT
namespace Go.Proofs.YtecfbncfhehdcaaDoor
open Go.RowKit Go.Shelf
attribute [local go_sem] Oper.semAt_some
/-- A round that has read a stroke. -/
theorem RsI.str {w W W2 w5 : World} {T : TypeId} {v v5 : Value} {L : List Sk.Str} {y : Sk.Str} {pre' : List Sk.Prt} (hK : RowK (w.heap.size + 5) T W v L) (hX : ResP W (w.heap.size + 2) v (.int .i64 0)) (hRa : ResP W w.heap.size (.slice none 0 0) (.int .i64 0)) (hRb : BoxW W (w.heap.size + 1) (.bool false)) (hB : Below w.heap.size w W) (hz : w.heap.size + 5 ≤ W.heap.size)
    (hb : Below W.heap.size W W2) (hg : W2.grownBy w5 v.ownBlock) (hr : RowK (w.heap.size + 5) T w5 v5 (L ++ [y])) (hn : ∀ rest, Sk.runP (pre'.map Sk.pv ++ rest) ([], 0) = Sk.runP rest (L ++ [y], 0)) (hl : L.length + 1 ≤ pre'.length) (B : Nat) :
    KeepsFrom B W (w5.setCell ⟨w.heap.size + 2, 0, none⟩ v5) ∧ KpT (w.heap.size + 3) (w.heap.size + 4) W (w5.setCell ⟨w.heap.size + 2, 0, none⟩ v5) ∧ RsI w T pre' (w5.setCell ⟨w.heap.size + 2, 0, none⟩ v5) := by
  have hK2 := hK.step hb
  have hrow : ∀ r, v.ownBlock = some r → w.heap.size + 5 ≤ r := fun r e => (World.ownsRow.lt hK2 r e).1
  have hs2 := hb.size
  have hs5 := hg.size
  refine ⟨(((keeps_below hb).trans (keeps_row hK2 hg)).trans (KeepsOthers.setCell _ _ _)).from B, ((KpT.below hb (by omega) (by omega)).trans (KpT.row hK2 hg (by omega) (by omega) (by omega) (by omega))).trans (KpT.setc _ (by simp) _), ⟨L ++ [y], 0, v5, hn, by simpa using hl, Int.le_refl _, by omega, hr.set (by show w.heap.size + 2 < w.heap.size + 5; omega) _, ((hX.step hb).grown hg (fun r e => by have := hrow r e; omega)).put0 _⟩, ?_, ?_, ?_, ?_⟩
  · exact ((hRa.step hb).grown hg (fun r e => by have := hrow r e; omega)).other (by omega) _
  · exact ((hRb.step hb).grown hg (fun r e => by have := hrow r e; omega)).other (by omega) _
  · exact ((below_nxt hB hb).grown hg (by omega) (fun r e => by have := hrow r e; omega)).setCell (p := ⟨w.heap.size + 2, 0, none⟩) (by simp) _
  · simp; omega
/-- A round that has read the wait. -/
theorem RsI.num {w W W2 : World} {T : TypeId} {v : Value} {L : List Sk.Str} {n m : Int} {pre' : List Sk.Prt} (hK : RowK (w.heap.size + 5) T W v L) (hX : ResP W (w.heap.size + 2) v (.int .i64 m)) (hRa : ResP W w.heap.size (.slice none 0 0) (.int .i64 0)) (hRb : BoxW W (w.heap.size + 1) (.bool false)) (hB : Below w.heap.size w W) (hz : w.heap.size + 5 ≤ W.heap.size)
    (hb : Below W.heap.size W W2) (hn : ∀ rest, Sk.runP (pre'.map Sk.pv ++ rest) ([], 0) = Sk.runP rest (L, n)) (h1 : 0 ≤ n) (h2 : n < 10000000) (hl : L.length ≤ pre'.length) (B : Nat) :
    KeepsFrom B W (W2.setCell ⟨w.heap.size + 2, 1, none⟩ (.int .i64 n)) ∧ KpT (w.heap.size + 3) (w.heap.size + 4) W (W2.setCell ⟨w.heap.size + 2, 1, none⟩ (.int .i64 n)) ∧ RsI w T pre' (W2.setCell ⟨w.heap.size + 2, 1, none⟩ (.int .i64 n)) := by
  have hs2 := hb.size
  refine ⟨((keeps_below hb).trans (KeepsOthers.setCell _ _ _)).from B, (KpT.below hb (by omega) (by omega)).trans (KpT.setc _ (by simp) _), ⟨L, n, v, hn, hl, h1, h2, (hK.step hb).set (by show w.heap.size + 2 < w.heap.size + 5; omega) _, (hX.step hb).put1 _⟩, (hRa.step hb).other (by omega) _, (hRb.step hb).other (by omega) _, (below_nxt hB hb).setCell (p := ⟨w.heap.size + 2, 1, none⟩) (by simp) _, by simp; omega⟩
/-- A round that leaves. -/
theorem RsX.mk {w W W2 : World} {pre' : List Sk.Prt} (hRa : ResP W w.heap.size (.slice none 0 0) (.int .i64 0)) (hRb : BoxW W (w.heap.size + 1) (.bool false)) (hB : Below w.heap.size w W) (hb : Below W.heap.size W W2) (hn : ∀ rest, Sk.runP (pre'.map Sk.pv ++ rest) ([], 0) = none) (B : Nat) :
    KeepsFrom B W (((W2.setCell ⟨w.heap.size, 0, none⟩ (.slice none 0 0)).setCell ⟨w.heap.size, 1, none⟩ (.int .i64 0)).setCell ⟨w.heap.size + 1, 0, none⟩ (.bool false)) ∧ RsX w .ret pre' (((W2.setCell ⟨w.heap.size, 0, none⟩ (.slice none 0 0)).setCell ⟨w.heap.size, 1, none⟩ (.int .i64 0)).setCell ⟨w.heap.size + 1, 0, none⟩ (.bool false)) :=
  ⟨((((keeps_below hb).trans (KeepsOthers.setCell _ _ _)).trans (KeepsOthers.setCell _ _ _)).trans (KeepsOthers.setCell _ _ _)).from B, rfl, hn, ((((hRa.step hb).put0 _).put1 _).other (by omega) _), ((((hRb.step hb).other (by omega) _).other (by omega) _).set _),
    (((below_nxt hB hb).setCell (p := ⟨w.heap.size, 0, none⟩) (by simp) _).setCell (p := ⟨w.heap.size, 1, none⟩) (by simp) _).setCell (p := ⟨w.heap.size + 1, 0, none⟩) (by simp) _⟩
set_option maxHeartbeats 8000000 in
set_option maxRecDepth 100000 in
theorem sRdP_any (s : ByteArray) (w : World) (hst : StQ w) (hz : s.size ≤ 4096) : Calls Tryd.prog 53 #[.string s] w (RpP s.data.toList w) := by
  have HST := Lib.hid hst
  have h4 := hst.st.size
  obtain ⟨m0, hm0⟩ := hst.st.maxLen
  refine (callsIn_wide (n := 9)).1 ?_
  refine callsIn_of_wp_marks Tryd.func53 rfl trivial ?_ rfl
  simp only [Tryd.ntmps53, List.size_toArray, List.length_cons, List.length_nil, Nat.reduceAdd, Nat.reduceSub, Array.replicate_succ, Array.replicate_zero, List.push_toArray, List.append_toArray, List.nil_append, List.cons_append]
  gi_wp2_with (refine ⟨trivial, ?_⟩; gi_at_call 52; refine (callsIn_wide.2 (sPts_any s ⟨#[32]⟩ _)).mono ?_; rintro e Z ⟨rfl, rfl⟩)
  obtain ⟨W0, hW0⟩ : ∃ W0, (((((w.alloc (.cells #[.slice none 0 0, .int .i64 0] 70)).alloc (.cells #[.bool false] 4)).alloc (.cells #[.slice none 0 0, .int .i64 0] 70)).alloc (.cells #[.string s] 9)).alloc (.cells #[.string ⟨#[32]⟩] 9)) = W0 := ⟨_, rfl⟩
  have hz0 : W0.heap.size = w.heap.size + 5 := by rw [← hW0]; simp
  have hB0 : Below w.heap.size w W0 := by rw [← hW0]; exact ((((allocB w _).alloc (by simp) _).alloc (by simp; omega) _).alloc (by simp; omega) _).alloc (by simp; omega) _
  have hRa : ResP W0 w.heap.size (.slice none 0 0) (.int .i64 0) := by rw [← hW0]; exact ((((resP_new w _ _ _).step (allocB _ _)).step (allocB _ _)).step (allocB _ _)).step (allocB _ _)
  have hRb : BoxW W0 (w.heap.size + 1) (.bool false) := by
    have h := boxW_new (w.alloc (.cells #[.slice none 0 0, .int .i64 0] 70)) (.bool false) 4
    rw [World.size_alloc] at h
    rw [← hW0]; exact ((h.step (allocB _ _)).step (allocB _ _)).step (allocB _ _)
  have hRc : ResP W0 (w.heap.size + 2) (.slice none 0 0) (.int .i64 0) := by
    have h := resP_new ((w.alloc (.cells #[.slice none 0 0, .int .i64 0] 70)).alloc (.cells #[.bool false] 4)) (.slice none 0 0) (.int .i64 0) 70
    rw [World.size_alloc, World.size_alloc] at h
    rw [← hW0]; exact (h.step (allocB _ _)).step (allocB _ _)
  have hTs : W0.cell? ⟨w.heap.size + 3, 0, none⟩ = some (.string s) := by
    have h := boxV_new (((w.alloc (.cells #[.slice none 0 0, .int .i64 0] 70)).alloc (.cells #[.bool false] 4)).alloc (.cells #[.slice none 0 0, .int .i64 0] 70)) (.string s) 9
    rw [World.size_alloc, World.size_alloc, World.size_alloc] at h
    rw [← hW0]; exact (h.step (allocB _ _)).2
  have hTp : W0.cell? ⟨w.heap.size + 4, 0, none⟩ = some (.string ⟨#[32]⟩) := by
    have h := boxV_new ((((w.alloc (.cells #[.slice none 0 0, .int .i64 0] 70)).alloc (.cells #[.bool false] 4)).alloc (.cells #[.slice none 0 0, .int .i64 0] 70)).alloc (.cells #[.string s] 9)) (.string ⟨#[32]⟩) 9
    rw [World.size_alloc, World.size_alloc, World.size_alloc, World.size_alloc] at h
    rw [← hW0]; exact h.2
  have hm1 : ∃ m : Int, W0.cell? ⟨0, 0, none⟩ = some (.int .i64 m) := ⟨m0, (hB0.cell (p := ⟨0, 0, none⟩) (by show 0 < w.heap.size; omega)).trans hm0⟩
  have hI0 : RsI w 47 [] W0 := ⟨⟨[], 0, .slice none 0 0, fun rest => rfl, Nat.le_refl _, by omega, by omega, RowK.nil _ _ _, hRc⟩, hRa, hRb, hB0, by omega⟩
  rw [hW0]
  clear hW0 hRa hRb hRc
  refine wpIn_rangeFunc_ownG rfl (by omega) (gf := 83) (lb := #[.pointer (some ⟨w.heap.size + 1 + 1 + 1, 0, none⟩), .pointer (some ⟨w.heap.size + 1 + 1 + 1 + 1, 0, none⟩)]) rfl trivial (enters_of Tryd.func83 (by kernel_rfl) rfl)
    (parts_stops s ⟨#[32]⟩ (w.heap.size + 1 + 1 + 1) (w.heap.size + 1 + 1 + 1 + 1) W0 hz (by decide) (by decide) (by omega) (by omega) hm1 hTs hTp) KpT.trans (KpT.put W0 (by omega) (by omega)) (Below.refl _ _) (fun _ => rfl)
    (RsI w 47) (RsX w) (RsI.own (by omega)) (RsX.own (by omega)) hI0
    (fun x => { tmps := #[.string s, undef, .pointer (some ⟨w.heap.size, 0, none⟩), .pointer (some ⟨w.heap.size + 1, 0, none⟩), .pointer (some ⟨w.heap.size + 1 + 1, 0, none⟩), undef, .string x.1.2, undef, undef, undef, undef, .string s, .func (.func 83) #[] #[.pointer (some ⟨w.heap.size + 1 + 1 + 1, 0, none⟩), .pointer (some ⟨w.heap.size + 1 + 1 + 1 + 1, 0, none⟩)], .int .i64 x.1.1, .string x.1.2, undef, undef, undef, undef, undef, undef, undef, undef, undef, undef, undef, undef, undef, undef, undef, undef, undef, undef, undef, undef, undef, undef, undef, undef, undef, undef, undef, undef, undef, undef, undef, undef, undef], defers := [] }) ?assign ?body ?done ?stop
  case assign =>
    intro l x W K hK
    have ez : ∀ T : Array Value, (#[13, 14].zip (Sk.pe x)).foldl (fun (t : Array Value) (x : Nat × Value) => t.setIfInBounds x.1 x.2) T = (T.setIfInBounds 13 (.int .i64 x.1.1)).setIfInBounds 14 (.string x.1.2) := fun T => by simp [Sk.pe]
    simp only [ez]
    gi_wp2
    exact hK
  case body =>
    rintro lp pre x W hI hlen
    obtain ⟨⟨L, n, u, hrun, hLl, hn0, hn1, hK, hX⟩, hRa, hRb, hB, hz5⟩ := hI
    obtain ⟨ua, uc, rfl⟩ := hK.form
    have HNx := Lib.hid (RsI.next (x := x) hrun)
    have hpz : x.1.2.size ≤ 1000000 := Nat.le_trans x.2.2.2 (by decide)
    have HPV : Hid (Sk.pv x = (x.1.1, x.1.2.data.toList)) := Lib.hid rfl
    have HK := Lib.hid hK
    have HX := Lib.hid hX
    have HRa := Lib.hid hRa
    have HRb := Lib.hid hRb
    have HB := Lib.hid hB
    have hL5 : L.length ≤ 4097 := by omega
    have HLl := Lib.hid hLl
    have hd : 1 ≤ 9 - 1 - 1 := by omega
    obtain ⟨i0, hi0, hzi0, hzi1, hzi2⟩ := info_str2
    clear hrun hK hRa hRb hB hI0 hm1 hTs hTp hm0
    generalize x.1.2 = p at *
    generalize x.1.1 = at0 at *
    by_cases hn : n = 0
    · subst hn
      obtain ⟨q0, q1, q2, q3, q4⟩ := hX
      cases hrd : Sk.rdS p.data.toList with
      | some y =>
        obtain ⟨ya, yo⟩ := y
        have HN2 : Hid (∀ rest, Sk.runP ((pre ++ [x]).map Sk.pv ++ rest) ([], 0) = Sk.runP rest (L ++ [(ya, yo)], 0)) := Lib.hid (fun rest => by rw [HNx.out, Sk.runP_on (by rw [HPV.out]; exact Sk.stp1_str hrd)])
        have CR := fun V => Lib.hid (rdS_yes p (ya, yo) V hpz hrd)
        clear hrd HNx HPV
        gi_wp2_with first
          | (refine ⟨trivial, ?_⟩; gi_at_call 85; refine (CallsIn.inRound lp (callsIn_wide.2 (CR _).out)).mono ?_; rintro e W1 ⟨rfl, hb1⟩
             have HB1 := Lib.hid hb1; have HX1 := Lib.hid (HX.out.step hb1); have HK1 := Lib.hid (HK.out.step hb1); clear CR hb1; obtain ⟨r0, r1, r2, r3, r4⟩ := HX1.out)
          | (gi_at_builtin; refine wpListIn_append_str rfl _ _ 34 rfl 47 i0 Tryd.underlying34 hi0 hzi0 hzi1 hzi2 _ L (ya, yo) (W1.heap.size + 1) rfl rfl (w.heap.size + 5) ((HK1.out.step (allocB _ _)).step (allocB _ _)) (by simp) (by simp) (by omega) (by have := HB1.out.size; simp; omega) ?_
             intro a5 p5 w5 hr5 hg5 hb5
             have HX5 := Lib.hid (((HX1.out.step (allocB _ _)).step (allocB _ _)).grown hg5 (fun r e => by have := (World.ownsRow.lt HK1.out r e).1; omega)); have HR5 := Lib.hid hr5; have HG5 := Lib.hid hg5; have HB5 := Lib.hid hb5; clear hr5 hg5 hb5; obtain ⟨s0, s1, s2, s3, s4⟩ := HX5.out)
        exact RsI.str HK.out HX.out HRa.out HRb.out HB.out hz5 ((HB1.out.alloc HB1.out.size _).alloc (by have := HB1.out.size; simp; omega) _) HG5.out HR5.out HN2.out (by have := HLl.out; simp; omega) _
      | none =>
        have HN2 : Hid (∀ st, Sk.stp1 (L, 0) p.data.toList = some st → ∀ rest, Sk.runP ((pre ++ [x]).map Sk.pv ++ rest) ([], 0) = Sk.runP rest st) := Lib.hid (fun st h rest => by rw [HNx.out, Sk.runP_on (by rw [HPV.out]; exact h)])
        have HN3 : Hid (Sk.stp1 (L, 0) p.data.toList = none → ∀ rest, Sk.runP ((pre ++ [x]).map Sk.pv ++ rest) ([], 0) = none) := Lib.hid (fun h rest => by rw [HNx.out, Sk.runP_stop (by rw [HPV.out]; exact h)])
        have CR := fun V => Lib.hid (rdS_no p V hpz hrd)
        have CW := fun V (h : StQ V) => Lib.hid (sWt_any p V h hpz)
        have HW1 : Hid (_ → _ → Sk.stp1 (L, 0) p.data.toList = some (L, (Sk.wtV p.data.toList).1)) := Lib.hid (fun h1 h2 => Sk.stp1_num (l := L) hrd h1 h2)
        have HW2 := Lib.hid (fun h => Sk.stp1_no (l := L) hrd h)
        obtain ⟨b1, b2, -, -⟩ := Sk.wtV_bd p.data.toList
        clear hrd HNx HPV
        generalize Sk.wtV p.data.toList = qq at *
        obtain ⟨qn, qo⟩ := qq
        cases qo with
        | false =>
          have HNo := Lib.hid (HN3.out (HW2.out (.inl rfl)))
          clear HN2 HN3 HW1 HW2
          gi_wp2_with first
            | (refine ⟨trivial, ?_⟩; gi_at_call 85; refine (CallsIn.inRound lp (callsIn_wide.2 (CR _).out)).mono ?_; rintro e W1 ⟨a1, o1, rfl, hb1⟩
               have HB1 := Lib.hid hb1; clear CR hb1)
            | (refine ⟨trivial, ?_⟩; gi_at_call 86; refine (CallsIn.inRound lp (callsIn_wide.2 (CW _ (HST.out.step (below_nxt HB.out (HB1.out.alloc HB1.out.size _)))).out)).mono ?_; rintro e W2 ⟨rfl, hb2⟩
               have HB2 := Lib.hid (below_nxt (HB1.out.alloc HB1.out.size _) hb2); clear CW hb2; obtain ⟨c0, c1, c2, c3, c4⟩ := HRa.out.step HB2.out; obtain ⟨d0, d1, d2⟩ := HRb.out.step HB2.out)
          exact RsX.mk HRa.out HRb.out HB.out HB2.out HNo.out _
        | true =>
          by_cases hL0 : L.length = 0
          · have HNo := Lib.hid (HN3.out (HW2.out (.inr hL0)))
            have hLt : ((L.length : Int) == 0) = true := by rw [hL0]; rfl
            clear HN2 HN3 HW1 HW2
            gi_wp2_with first
              | (refine ⟨trivial, ?_⟩; gi_at_call 85; refine (CallsIn.inRound lp (callsIn_wide.2 (CR _).out)).mono ?_; rintro e W1 ⟨a1, o1, rfl, hb1⟩
                 have HB1 := Lib.hid hb1; clear CR hb1)
              | (refine ⟨trivial, ?_⟩; gi_at_call 86; refine (CallsIn.inRound lp (callsIn_wide.2 (CW _ (HST.out.step (below_nxt HB.out (HB1.out.alloc HB1.out.size _)))).out)).mono ?_; rintro e W2 ⟨rfl, hb2⟩
                 have HB2 := Lib.hid (below_nxt (HB1.out.alloc HB1.out.size _) hb2); clear CW hb2; obtain ⟨c0, c1, c2, c3, c4⟩ := HRa.out.step HB2.out; obtain ⟨d0, d1, d2⟩ := HRb.out.step HB2.out; obtain ⟨s0, s1, s2, s3, s4⟩ := HX.out.step HB2.out)
            exact RsX.mk HRa.out HRb.out HB.out HB2.out HNo.out _
          · have HNo := Lib.hid (HN2.out _ (HW1.out rfl hL0))
            have hLt : ((L.length : Int) == 0) = false := by rw [beq_eq_false_iff_ne]; omega
            clear HN2 HN3 HW1 HW2
            gi_wp2_with first
              | (refine ⟨trivial, ?_⟩; gi_at_call 85; refine (CallsIn.inRound lp (callsIn_wide.2 (CR _).out)).mono ?_; rintro e W1 ⟨a1, o1, rfl, hb1⟩
                 have HB1 := Lib.hid hb1; clear CR hb1)
              | (refine ⟨trivial, ?_⟩; gi_at_call 86; refine (CallsIn.inRound lp (callsIn_wide.2 (CW _ (HST.out.step (below_nxt HB.out (HB1.out.alloc HB1.out.size _)))).out)).mono ?_; rintro e W2 ⟨rfl, hb2⟩
                 have HB2 := Lib.hid (below_nxt (HB1.out.alloc HB1.out.size _) hb2); clear CW hb2; obtain ⟨c0, c1, c2, c3, c4⟩ := HRa.out.step HB2.out; obtain ⟨d0, d1, d2⟩ := HRb.out.step HB2.out; obtain ⟨s0, s1, s2, s3, s4⟩ := HX.out.step HB2.out)
            exact RsI.num HK.out HX.out HRa.out HRb.out HB.out hz5 HB2.out HNo.out b1 b2 (by have := HLl.out; simp; omega) _
    · have HNo : Hid (∀ rest, Sk.runP ((pre ++ [x]).map Sk.pv ++ rest) ([], 0) = none) := Lib.hid (fun rest => by rw [HNx.out, Sk.runP_stop (Sk.stp1_wait hn _)])
      have hnt : (n == 0) = false := by rw [beq_eq_false_iff_ne]; exact hn
      obtain ⟨q0, q1, q2, q3, q4⟩ := hX
      obtain ⟨c0, c1, c2, c3, c4⟩ := HRa.out
      obtain ⟨d0, d1, d2⟩ := HRb.out
      clear HNx HPV
      gi_wp2
      exact RsX.mk HRa.out HRb.out HB.out (Below.refl _ _) HNo.out _
  case done =>
    rintro D ys W hD hS ⟨⟨L, n, u, hrun, hLl, hn0, hn1, hK, hX⟩, hRa, hRb, hB, hz5⟩ hK0
    obtain ⟨ua, uc, hu⟩ := hK.form
    have hrd : Sk.rdP s.data.toList = some (L, n) := by
      have := hrun []
      rw [List.append_nil, hS] at this
      exact this
    subst hu
    obtain ⟨u, hu⟩ : ∃ u, u = Value.slice ua L.length uc := ⟨_, rfl⟩
    obtain ⟨q0, q1, q2, q3, q4⟩ := hX
    obtain ⟨c0, c1, c2, c3, c4⟩ := hRa
    obtain ⟨d0, d1, d2⟩ := hRb
    gi_wp2
    rw [← hu] at hK ⊢
    clear q1
    have hRa' := ((ResP.put1 (ResP.put0 (⟨c0, c1, c2, c3, c4⟩ : ResP W w.heap.size _ _) u) (.int .i64 n)).other (k := w.heap.size + 1) (o := 0) (by omega) (.bool true))
    have hRb0 : BoxW W (w.heap.size + 1) (.bool false) := ⟨d0, d1, d2⟩
    have hRb' := ((hRb0.other (k := w.heap.size) (o := 0) (by omega) u).other (k := w.heap.size) (o := 1) (by omega) (.int .i64 n)).set (.bool true)
    have hKK := ((hK.set (a := ⟨w.heap.size, 0, none⟩) (by show w.heap.size < w.heap.size + 5; omega) u).set (a := ⟨w.heap.size, 1, none⟩) (by show w.heap.size < w.heap.size + 5; omega) (.int .i64 n)).set (a := ⟨w.heap.size + 1, 0, none⟩) (by show w.heap.size + 1 < w.heap.size + 5; omega) (.bool true)
    have hBB := ((hB.setCell (p := ⟨w.heap.size, 0, none⟩) (by simp) u).setCell (p := ⟨w.heap.size, 1, none⟩) (by simp) (.int .i64 n)).setCell (p := ⟨w.heap.size + 1, 0, none⟩) (by simp) (.bool true)
    have hK' := (((KeepsOthers.setCell W ⟨w.heap.size, 0, none⟩ u).trans (KeepsOthers.setCell _ ⟨w.heap.size, 1, none⟩ (.int .i64 n))).trans (KeepsOthers.setCell _ ⟨w.heap.size + 1, 0, none⟩ (.bool true))).same D _ hK0 rfl
    generalize ((W.setCell ⟨w.heap.size, 0, none⟩ u).setCell ⟨w.heap.size, 1, none⟩ (.int .i64 n)).setCell ⟨w.heap.size + 1, 0, none⟩ (.bool true) = W' at *
    refine ⟨by simp, .inl ⟨_, _, rfl, run_takeDeferred hK', ?_⟩⟩
    have hg := grownBy_putObj' W' D (.deferred none)
    have hr : ∀ r, some D = some r → ∃ o : Obj, W'.heap[r]? = some o ∧ o.isCells = false := fun r e => by cases e; exact ⟨_, hK', rfl⟩
    obtain ⟨-, e1, e2, -, -⟩ := hRa'.kept hg hr
    obtain ⟨-, e3, -⟩ := hRb'.kept hg hr
    refine ⟨.tuple #[.agg #[u, .int .i64 n], .bool true], ?_, ⟨u, n, L, by rw [hrd]; rfl, (hKK.kept hg hr).sees, fun y hy => (by rw [hrd] at hy; cases hy; rfl), fun r e => (by have := (World.ownsRow.lt hKK r e).1; omega), fun r e => Nat.lt_of_lt_of_le (World.ownsRow.lt hKK r e).2 hg.size, hBB.trans (belowK_b (w := w) (Nat.le_refl _) W' D _ _ (by omega) hK' rfl rfl)⟩⟩
    simp [results, Tryd.f53, go_sem, e1, e2, e3]
  case stop =>
    rintro D c pre W hD ⟨rest, hpre⟩ ⟨rfl, hno, hRa, hRb, hB⟩ hK0
    have hrd : Sk.rdP s.data.toList = none := by
      unfold Sk.rdP
      rw [hpre]; exact hno rest
    gi_wp2
    refine ⟨by simp, .inl ⟨_, _, rfl, run_takeDeferred hK0, ?_⟩⟩
    have hg := grownBy_putObj' W D (.deferred none)
    have hr : ∀ r, some D = some r → ∃ o : Obj, W.heap[r]? = some o ∧ o.isCells = false := fun r e => by cases e; exact ⟨_, hK0, rfl⟩
    obtain ⟨-, e1, e2, -, -⟩ := hRa.kept hg hr
    obtain ⟨-, e3, -⟩ := hRb.kept hg hr
    refine ⟨.tuple #[.agg #[.slice none 0 0, .int .i64 0], .bool false], ?_, ⟨.slice none 0 0, 0, [], by rw [hrd]; rfl, SeeK.nil _, fun y hy => (by rw [hrd] at hy; cases hy), fun r e => (by cases e), fun r e => (by cases e), hB.trans (belowK_b (w := w) (Nat.le_refl _) W D _ _ (by omega) hK0 rfl rfl)⟩⟩
    simp [results, Tryd.f53, go_sem, e1, e2, e3]
end Go.Proofs.YtecfbncfhehdcaaDoor

