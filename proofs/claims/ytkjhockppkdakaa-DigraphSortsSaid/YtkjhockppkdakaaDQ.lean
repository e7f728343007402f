/- The examples of the law: awake. -/
import Derived.Test.YtkjhockppkdakaaDL
namespace Go.Proofs.Ytkjhockppkdakaa
open Go.RowKit Go.Shelf

theorem SeesN.step {w w' : World} {v : Value} {L : List (List Int)} (h : SeesN w v L) (hb : Below w.heap.size w w') : SeesN w' v L := h.imp id fun h => h.step hb
theorem bx (W : World) (o : Obj) : Below W.heap.size W (W.alloc o) := (Below.refl _ W).alloc (Nat.le_refl _) o
theorem cell_lit (V : World) (cs : Array Value) (U : TypeId) {s i : Nat} {x : Value} (hs : s = V.heap.size) (h : cs[i]? = some x) : (V.alloc (.cells cs U)).cell? ⟨s, i, none⟩ = some x := by subst hs; simp [h]
theorem seesN_lit3 (w : World) (T U : TypeId) :
    SeesN ((((w.alloc (.cells #[.int .i64 0, .int .i64 1, .int .i64 2] T)).alloc (.cells #[.int .i64 3] T)).alloc (.cells #[.int .i64 4] T)).alloc (.cells #[.slice (some ⟨w.heap.size, 0, none⟩) 3 3, .slice (some ⟨w.heap.size + 1, 0, none⟩) 1 1, .slice (some ⟨w.heap.size + 1 + 1, 0, none⟩) 1 1] U)) (.slice (some ⟨w.heap.size + 1 + 1 + 1, 0, none⟩) 3 3) [[0, 1, 2], [3], [4]] := by
  have s1 := seesI_lit w [0, 1, 2] T (by simp)
  have s2 := seesI_lit (w.alloc (.cells #[.int .i64 0, .int .i64 1, .int .i64 2] T)) [3] T (by simp)
  have s3 := seesI_lit ((w.alloc (.cells #[.int .i64 0, .int .i64 1, .int .i64 2] T)).alloc (.cells #[.int .i64 3] T)) [4] T (by simp)
  refine .inr ⟨w.heap.size + 1 + 1 + 1, 3, rfl, by simp, by omega, by simp, fun i hi => ?_⟩
  rcases i with _ | _ | _ | i
  · exact ⟨_, cell_lit _ _ _ (by simp) rfl, ((s1.step (bx _ _)).step (bx _ _)).step (bx _ _)⟩
  · exact ⟨_, cell_lit _ _ _ (by simp) rfl, by simpa using (s2.step (bx _ _)).step (bx _ _)⟩
  · exact ⟨_, cell_lit _ _ _ (by simp) rfl, by simpa using s3.step (bx _ _)⟩
  · simp at hi; omega

set_option maxHeartbeats 4000000 in
set_option maxRecDepth 100000 in
theorem awake_any (w : World) : Calls Try.prog 12 #[] w fun e w' => e = .returned (.bool true) ∧ Below w.heap.size w w' := by
  have CA := fun v W (h : SeesE W v (Dg.cst Dg.S1)) => Lib.hid (show Calls Try.prog 15 #[.agg #[.int .i64 5, v], .int .i64 1] W _ from dDist_ok 5 Dg.S1 1 v W Dg.S1_ok (by omega) (by omega) (by decide) h)
  simp only [Dg.a1] at CA
  have CB := fun v W (h : SeesE W v (Dg.cst Dg.S1)) => Lib.hid (show Calls Try.prog 20 #[.agg #[.int .i64 5, v], .int .i64 2, .int .i64 0] W _ from dPath_ok 5 Dg.S1 2 0 2 v W Dg.S1_ok (by omega) (by omega) (by omega) (by decide) Dg.a2 h)
  simp only [Dg.pth02] at CB
  have CC := fun v W (h : SeesE W v (Dg.cst Dg.S1)) => Lib.hid (show Calls Try.prog 25 #[.agg #[.int .i64 5, v]] W (fun e w' => ∃ u, e = .returned (.tuple #[u, .int .i64 0]) ∧ SeesI w' u [0, 2, 1] ∧ Below W.heap.size W w') from (dCyc_ok 5 Dg.S1 v W Dg.S1_ok (by omega) (by decide) h).mono (by
    rintro e w' ⟨hb, ⟨x, u, hx, hy, ho, rfl, hs⟩ | ⟨hy, _⟩⟩
    · rcases Nat.eq_zero_or_pos x with rfl | hp
      · rw [Dg.cyc0] at hs; exact ⟨u, rfl, hs, hb⟩
      · have := hy 0 hp; rw [Dg.onC0] at this; cases this
    · have := hy 0 (by omega); rw [Dg.onC0] at this; cases this))
  have CO := fun v W (h : SeesE W v (Dg.cst Dg.S1)) => Lib.hid (show Calls Try.prog 31 #[.agg #[.int .i64 5, v]] W _ from dCompo_ok 5 Dg.S1 v W Dg.S1_ok (by omega) (by decide) h)
  simp only [Dg.a4] at CO
  have CE := fun v W (h : SeesE W v (Dg.cst Dg.S1)) => Lib.hid (show Calls Try.prog 33 #[.agg #[.int .i64 5, v]] W (fun e w' => ∃ u t, e = .returned (.tuple #[.agg #[.int .i64 3, u], t, .int .i64 0]) ∧ SeesE w' u (Dg.cst [(0, 1)]) ∧ SeesI w' t [0, 0, 0, 1, 2] ∧ Below W.heap.size W w') from (by have h := dCond_ok 5 Dg.S1 v W Dg.S1_ok (by omega) (by decide) h; rw [Dg.a5, Dg.a6, Dg.a7] at h; exact h))
  have CR := fun v W (h : SeesE W v (Dg.cst Dg.S2)) => Lib.hid (show Calls Try.prog 27 #[.agg #[.int .i64 4, v]] W (fun e w' => ∃ u, e = .returned (.tuple #[u, .int .i64 0]) ∧ SeesI w' u [2, 3, 1, 0] ∧ Below W.heap.size W w') from (dOrder_ok 4 Dg.S2 v W Dg.S2_ok (by omega) (by decide) h).mono (by
    rintro e w' ⟨hb, ⟨u, hl, rfl, hs⟩ | ⟨hl, _⟩⟩
    · rw [Dg.a8] at hs; exact ⟨u, rfl, hs, hb⟩
    · rw [Dg.a8] at hl; simp at hl))
  have HB := Lib.hid (Below.refl w.heap.size w)
  go_enter Try.func12, Try.ntmps12
  go_wp2_with fail
  refine (sample_any _).mono ?_
  rintro e w1 ⟨ug, rfl, hs, hb⟩
  have HBq := Lib.hid (below_nxt HB.out hb)
  have SGq := Lib.hid hs
  obtain ⟨ag, cg, hag⟩ := hs.slice
  rw [show (Dg.cst Dg.S1).length = 5 from rfl] at hag
  subst hag
  clear HB hb hs
  change Hid (SeesE w1 (.slice ag 5 cg) (Dg.cst Dg.S1)) at SGq
  obtain ⟨P, L0, z0⟩ := gph_new w1 5 (.slice ag 5 cg) 24
  generalize hX : w1.alloc (.cells #[.int .i64 5, .slice ag 5 cg] 24) = X at *
  have HB := Lib.hid (below_nxt HBq.out L0)
  have SG := Lib.hid (SGq.out.step L0)
  obtain ⟨-, P1, P2⟩ := id P
  clear HBq SGq L0 z0
  go_wp2_with fail
  refine ((CA _ _ SG.out).out).mono ?_
  rintro e w2 ⟨ua, rfl, hs, hb⟩
  have HBq := Lib.hid (below_nxt HB.out hb)
  have SGq := Lib.hid (SG.out.step hb)
  have Pq := P.step hb
  clear HB SG P
  have HB := HBq
  have SG := SGq
  have P := Pq
  clear HBq SGq Pq
  have SA := Lib.hid hs
  clear P1 P2
  clear hb hs
  obtain ⟨-, P1, P2⟩ := id P
  clear hX CA
  go_wp2_with fail
  refine ((CB _ _ SG.out).out).mono ?_
  rintro e w3 ⟨ub, rfl, hs, hb⟩
  have HBq := Lib.hid (below_nxt HB.out hb)
  have SGq := Lib.hid (SG.out.step hb)
  have SAq := Lib.hid (SA.out.step hb)
  have Pq := P.step hb
  clear HB SG SA P
  have HB := HBq
  have SG := SGq
  have SA := SAq
  have P := Pq
  clear HBq SGq SAq Pq
  have SB := Lib.hid hs
  clear P1 P2
  clear hb hs
  obtain ⟨-, P1, P2⟩ := id P
  clear CB
  go_wp2_with fail
  refine ((CC _ _ SG.out).out).mono ?_
  rintro e w4 ⟨uc, rfl, hs, hb⟩
  have HBq := Lib.hid (below_nxt HB.out hb)
  have SGq := Lib.hid (SG.out.step hb)
  have SAq := Lib.hid (SA.out.step hb)
  have SBq := Lib.hid (SB.out.step hb)
  have Pq := P.step hb
  clear HB SG SA SB P
  have HB := HBq
  have SG := SGq
  have SA := SAq
  have SB := SBq
  have P := Pq
  clear HBq SGq SAq SBq Pq
  have SC := Lib.hid hs
  clear P1 P2
  clear hb hs
  obtain ⟨-, P1, P2⟩ := id P
  clear CC
  go_wp2_with fail
  refine ((CO _ _ SG.out).out).mono ?_
  rintro e w5 ⟨ud, rfl, hs, hb⟩
  have HBq := Lib.hid (below_nxt HB.out hb)
  have SGq := Lib.hid (SG.out.step hb)
  have SAq := Lib.hid (SA.out.step hb)
  have SBq := Lib.hid (SB.out.step hb)
  have SCq := Lib.hid (SC.out.step hb)
  have Pq := P.step hb
  clear HB SG SA SB SC P
  have HB := HBq
  have SG := SGq
  have SA := SAq
  have SB := SBq
  have SC := SCq
  have P := Pq
  clear HBq SGq SAq SBq SCq Pq
  have SD := Lib.hid hs
  clear P1 P2
  clear hb hs
  obtain ⟨-, P1, P2⟩ := id P
  clear CO
  go_wp2_with fail
  refine ((CE _ _ SG.out).out).mono ?_
  rintro e w6 ⟨ue, uf, rfl, hs, hs2, hb⟩
  have HBq := Lib.hid (below_nxt HB.out hb)
  have SGq := Lib.hid (SG.out.step hb)
  have SAq := Lib.hid (SA.out.step hb)
  have SBq := Lib.hid (SB.out.step hb)
  have SCq := Lib.hid (SC.out.step hb)
  have SDq := Lib.hid (SD.out.step hb)
  have Pq := P.step hb
  clear HB SG SA SB SC SD P
  have HB := HBq
  have SG := SGq
  have SA := SAq
  have SB := SBq
  have SC := SCq
  have SD := SDq
  have P := Pq
  clear HBq SGq SAq SBq SCq SDq Pq
  have SE := Lib.hid hs
  have SF := Lib.hid hs2
  clear P1 P2
  clear hb hs hs2
  obtain ⟨-, P1, P2⟩ := id P
  clear CE
  obtain ⟨ae, ce, hag⟩ := SE.out.slice
  rw [show (Dg.cst [(0, 1)]).length = 1 from rfl] at hag
  subst hag
  change Hid (SeesE w6 (.slice ae 1 ce) (Dg.cst [(0, 1)])) at SE
  obtain ⟨Q, L0, z0⟩ := gph_new w6 3 (.slice ae 1 ce) 24
  generalize hX : w6.alloc (.cells #[.int .i64 3, .slice ae 1 ce] 24) = Y at *
  have HBq := Lib.hid (below_nxt HB.out L0)
  have SGq := Lib.hid (SG.out.step L0)
  have SAq := Lib.hid (SA.out.step L0)
  have SBq := Lib.hid (SB.out.step L0)
  have SCq := Lib.hid (SC.out.step L0)
  have SDq := Lib.hid (SD.out.step L0)
  have SEq := Lib.hid (SE.out.step L0)
  have SFq := Lib.hid (SF.out.step L0)
  have Pq := P.step L0
  clear HB SG SA SB SC SD SE SF P
  have HB := HBq
  have SG := SGq
  have SA := SAq
  have SB := SBq
  have SC := SCq
  have SD := SDq
  have SE := SEq
  have SF := SFq
  have P := Pq
  clear HBq SGq SAq SBq SCq SDq SEq SFq Pq
  clear P1 P2
  obtain ⟨-, P1, P2⟩ := id P
  obtain ⟨-, Q1, Q2⟩ := id Q
  clear L0 z0
  have SO := seesE_lit Y (Dg.cst Dg.S2) 60 (by decide)
  have LO := bx Y (.cells ((Dg.cst Dg.S2).flatMap Dg.encE).toArray 60)
  generalize hY : Y.alloc (.cells ((Dg.cst Dg.S2).flatMap Dg.encE).toArray 60) = Z at *
  change Y.alloc (.cells #[.int .i64 3, .int .i64 1, .int .i64 1, .int .i64 0, .int .i64 3, .int .i64 0, .int .i64 2, .int .i64 0] 60) = Z at hY
  change SeesE Z (.slice (some ⟨Y.heap.size, 0, none⟩) 4 4) _ at SO
  have HBq := Lib.hid (below_nxt HB.out LO)
  have SGq := Lib.hid (SG.out.step LO)
  have SAq := Lib.hid (SA.out.step LO)
  have SBq := Lib.hid (SB.out.step LO)
  have SCq := Lib.hid (SC.out.step LO)
  have SDq := Lib.hid (SD.out.step LO)
  have SEq := Lib.hid (SE.out.step LO)
  have SFq := Lib.hid (SF.out.step LO)
  have Pq := P.step LO
  have Qq := Q.step LO
  clear HB SG SA SB SC SD SE SF P Q
  have HB := HBq
  have SG := SGq
  have SA := SAq
  have SB := SBq
  have SC := SCq
  have SD := SDq
  have SE := SEq
  have SF := SFq
  have P := Pq
  have Q := Qq
  clear HBq SGq SAq SBq SCq SDq SEq SFq Pq Qq
  clear P1 P2 Q1 Q2
  obtain ⟨-, P1, P2⟩ := id P
  obtain ⟨-, Q1, Q2⟩ := id Q
  clear LO
  go_wp2_with fail
  refine ((CR _ _ SO).out).mono ?_
  rintro e w7 ⟨uh, rfl, hs, hb⟩
  have HBq := Lib.hid (below_nxt HB.out hb)
  have SGq := Lib.hid (SG.out.step hb)
  have SAq := Lib.hid (SA.out.step hb)
  have SBq := Lib.hid (SB.out.step hb)
  have SCq := Lib.hid (SC.out.step hb)
  have SDq := Lib.hid (SD.out.step hb)
  have SEq := Lib.hid (SE.out.step hb)
  have SFq := Lib.hid (SF.out.step hb)
  have Pq := P.step hb
  have Qq := Q.step hb
  clear HB SG SA SB SC SD SE SF P Q
  have HB := HBq
  have SG := SGq
  have SA := SAq
  have SB := SBq
  have SC := SCq
  have SD := SDq
  have SE := SEq
  have SF := SFq
  have P := Pq
  have Q := Qq
  clear HBq SGq SAq SBq SCq SDq SEq SFq Pq Qq
  have SH := Lib.hid hs
  clear P1 P2 Q1 Q2
  clear hb hs
  obtain ⟨-, P1, P2⟩ := id P
  obtain ⟨-, Q1, Q2⟩ := id Q
  clear CR SO hX hY
  go_wp2_with fail
  refine (sEqual_any ua _ [1, 0, 2, 2, -1] _ (by simp) (SA.out.step (bx _ _)) (seesI_lit w7 [1, 0, 2, 2, -1] 3 (by simp))).mono ?_
  rintro e w8 ⟨rfl, hb⟩
  have hc := (bx w7 _).trans (hb.mono (by simp <;> omega))
  have HBq := Lib.hid (below_nxt HB.out hc)
  have SGq := Lib.hid (SG.out.step hc)
  have SAq := Lib.hid (SA.out.step hc)
  have SBq := Lib.hid (SB.out.step hc)
  have SCq := Lib.hid (SC.out.step hc)
  have SDq := Lib.hid (SD.out.step hc)
  have SEq := Lib.hid (SE.out.step hc)
  have SFq := Lib.hid (SF.out.step hc)
  have SHq := Lib.hid (SH.out.step hc)
  have Pq := P.step hc
  have Qq := Q.step hc
  clear HB SG SA SB SC SD SE SF SH P Q
  have HB := HBq
  have SG := SGq
  have SA := SAq
  have SB := SBq
  have SC := SCq
  have SD := SDq
  have SE := SEq
  have SF := SFq
  have SH := SHq
  have P := Pq
  have Q := Qq
  clear HBq SGq SAq SBq SCq SDq SEq SFq SHq Pq Qq
  clear P1 P2 Q1 Q2
  clear hb hc
  obtain ⟨-, P1, P2⟩ := id P
  obtain ⟨-, Q1, Q2⟩ := id Q
  go_wp2_with fail
  refine (sEqual_any ub _ [2, 1, 0] _ (by simp) (SB.out.step (bx _ _)) (seesI_lit w8 [2, 1, 0] 3 (by simp))).mono ?_
  rintro e w9 ⟨rfl, hb⟩
  have hc := (bx w8 _).trans (hb.mono (by simp <;> omega))
  have HBq := Lib.hid (below_nxt HB.out hc)
  have SGq := Lib.hid (SG.out.step hc)
  have SAq := Lib.hid (SA.out.step hc)
  have SBq := Lib.hid (SB.out.step hc)
  have SCq := Lib.hid (SC.out.step hc)
  have SDq := Lib.hid (SD.out.step hc)
  have SEq := Lib.hid (SE.out.step hc)
  have SFq := Lib.hid (SF.out.step hc)
  have SHq := Lib.hid (SH.out.step hc)
  have Pq := P.step hc
  have Qq := Q.step hc
  clear HB SG SA SB SC SD SE SF SH P Q
  have HB := HBq
  have SG := SGq
  have SA := SAq
  have SB := SBq
  have SC := SCq
  have SD := SDq
  have SE := SEq
  have SF := SFq
  have SH := SHq
  have P := Pq
  have Q := Qq
  clear HBq SGq SAq SBq SCq SDq SEq SFq SHq Pq Qq
  clear P1 P2 Q1 Q2
  clear hb hc
  obtain ⟨-, P1, P2⟩ := id P
  obtain ⟨-, Q1, Q2⟩ := id Q
  go_wp2_with fail
  refine (sEqual_any uc _ [0, 2, 1] _ (by simp) (SC.out.step (bx _ _)) (seesI_lit w9 [0, 2, 1] 3 (by simp))).mono ?_
  rintro e w10 ⟨rfl, hb⟩
  have hc := (bx w9 _).trans (hb.mono (by simp <;> omega))
  have HBq := Lib.hid (below_nxt HB.out hc)
  have SGq := Lib.hid (SG.out.step hc)
  have SAq := Lib.hid (SA.out.step hc)
  have SBq := Lib.hid (SB.out.step hc)
  have SCq := Lib.hid (SC.out.step hc)
  have SDq := Lib.hid (SD.out.step hc)
  have SEq := Lib.hid (SE.out.step hc)
  have SFq := Lib.hid (SF.out.step hc)
  have SHq := Lib.hid (SH.out.step hc)
  have Pq := P.step hc
  have Qq := Q.step hc
  clear HB SG SA SB SC SD SE SF SH P Q
  have HB := HBq
  have SG := SGq
  have SA := SAq
  have SB := SBq
  have SC := SCq
  have SD := SDq
  have SE := SEq
  have SF := SFq
  have SH := SHq
  have P := Pq
  have Q := Qq
  clear HBq SGq SAq SBq SCq SDq SEq SFq SHq Pq Qq
  clear P1 P2 Q1 Q2
  clear hb hc
  obtain ⟨-, P1, P2⟩ := id P
  obtain ⟨-, Q1, Q2⟩ := id Q
  go_wp2_with fail
  refine (rSameL_any ud _ [[0, 1, 2], [3], [4]] _ ((((SD.out.step (bx _ _)).step (bx _ _)).step (bx _ _)).step (bx _ _)) (seesN_lit3 w10 3 27)).mono ?_
  rintro e w11 ⟨rfl, hb⟩
  have hc := ((((bx w10 _).alloc (by simp) _).alloc (by simp <;> omega) _).alloc (by simp <;> omega) _).trans (hb.mono (by simp <;> omega))
  have HBq := Lib.hid (below_nxt HB.out hc)
  have SGq := Lib.hid (SG.out.step hc)
  have SAq := Lib.hid (SA.out.step hc)
  have SBq := Lib.hid (SB.out.step hc)
  have SCq := Lib.hid (SC.out.step hc)
  have SDq := Lib.hid (SD.out.step hc)
  have SEq := Lib.hid (SE.out.step hc)
  have SFq := Lib.hid (SF.out.step hc)
  have SHq := Lib.hid (SH.out.step hc)
  have Pq := P.step hc
  have Qq := Q.step hc
  clear HB SG SA SB SC SD SE SF SH P Q
  have HB := HBq
  have SG := SGq
  have SA := SAq
  have SB := SBq
  have SC := SCq
  have SD := SDq
  have SE := SEq
  have SF := SFq
  have SH := SHq
  have P := Pq
  have Q := Qq
  clear HBq SGq SAq SBq SCq SDq SEq SFq SHq Pq Qq
  clear P1 P2 Q1 Q2
  clear hb hc
  obtain ⟨-, P1, P2⟩ := id P
  obtain ⟨-, Q1, Q2⟩ := id Q
  go_wp2_with fail
  refine (rSame_any 3 (.slice ae 1 ce) _ (Dg.cst [(0, 1)]) _ (SE.out.step (bx _ _)) (seesE_lit w11 (Dg.cst [(0, 1)]) 60 (by decide))).mono ?_
  rintro e w12 ⟨rfl, hb⟩
  have hc := (bx w11 _).trans (hb.mono (by simp <;> omega))
  have HBq := Lib.hid (below_nxt HB.out hc)
  have SGq := Lib.hid (SG.out.step hc)
  have SAq := Lib.hid (SA.out.step hc)
  have SBq := Lib.hid (SB.out.step hc)
  have SCq := Lib.hid (SC.out.step hc)
  have SDq := Lib.hid (SD.out.step hc)
  have SEq := Lib.hid (SE.out.step hc)
  have SFq := Lib.hid (SF.out.step hc)
  have SHq := Lib.hid (SH.out.step hc)
  have Pq := P.step hc
  have Qq := Q.step hc
  clear HB SG SA SB SC SD SE SF SH P Q
  have HB := HBq
  have SG := SGq
  have SA := SAq
  have SB := SBq
  have SC := SCq
  have SD := SDq
  have SE := SEq
  have SF := SFq
  have SH := SHq
  have P := Pq
  have Q := Qq
  clear HBq SGq SAq SBq SCq SDq SEq SFq SHq Pq Qq
  clear P1 P2 Q1 Q2
  clear hb hc
  obtain ⟨-, P1, P2⟩ := id P
  obtain ⟨-, Q1, Q2⟩ := id Q
  go_wp2_with fail
  refine (sEqual_any uf _ [0, 0, 0, 1, 2] _ (by simp) (SF.out.step (bx _ _)) (seesI_lit w12 [0, 0, 0, 1, 2] 3 (by simp))).mono ?_
  rintro e w13 ⟨rfl, hb⟩
  have hc := (bx w12 _).trans (hb.mono (by simp <;> omega))
  have HBq := Lib.hid (below_nxt HB.out hc)
  have SGq := Lib.hid (SG.out.step hc)
  have SAq := Lib.hid (SA.out.step hc)
  have SBq := Lib.hid (SB.out.step hc)
  have SCq := Lib.hid (SC.out.step hc)
  have SDq := Lib.hid (SD.out.step hc)
  have SEq := Lib.hid (SE.out.step hc)
  have SFq := Lib.hid (SF.out.step hc)
  have SHq := Lib.hid (SH.out.step hc)
  have Pq := P.step hc
  have Qq := Q.step hc
  clear HB SG SA SB SC SD SE SF SH P Q
  have HB := HBq
  have SG := SGq
  have SA := SAq
  have SB := SBq
  have SC := SCq
  have SD := SDq
  have SE := SEq
  have SF := SFq
  have SH := SHq
  have P := Pq
  have Q := Qq
  clear HBq SGq SAq SBq SCq SDq SEq SFq SHq Pq Qq
  clear P1 P2 Q1 Q2
  clear hb hc
  obtain ⟨-, P1, P2⟩ := id P
  obtain ⟨-, Q1, Q2⟩ := id Q
  go_wp2_with fail
  refine (sEqual_any uh _ [2, 3, 1, 0] _ (by simp) (SH.out.step (bx _ _)) (seesI_lit w13 [2, 3, 1, 0] 3 (by simp))).mono ?_
  rintro e w14 ⟨rfl, hb⟩
  have hc := (bx w13 _).trans (hb.mono (by simp <;> omega))
  have HBq := Lib.hid (below_nxt HB.out hc)
  have SGq := Lib.hid (SG.out.step hc)
  have SAq := Lib.hid (SA.out.step hc)
  have SBq := Lib.hid (SB.out.step hc)
  have SCq := Lib.hid (SC.out.step hc)
  have SDq := Lib.hid (SD.out.step hc)
  have SEq := Lib.hid (SE.out.step hc)
  have SFq := Lib.hid (SF.out.step hc)
  have SHq := Lib.hid (SH.out.step hc)
  have Pq := P.step hc
  have Qq := Q.step hc
  clear HB SG SA SB SC SD SE SF SH P Q
  have HB := HBq
  have SG := SGq
  have SA := SAq
  have SB := SBq
  have SC := SCq
  have SD := SDq
  have SE := SEq
  have SF := SFq
  have SH := SHq
  have P := Pq
  have Q := Qq
  clear HBq SGq SAq SBq SCq SDq SEq SFq SHq Pq Qq
  clear P1 P2 Q1 Q2
  clear hb hc
  obtain ⟨-, P1, P2⟩ := id P
  obtain ⟨-, Q1, Q2⟩ := id Q
  go_wp2
  go_ret
  exact ⟨rfl, HB.out⟩
end Go.Proofs.Ytkjhockppkdakaa
