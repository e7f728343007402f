/- The law DigraphParts. -/
import Derived.Test.YtkjhockppkdakaaFI
import Derived.Test.YtkjhockppkdakaaDQ
namespace Go.Proofs.Ytkjhockppkdakaa
open Go.RowKit Go.Shelf

set_option maxHeartbeats 4000000 in
set_option maxRecDepth 100000 in
theorem parts_any (n : Int) (E : List (Int × Int)) (v : Value) (w : World) (hv : SeesE w v E) :
    Calls Try.prog 6 #[.agg #[.int .i64 n, v]] w fun e w' => e = .returned (.bool true) ∧ Below w.heap.size w w' := by
  have CF := fun W h => rFew_any n v E W h
  have SG := Lib.hid hv
  obtain ⟨ao, cap, rfl⟩ := hv.slice
  skip
  obtain ⟨P, L0, z0⟩ := gph_new w n (.slice ao E.length cap) 24
  generalize hX : w.alloc (.cells #[.int .i64 n, .slice ao E.length cap] 24) = X at *
  obtain ⟨-, P1, P2⟩ := id P
  have HB := Lib.hid L0
  have SGq := Lib.hid (SG.out.step HB.out)
  clear SG
  have SG := SGq
  clear SGq hv L0 z0
  go_enter Try.func6, Try.ntmps6
  go_wp2_with fail
  refine (CF _ SG.out).mono ?_
  rintro e w1 ⟨rfl, hb⟩
  have HBq := Lib.hid (below_nxt HB.out hb)
  have SGq := Lib.hid (SG.out.step hb)
  have Pq := P.step hb
  clear HB SG P
  have HB := HBq
  have SG := SGq
  have P := Pq
  clear HBq SGq Pq
  clear P1 P2
  clear hb
  obtain ⟨-, P1, P2⟩ := id P
  clear CF hX
  cases hf : Dg.few n E
  · go_wp2_with fail
    refine (awake_any _).mono ?_
    rintro e w2 ⟨rfl, hb⟩
    have HBq := Lib.hid (below_nxt HB.out hb)
    have SGq := Lib.hid (SG.out.step hb)
    have Pq := P.step hb
    clear HB SG P
    have HB := HBq
    have SG := SGq
    have P := Pq
    clear HBq SGq Pq
    clear P1 P2
    clear hb
    obtain ⟨-, P1, P2⟩ := id P
    go_wp2
    go_ret
    exact ⟨rfl, HB.out⟩
  · have HF := Lib.hid hf
    clear hf
    have C1 := fun W h => dCompo_few n E (.slice ao E.length cap) W HF.out h
    have C2 := fun W h => rCompo_any n E (.slice ao E.length cap) W h
    have C3 := fun W h => dCond_few n E (.slice ao E.length cap) W HF.out h
    have C4 := fun W h => rCond_any n E (.slice ao E.length cap) W h
    generalize Dg.chk n E = k at *
    generalize Dg.psV n E = PS at *
    generalize Dg.cnV n E = N2 at *
    generalize Dg.ceV n E = E2 at *
    generalize Dg.atV n E = AT at *
    go_wp2_with fail
    refine (C1 _ SG.out).mono ?_
    rintro e w2 ⟨ua, rfl, hs, hb⟩
    have HBq := Lib.hid (below_nxt HB.out hb)
    have SGq := Lib.hid (SG.out.step hb)
    have Pq := P.step hb
    clear HB SG P
    have HB := HBq
    have SG := SGq
    have P := Pq
    clear HBq SGq Pq
    have SA := Lib.hid hs
    clear P1 P2
    clear hb hs
    obtain ⟨-, P1, P2⟩ := id P
    go_wp2_with fail
    refine (C2 _ SG.out).mono ?_
    rintro e w3 ⟨ub, rfl, hs, hb⟩
    have HBq := Lib.hid (below_nxt HB.out hb)
    have SGq := Lib.hid (SG.out.step hb)
    have SAq := Lib.hid (SA.out.step hb)
    have Pq := P.step hb
    clear HB SG SA P
    have HB := HBq
    have SG := SGq
    have SA := SAq
    have P := Pq
    clear HBq SGq SAq Pq
    have SB := Lib.hid hs
    clear P1 P2
    clear hb hs
    obtain ⟨-, P1, P2⟩ := id P
    go_wp2_with fail
    refine (C3 _ SG.out).mono ?_
    rintro e w4 ⟨uc, ue, rfl, hs, hs2, hb⟩
    have HBq := Lib.hid (below_nxt HB.out hb)
    have SGq := Lib.hid (SG.out.step hb)
    have SAq := Lib.hid (SA.out.step hb)
    have SBq := Lib.hid (SB.out.step hb)
    have Pq := P.step hb
    clear HB SG SA SB P
    have HB := HBq
    have SG := SGq
    have SA := SAq
    have SB := SBq
    have P := Pq
    clear HBq SGq SAq SBq Pq
    have SC := Lib.hid hs
    have SE := Lib.hid hs2
    clear P1 P2
    clear hb hs hs2
    obtain ⟨-, P1, P2⟩ := id P
    obtain ⟨aQ, cQ, hag⟩ := SC.out.slice
    subst hag
    obtain ⟨Q, L0, z0⟩ := gph_new w4 N2 (.slice aQ E2.length cQ) 24
    generalize hXQ : w4.alloc (.cells #[.int .i64 N2, .slice aQ E2.length cQ] 24) = YQ at *
    have HBq := Lib.hid (below_nxt HB.out L0)
    have SGq := Lib.hid (SG.out.step L0)
    have SAq := Lib.hid (SA.out.step L0)
    have SBq := Lib.hid (SB.out.step L0)
    have SCq := Lib.hid (SC.out.step L0)
    have SEq := Lib.hid (SE.out.step L0)
    have Pq := P.step L0
    clear HB SG SA SB SC SE P
    have HB := HBq
    have SG := SGq
    have SA := SAq
    have SB := SBq
    have SC := SCq
    have SE := SEq
    have P := Pq
    clear HBq SGq SAq SBq SCq SEq Pq
    clear P1 P2
    obtain ⟨-, P1, P2⟩ := id P
    obtain ⟨-, Q1, Q2⟩ := id Q
    clear L0 z0
    go_wp2_with fail
    refine (C4 _ SG.out).mono ?_
    rintro e w5 ⟨ud, ug, rfl, hs, hs2, hb⟩
    have HBq := Lib.hid (below_nxt HB.out hb)
    have SGq := Lib.hid (SG.out.step hb)
    have SAq := Lib.hid (SA.out.step hb)
    have SBq := Lib.hid (SB.out.step hb)
    have SCq := Lib.hid (SC.out.step hb)
    have SEq := Lib.hid (SE.out.step hb)
    have Pq := P.step hb
    have Qq := Q.step hb
    clear HB SG SA SB SC SE P Q
    have HB := HBq
    have SG := SGq
    have SA := SAq
    have SB := SBq
    have SC := SCq
    have SE := SEq
    have P := Pq
    have Q := Qq
    clear HBq SGq SAq SBq SCq SEq Pq Qq
    have SD := Lib.hid hs
    have SF := Lib.hid hs2
    clear P1 P2 Q1 Q2
    clear hb hs hs2
    obtain ⟨-, P1, P2⟩ := id P
    obtain ⟨-, Q1, Q2⟩ := id Q
    clear hXQ
    obtain ⟨aR, cR, hag⟩ := SD.out.slice
    subst hag
    obtain ⟨R, L0, z0⟩ := gph_new w5 N2 (.slice aR E2.length cR) 24
    generalize hXR : w5.alloc (.cells #[.int .i64 N2, .slice aR E2.length cR] 24) = YR at *
    have HBq := Lib.hid (below_nxt HB.out L0)
    have SGq := Lib.hid (SG.out.step L0)
    have SAq := Lib.hid (SA.out.step L0)
    have SBq := Lib.hid (SB.out.step L0)
    have SCq := Lib.hid (SC.out.step L0)
    have SEq := Lib.hid (SE.out.step L0)
    have SDq := Lib.hid (SD.out.step L0)
    have SFq := Lib.hid (SF.out.step L0)
    have Pq := P.step L0
    have Qq := Q.step L0
    clear HB SG SA SB SC SE SD SF P Q
    have HB := HBq
    have SG := SGq
    have SA := SAq
    have SB := SBq
    have SC := SCq
    have SE := SEq
    have SD := SDq
    have SF := SFq
    have P := Pq
    have Q := Qq
    clear HBq SGq SAq SBq SCq SEq SDq SFq Pq Qq
    clear P1 P2 Q1 Q2
    obtain ⟨-, P1, P2⟩ := id P
    obtain ⟨-, Q1, Q2⟩ := id Q
    obtain ⟨-, R1, R2⟩ := id R
    clear L0 z0
    clear C1 C2 C3 C4
    go_wp2_with fail
    refine (awake_any _).mono ?_
    rintro e w6 ⟨rfl, hb⟩
    have HBq := Lib.hid (below_nxt HB.out hb)
    have SGq := Lib.hid (SG.out.step hb)
    have SAq := Lib.hid (SA.out.step hb)
    have SBq := Lib.hid (SB.out.step hb)
    have SCq := Lib.hid (SC.out.step hb)
    have SEq := Lib.hid (SE.out.step hb)
    have SDq := Lib.hid (SD.out.step hb)
    have SFq := Lib.hid (SF.out.step hb)
    have Pq := P.step hb
    have Qq := Q.step hb
    have Rq := R.step hb
    clear HB SG SA SB SC SE SD SF P Q R
    have HB := HBq
    have SG := SGq
    have SA := SAq
    have SB := SBq
    have SC := SCq
    have SE := SEq
    have SD := SDq
    have SF := SFq
    have P := Pq
    have Q := Qq
    have R := Rq
    clear HBq SGq SAq SBq SCq SEq SDq SFq Pq Qq Rq
    clear P1 P2 Q1 Q2 R1 R2
    clear hb
    obtain ⟨-, P1, P2⟩ := id P
    obtain ⟨-, Q1, Q2⟩ := id Q
    obtain ⟨-, R1, R2⟩ := id R
    clear hXR
    go_wp2_with fail
    refine (rSameL_any ua ub _ _ SA.out SB.out).mono ?_
    rintro e w7 ⟨rfl, hb⟩
    have HBq := Lib.hid (below_nxt HB.out hb)
    have SGq := Lib.hid (SG.out.step hb)
    have SAq := Lib.hid (SA.out.step hb)
    have SBq := Lib.hid (SB.out.step hb)
    have SCq := Lib.hid (SC.out.step hb)
    have SEq := Lib.hid (SE.out.step hb)
    have SDq := Lib.hid (SD.out.step hb)
    have SFq := Lib.hid (SF.out.step hb)
    have Pq := P.step hb
    have Qq := Q.step hb
    have Rq := R.step hb
    clear HB SG SA SB SC SE SD SF P Q R
    have HB := HBq
    have SG := SGq
    have SA := SAq
    have SB := SBq
    have SC := SCq
    have SE := SEq
    have SD := SDq
    have SF := SFq
    have P := Pq
    have Q := Qq
    have R := Rq
    clear HBq SGq SAq SBq SCq SEq SDq SFq Pq Qq Rq
    clear P1 P2 Q1 Q2 R1 R2
    clear hb
    obtain ⟨-, P1, P2⟩ := id P
    obtain ⟨-, Q1, Q2⟩ := id Q
    obtain ⟨-, R1, R2⟩ := id R
    go_wp2_with fail
    refine (rSame_any N2 _ _ E2 _ SC.out SD.out).mono ?_
    rintro e w8 ⟨rfl, hb⟩
    have HBq := Lib.hid (below_nxt HB.out hb)
    have SGq := Lib.hid (SG.out.step hb)
    have SAq := Lib.hid (SA.out.step hb)
    have SBq := Lib.hid (SB.out.step hb)
    have SCq := Lib.hid (SC.out.step hb)
    have SEq := Lib.hid (SE.out.step hb)
    have SDq := Lib.hid (SD.out.step hb)
    have SFq := Lib.hid (SF.out.step hb)
    have Pq := P.step hb
    have Qq := Q.step hb
    have Rq := R.step hb
    clear HB SG SA SB SC SE SD SF P Q R
    have HB := HBq
    have SG := SGq
    have SA := SAq
    have SB := SBq
    have SC := SCq
    have SE := SEq
    have SD := SDq
    have SF := SFq
    have P := Pq
    have Q := Qq
    have R := Rq
    clear HBq SGq SAq SBq SCq SEq SDq SFq Pq Qq Rq
    clear P1 P2 Q1 Q2 R1 R2
    clear hb
    obtain ⟨-, P1, P2⟩ := id P
    obtain ⟨-, Q1, Q2⟩ := id Q
    obtain ⟨-, R1, R2⟩ := id R
    go_wp2_with fail
    refine (rSameI_any ue ug _ _ SE.out SF.out).mono ?_
    rintro e w9 ⟨rfl, hb⟩
    have HBq := Lib.hid (below_nxt HB.out hb)
    have SGq := Lib.hid (SG.out.step hb)
    have SAq := Lib.hid (SA.out.step hb)
    have SBq := Lib.hid (SB.out.step hb)
    have SCq := Lib.hid (SC.out.step hb)
    have SEq := Lib.hid (SE.out.step hb)
    have SDq := Lib.hid (SD.out.step hb)
    have SFq := Lib.hid (SF.out.step hb)
    have Pq := P.step hb
    have Qq := Q.step hb
    have Rq := R.step hb
    clear HB SG SA SB SC SE SD SF P Q R
    have HB := HBq
    have SG := SGq
    have SA := SAq
    have SB := SBq
    have SC := SCq
    have SE := SEq
    have SD := SDq
    have SF := SFq
    have P := Pq
    have Q := Qq
    have R := Rq
    clear HBq SGq SAq SBq SCq SEq SDq SFq Pq Qq Rq
    clear P1 P2 Q1 Q2 R1 R2
    clear hb
    obtain ⟨-, P1, P2⟩ := id P
    obtain ⟨-, Q1, Q2⟩ := id Q
    obtain ⟨-, R1, R2⟩ := id R
    go_wp2
    go_ret
    exact ⟨rfl, HB.out⟩
end Go.Proofs.Ytkjhockppkdakaa
