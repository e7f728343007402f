/- The law DigraphReaches. -/
import Derived.Test.YtkjhockppkdakaaDM
import Derived.Test.YtkjhockppkdakaaDQ
namespace Go.Proofs.Ytkjhockppkdakaa
open Go.RowKit Go.Shelf

set_option maxHeartbeats 4000000 in
set_option maxRecDepth 100000 in
theorem reaches_any (n x : Int) (E : List (Int × Int)) (v : Value) (w : World) (hv : SeesE w v E) :
    Calls Try.prog 3 #[.agg #[.int .i64 n, v], .int .i64 x] w fun e w' => e = .returned (.bool true) ∧ Below w.heap.size w w' := by
  have CF := fun W h => rFew_any n v E W h
  have SG := Lib.hid hv
  obtain ⟨ao, cap, rfl⟩ := hv.slice
  obtain ⟨P, L0, z0⟩ := gph_new w n (.slice ao E.length cap) 24
  generalize hX : w.alloc (.cells #[.int .i64 n, .slice ao E.length cap] 24) = X at *
  obtain ⟨-, P1, P2⟩ := id P
  have HB := Lib.hid L0
  have SGq := Lib.hid (SG.out.step HB.out)
  clear SG
  have SG := SGq
  clear SGq hv L0 z0
  go_enter Try.func3, Try.ntmps3
  go_wp2_with fail
  refine (CF _ SG.out).mono ?_
  rintro e w1 ⟨rfl, hb⟩
  have HBq := Lib.hid (below_nxt HB.out hb)
  have SGq := Lib.hid (SG.out.step hb)
  have Pq := P.step hb
  clear HB SG P
  have HB := HBq
  have SG := SGq
  have P := Pq
  clear HBq SGq Pq
  clear P1 P2
  clear hb
  obtain ⟨-, P1, P2⟩ := id P
  clear CF hX
  cases hf : Dg.few n E
  · go_wp2_with fail
    refine (awake_any _).mono ?_
    rintro e w2 ⟨rfl, hb⟩
    have HBq := Lib.hid (below_nxt HB.out hb)
    have SGq := Lib.hid (SG.out.step hb)
    have Pq := P.step hb
    clear HB SG P
    have HB := HBq
    have SG := SGq
    have P := Pq
    clear HBq SGq Pq
    clear P1 P2
    clear hb
    obtain ⟨-, P1, P2⟩ := id P
    go_wp2
    go_ret
    exact ⟨rfl, HB.out⟩
  · have HF := Lib.hid hf
    clear hf
    go_wp2_with fail
    refine (dReach_few n x E _ _ HF.out SG.out).mono ?_
    rintro e w2 ⟨ua, rfl, hs, hb⟩
    have HBq := Lib.hid (below_nxt HB.out hb)
    have SGq := Lib.hid (SG.out.step hb)
    have Pq := P.step hb
    clear HB SG P
    have HB := HBq
    have SG := SGq
    have P := Pq
    clear HBq SGq Pq
    have SA := Lib.hid hs
    clear P1 P2
    clear hb hs
    obtain ⟨-, P1, P2⟩ := id P
    go_wp2_with fail
    refine (rReach_any n x E _ _ SG.out).mono ?_
    rintro e w3 ⟨ub, rfl, hs, hb⟩
    have HBq := Lib.hid (below_nxt HB.out hb)
    have SGq := Lib.hid (SG.out.step hb)
    have SAq := Lib.hid (SA.out.step hb)
    have Pq := P.step hb
    clear HB SG SA P
    have HB := HBq
    have SG := SGq
    have SA := SAq
    have P := Pq
    clear HBq SGq SAq Pq
    have SB := Lib.hid hs
    clear P1 P2
    clear hb hs
    obtain ⟨-, P1, P2⟩ := id P
    go_wp2_with fail
    refine (dDist_few n x E _ _ HF.out SG.out).mono ?_
    rintro e w4 ⟨uc, rfl, hs, hb⟩
    have HBq := Lib.hid (below_nxt HB.out hb)
    have SGq := Lib.hid (SG.out.step hb)
    have SAq := Lib.hid (SA.out.step hb)
    have SBq := Lib.hid (SB.out.step hb)
    have Pq := P.step hb
    clear HB SG SA SB P
    have HB := HBq
    have SG := SGq
    have SA := SAq
    have SB := SBq
    have P := Pq
    clear HBq SGq SAq SBq Pq
    have SC := Lib.hid hs
    clear P1 P2
    clear hb hs
    obtain ⟨-, P1, P2⟩ := id P
    go_wp2_with fail
    refine (rDist_any n x E _ _ SG.out).mono ?_
    rintro e w5 ⟨ud, rfl, hs, hb⟩
    have HBq := Lib.hid (below_nxt HB.out hb)
    have SGq := Lib.hid (SG.out.step hb)
    have SAq := Lib.hid (SA.out.step hb)
    have SBq := Lib.hid (SB.out.step hb)
    have SCq := Lib.hid (SC.out.step hb)
    have Pq := P.step hb
    clear HB SG SA SB SC P
    have HB := HBq
    have SG := SGq
    have SA := SAq
    have SB := SBq
    have SC := SCq
    have P := Pq
    clear HBq SGq SAq SBq SCq Pq
    have SD := Lib.hid hs
    clear P1 P2
    clear hb hs
    obtain ⟨-, P1, P2⟩ := id P
    generalize Dg.chkV n E [x] = k at *
    go_wp2_with fail
    have HBq := Lib.hid (below_nxt HB.out (Below.refl w5.heap.size w5).drew)
    have SGq := Lib.hid (SG.out.step (Below.refl w5.heap.size w5).drew)
    have SAq := Lib.hid (SA.out.step (Below.refl w5.heap.size w5).drew)
    have SBq := Lib.hid (SB.out.step (Below.refl w5.heap.size w5).drew)
    have SCq := Lib.hid (SC.out.step (Below.refl w5.heap.size w5).drew)
    have SDq := Lib.hid (SD.out.step (Below.refl w5.heap.size w5).drew)
    have Pq := P.step (Below.refl w5.heap.size w5).drew
    clear HB SG SA SB SC SD P
    have HB := HBq
    have SG := SGq
    have SA := SAq
    have SB := SBq
    have SC := SCq
    have SD := SDq
    have P := Pq
    clear HBq SGq SAq SBq SCq SDq Pq
    clear P1 P2
    obtain ⟨-, P1, P2⟩ := id P
    go_region_held3 (fun W => W.cell? ⟨w.heap.size, 0, none⟩ = some (.int .i64 n) ∧ W.cell? ⟨w.heap.size, 1, none⟩ = some (.slice ao E.length cap))
      (first | (refine ⟨?_, ?_⟩ <;> with_reducible assumption) | (go_split_ands; refine ⟨?_, ?_⟩ <;> with_reducible assumption))
      (first
        | (go_at_call 12; (with_reducible refine (awake_any _).mono ?_); rintro e wn ⟨rfl, hb⟩; have HBq := Lib.hid (below_nxt HB.out hb); have SGq := Lib.hid (SG.out.step hb); have SAq := Lib.hid (SA.out.step hb); have SBq := Lib.hid (SB.out.step hb); have SCq := Lib.hid (SC.out.step hb); have SDq := Lib.hid (SD.out.step hb); have Pq := P.step hb; clear HB SG SA SB SC SD P; have HB := HBq; have SG := SGq; have SA := SAq; have SB := SBq; have SC := SCq; have SD := SDq; have P := Pq; clear HBq SGq SAq SBq SCq SDq Pq; clear P1 P2; clear hb; obtain ⟨-, P1, P2⟩ := id P)
        | (go_at_call 17; (with_reducible refine (dChk_any n _ E _ SG.out).mono ?_); rintro e wn ⟨rfl, hb⟩; have HBq := Lib.hid (below_nxt HB.out hb); have SGq := Lib.hid (SG.out.step hb); have SAq := Lib.hid (SA.out.step hb); have SBq := Lib.hid (SB.out.step hb); have SCq := Lib.hid (SC.out.step hb); have SDq := Lib.hid (SD.out.step hb); have Pq := P.step hb; clear HB SG SA SB SC SD P; have HB := HBq; have SG := SGq; have SA := SAq; have SB := SBq; have SC := SCq; have SD := SDq; have P := Pq; clear HBq SGq SAq SBq SCq SDq Pq; clear P1 P2; clear hb; obtain ⟨-, P1, P2⟩ := id P)
        | (go_at_call 18; (with_reducible refine (rChk_any n _ E _ SG.out).mono ?_); rintro e wn ⟨rfl, hb⟩; have HBq := Lib.hid (below_nxt HB.out hb); have SGq := Lib.hid (SG.out.step hb); have SAq := Lib.hid (SA.out.step hb); have SBq := Lib.hid (SB.out.step hb); have SCq := Lib.hid (SC.out.step hb); have SDq := Lib.hid (SD.out.step hb); have Pq := P.step hb; clear HB SG SA SB SC SD P; have HB := HBq; have SG := SGq; have SA := SAq; have SB := SBq; have SC := SCq; have SD := SDq; have P := Pq; clear HBq SGq SAq SBq SCq SDq Pq; clear P1 P2; clear hb; obtain ⟨-, P1, P2⟩ := id P)
        | (go_at_call 19; (with_reducible refine (rSameI_any ua ub _ _ SA.out SB.out).mono ?_); rintro e wn ⟨rfl, hb⟩; have HBq := Lib.hid (below_nxt HB.out hb); have SGq := Lib.hid (SG.out.step hb); have SAq := Lib.hid (SA.out.step hb); have SBq := Lib.hid (SB.out.step hb); have SCq := Lib.hid (SC.out.step hb); have SDq := Lib.hid (SD.out.step hb); have Pq := P.step hb; clear HB SG SA SB SC SD P; have HB := HBq; have SG := SGq; have SA := SAq; have SB := SBq; have SC := SCq; have SD := SDq; have P := Pq; clear HBq SGq SAq SBq SCq SDq Pq; clear P1 P2; clear hb; obtain ⟨-, P1, P2⟩ := id P)
        | (go_at_call 19; (with_reducible refine (rSameI_any uc ud _ _ SC.out SD.out).mono ?_); rintro e wn ⟨rfl, hb⟩; have HBq := Lib.hid (below_nxt HB.out hb); have SGq := Lib.hid (SG.out.step hb); have SAq := Lib.hid (SA.out.step hb); have SBq := Lib.hid (SB.out.step hb); have SCq := Lib.hid (SC.out.step hb); have SDq := Lib.hid (SD.out.step hb); have Pq := P.step hb; clear HB SG SA SB SC SD P; have HB := HBq; have SG := SGq; have SA := SAq; have SB := SBq; have SC := SCq; have SD := SDq; have P := Pq; clear HBq SGq SAq SBq SCq SDq Pq; clear P1 P2; clear hb; obtain ⟨-, P1, P2⟩ := id P))
    all_goals (go_wp2; go_ret; exact ⟨rfl, HB.out⟩)
end Go.Proofs.Ytkjhockppkdakaa
