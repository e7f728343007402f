/- The law DigraphSorts. -/
import Derived.Test.YtkjhockppkdakaaFM
import Derived.Test.YtkjhockppkdakaaDQ
namespace Go.Proofs.Ytkjhockppkdakaa
open Go.RowKit Go.Shelf

set_option maxHeartbeats 4000000 in
set_option maxRecDepth 100000 in
theorem sorts_any (n : Int) (E : List (Int × Int)) (v : Value) (w : World) (hv : SeesE w v E) :
    Calls Try.prog 5 #[.agg #[.int .i64 n, v]] w fun e w' => e = .returned (.bool true) ∧ Below w.heap.size w w' := by
  have CF := fun W h => rFew_any n v E W h
  have SG := Lib.hid hv
  obtain ⟨ao, cap, rfl⟩ := hv.slice
  skip
  obtain ⟨P, L0, z0⟩ := gph_new w n (.slice ao E.length cap) 24
  generalize hX : w.alloc (.cells #[.int .i64 n, .slice ao E.length cap] 24) = X at *
  obtain ⟨-, P1, P2⟩ := id P
  have HB := Lib.hid L0
  have SGq := Lib.hid (SG.out.step HB.out)
  clear SG
  have SG := SGq
  clear SGq hv L0 z0
  go_enter Try.func5, Try.ntmps5
  go_wp2_with fail
  refine (CF _ SG.out).mono ?_
  rintro e w1 ⟨rfl, hb⟩
  have HBq := Lib.hid (below_nxt HB.out hb)
  have SGq := Lib.hid (SG.out.step hb)
  have Pq := P.step hb
  clear HB SG P
  have HB := HBq
  have SG := SGq
  have P := Pq
  clear HBq SGq Pq
  clear P1 P2
  clear hb
  obtain ⟨-, P1, P2⟩ := id P
  clear CF hX
  cases hf : Dg.few n E
  · go_wp2_with fail
    refine (awake_any _).mono ?_
    rintro e w2 ⟨rfl, hb⟩
    have HBq := Lib.hid (below_nxt HB.out hb)
    have SGq := Lib.hid (SG.out.step hb)
    have Pq := P.step hb
    clear HB SG P
    have HB := HBq
    have SG := SGq
    have P := Pq
    clear HBq SGq Pq
    clear P1 P2
    clear hb
    obtain ⟨-, P1, P2⟩ := id P
    go_wp2
    go_ret
    exact ⟨rfl, HB.out⟩
  · have HF := Lib.hid hf
    clear hf
    have C1 := fun W h => dCyc_few n E (.slice ao E.length cap) W HF.out h
    have C2 := fun W h => rCyc_any n E (.slice ao E.length cap) W h
    have C3 := fun W h => dOrder_few n E (.slice ao E.length cap) W HF.out h
    have C4 := fun W h => rOrder_any n E (.slice ao E.length cap) W h
    have C5 := fun W h => dLayers_few n E (.slice ao E.length cap) W HF.out h
    have C6 := fun W h => rLayers_any n E (.slice ao E.length cap) W h
    have HLE := Lib.hid (fun L L' => @Dg.lay_eq n E L L')
    generalize Dg.cyE n E = kc at *
    generalize Dg.cyL n E = LC at *
    generalize Dg.orE n E = ko at *
    generalize Dg.orL n E = LO at *
    go_wp2_with fail
    refine (C1 _ SG.out).mono ?_
    rintro e w2 ⟨ua, rfl, hs, hb⟩
    have HBq := Lib.hid (below_nxt HB.out hb)
    have SGq := Lib.hid (SG.out.step hb)
    have Pq := P.step hb
    clear HB SG P
    have HB := HBq
    have SG := SGq
    have P := Pq
    clear HBq SGq Pq
    have SA := Lib.hid hs
    clear P1 P2
    clear hb hs
    obtain ⟨-, P1, P2⟩ := id P
    go_wp2_with fail
    refine (C2 _ SG.out).mono ?_
    rintro e w3 ⟨ub, rfl, hs, hb⟩
    have HBq := Lib.hid (below_nxt HB.out hb)
    have SGq := Lib.hid (SG.out.step hb)
    have SAq := Lib.hid (SA.out.step hb)
    have Pq := P.step hb
    clear HB SG SA P
    have HB := HBq
    have SG := SGq
    have SA := SAq
    have P := Pq
    clear HBq SGq SAq Pq
    have SB := Lib.hid hs
    clear P1 P2
    clear hb hs
    obtain ⟨-, P1, P2⟩ := id P
    go_wp2_with fail
    refine (C3 _ SG.out).mono ?_
    rintro e w4 ⟨uc, rfl, hs, hb⟩
    have HBq := Lib.hid (below_nxt HB.out hb)
    have SGq := Lib.hid (SG.out.step hb)
    have SAq := Lib.hid (SA.out.step hb)
    have SBq := Lib.hid (SB.out.step hb)
    have Pq := P.step hb
    clear HB SG SA SB P
    have HB := HBq
    have SG := SGq
    have SA := SAq
    have SB := SBq
    have P := Pq
    clear HBq SGq SAq SBq Pq
    have SC := Lib.hid hs
    clear P1 P2
    clear hb hs
    obtain ⟨-, P1, P2⟩ := id P
    go_wp2_with fail
    refine (C4 _ SG.out).mono ?_
    rintro e w5 ⟨ud, rfl, hs, hb⟩
    have HBq := Lib.hid (below_nxt HB.out hb)
    have SGq := Lib.hid (SG.out.step hb)
    have SAq := Lib.hid (SA.out.step hb)
    have SBq := Lib.hid (SB.out.step hb)
    have SCq := Lib.hid (SC.out.step hb)
    have Pq := P.step hb
    clear HB SG SA SB SC P
    have HB := HBq
    have SG := SGq
    have SA := SAq
    have SB := SBq
    have SC := SCq
    have P := Pq
    clear HBq SGq SAq SBq SCq Pq
    have SD := Lib.hid hs
    clear P1 P2
    clear hb hs
    obtain ⟨-, P1, P2⟩ := id P
    go_wp2_with fail
    refine (C5 _ SG.out).mono ?_
    rintro e w6 ⟨ue, L1, rfl, hl1, hs, hb⟩
    have HBq := Lib.hid (below_nxt HB.out hb)
    have SGq := Lib.hid (SG.out.step hb)
    have SAq := Lib.hid (SA.out.step hb)
    have SBq := Lib.hid (SB.out.step hb)
    have SCq := Lib.hid (SC.out.step hb)
    have SDq := Lib.hid (SD.out.step hb)
    have Pq := P.step hb
    clear HB SG SA SB SC SD P
    have HB := HBq
    have SG := SGq
    have SA := SAq
    have SB := SBq
    have SC := SCq
    have SD := SDq
    have P := Pq
    clear HBq SGq SAq SBq SCq SDq Pq
    have SE := Lib.hid hs
    clear P1 P2
    clear hb hs
    obtain ⟨-, P1, P2⟩ := id P
    go_wp2_with fail
    refine (C6 _ SG.out).mono ?_
    rintro e w7 ⟨uf, L2, rfl, hl2, hs, hb⟩
    have HBq := Lib.hid (below_nxt HB.out hb)
    have SGq := Lib.hid (SG.out.step hb)
    have SAq := Lib.hid (SA.out.step hb)
    have SBq := Lib.hid (SB.out.step hb)
    have SCq := Lib.hid (SC.out.step hb)
    have SDq := Lib.hid (SD.out.step hb)
    have SEq := Lib.hid (SE.out.step hb)
    have Pq := P.step hb
    clear HB SG SA SB SC SD SE P
    have HB := HBq
    have SG := SGq
    have SA := SAq
    have SB := SBq
    have SC := SCq
    have SD := SDq
    have SE := SEq
    have P := Pq
    clear HBq SGq SAq SBq SCq SDq SEq Pq
    have SF := Lib.hid hs
    clear P1 P2
    clear hb hs
    obtain ⟨-, P1, P2⟩ := id P
    obtain rfl := HLE.out _ _ hl1 hl2
    clear hl1 hl2 HLE C1 C2 C3 C4 C5 C6
    go_wp2_with fail
    refine (awake_any _).mono ?_
    rintro e w8 ⟨rfl, hb⟩
    have HBq := Lib.hid (below_nxt HB.out hb)
    have SGq := Lib.hid (SG.out.step hb)
    have SAq := Lib.hid (SA.out.step hb)
    have SBq := Lib.hid (SB.out.step hb)
    have SCq := Lib.hid (SC.out.step hb)
    have SDq := Lib.hid (SD.out.step hb)
    have SEq := Lib.hid (SE.out.step hb)
    have SFq := Lib.hid (SF.out.step hb)
    have Pq := P.step hb
    clear HB SG SA SB SC SD SE SF P
    have HB := HBq
    have SG := SGq
    have SA := SAq
    have SB := SBq
    have SC := SCq
    have SD := SDq
    have SE := SEq
    have SF := SFq
    have P := Pq
    clear HBq SGq SAq SBq SCq SDq SEq SFq Pq
    clear P1 P2
    clear hb
    obtain ⟨-, P1, P2⟩ := id P
    go_wp2_with fail
    refine (rSameI_any ua ub _ _ SA.out SB.out).mono ?_
    rintro e w9 ⟨rfl, hb⟩
    have HBq := Lib.hid (below_nxt HB.out hb)
    have SGq := Lib.hid (SG.out.step hb)
    have SAq := Lib.hid (SA.out.step hb)
    have SBq := Lib.hid (SB.out.step hb)
    have SCq := Lib.hid (SC.out.step hb)
    have SDq := Lib.hid (SD.out.step hb)
    have SEq := Lib.hid (SE.out.step hb)
    have SFq := Lib.hid (SF.out.step hb)
    have Pq := P.step hb
    clear HB SG SA SB SC SD SE SF P
    have HB := HBq
    have SG := SGq
    have SA := SAq
    have SB := SBq
    have SC := SCq
    have SD := SDq
    have SE := SEq
    have SF := SFq
    have P := Pq
    clear HBq SGq SAq SBq SCq SDq SEq SFq Pq
    clear P1 P2
    clear hb
    obtain ⟨-, P1, P2⟩ := id P
    go_wp2_with fail
    refine (rSameI_any uc ud _ _ SC.out SD.out).mono ?_
    rintro e w10 ⟨rfl, hb⟩
    have HBq := Lib.hid (below_nxt HB.out hb)
    have SGq := Lib.hid (SG.out.step hb)
    have SAq := Lib.hid (SA.out.step hb)
    have SBq := Lib.hid (SB.out.step hb)
    have SCq := Lib.hid (SC.out.step hb)
    have SDq := Lib.hid (SD.out.step hb)
    have SEq := Lib.hid (SE.out.step hb)
    have SFq := Lib.hid (SF.out.step hb)
    have Pq := P.step hb
    clear HB SG SA SB SC SD SE SF P
    have HB := HBq
    have SG := SGq
    have SA := SAq
    have SB := SBq
    have SC := SCq
    have SD := SDq
    have SE := SEq
    have SF := SFq
    have P := Pq
    clear HBq SGq SAq SBq SCq SDq SEq SFq Pq
    clear P1 P2
    clear hb
    obtain ⟨-, P1, P2⟩ := id P
    go_wp2_with fail
    refine (rSameI_any ue uf _ _ SE.out SF.out).mono ?_
    rintro e w11 ⟨rfl, hb⟩
    have HBq := Lib.hid (below_nxt HB.out hb)
    have SGq := Lib.hid (SG.out.step hb)
    have SAq := Lib.hid (SA.out.step hb)
    have SBq := Lib.hid (SB.out.step hb)
    have SCq := Lib.hid (SC.out.step hb)
    have SDq := Lib.hid (SD.out.step hb)
    have SEq := Lib.hid (SE.out.step hb)
    have SFq := Lib.hid (SF.out.step hb)
    have Pq := P.step hb
    clear HB SG SA SB SC SD SE SF P
    have HB := HBq
    have SG := SGq
    have SA := SAq
    have SB := SBq
    have SC := SCq
    have SD := SDq
    have SE := SEq
    have SF := SFq
    have P := Pq
    clear HBq SGq SAq SBq SCq SDq SEq SFq Pq
    clear P1 P2
    clear hb
    obtain ⟨-, P1, P2⟩ := id P
    go_wp2
    go_ret
    exact ⟨rfl, HB.out⟩
end Go.Proofs.Ytkjhockppkdakaa
