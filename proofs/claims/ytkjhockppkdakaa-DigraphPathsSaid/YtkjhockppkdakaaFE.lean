/- The law DigraphPaths. -/
import Derived.Test.YtkjhockppkdakaaFC
import Derived.Test.YtkjhockppkdakaaFD
import Derived.Test.YtkjhockppkdakaaDQ
namespace Go.Proofs.Ytkjhockppkdakaa
open Go.RowKit Go.Shelf

set_option maxHeartbeats 4000000 in
set_option maxRecDepth 100000 in
theorem paths_any (n x y : Int) (E : List (Int × Int)) (v : Value) (w : World) (hv : SeesE w v E) :
    Calls Try.prog 4 #[.agg #[.int .i64 n, v], .int .i64 x, .int .i64 y] w fun e w' => e = .returned (.bool true) ∧ Below w.heap.size w w' := by
  have CF := fun W h => rFew_any n v E W h
  have SG := Lib.hid hv
  obtain ⟨ao, cap, rfl⟩ := hv.slice
  skip
  obtain ⟨P, L0, z0⟩ := gph_new w n (.slice ao E.length cap) 24
  generalize hX : w.alloc (.cells #[.int .i64 n, .slice ao E.length cap] 24) = X at *
  obtain ⟨-, P1, P2⟩ := id P
  have HB := Lib.hid L0
  have SGq := Lib.hid (SG.out.step HB.out)
  clear SG
  have SG := SGq
  clear SGq hv L0 z0
  go_enter Try.func4, Try.ntmps4
  go_wp2_with fail
  refine (CF _ SG.out).mono ?_
  rintro e w1 ⟨rfl, hb⟩
  have HBq := Lib.hid (below_nxt HB.out hb)
  have SGq := Lib.hid (SG.out.step hb)
  have Pq := P.step hb
  clear HB SG P
  have HB := HBq
  have SG := SGq
  have P := Pq
  clear HBq SGq Pq
  clear P1 P2
  clear hb
  obtain ⟨-, P1, P2⟩ := id P
  clear CF hX
  cases hf : Dg.few n E
  · go_wp2_with fail
    refine (awake_any _).mono ?_
    rintro e w2 ⟨rfl, hb⟩
    have HBq := Lib.hid (below_nxt HB.out hb)
    have SGq := Lib.hid (SG.out.step hb)
    have Pq := P.step hb
    clear HB SG P
    have HB := HBq
    have SG := SGq
    have P := Pq
    clear HBq SGq Pq
    clear P1 P2
    clear hb
    obtain ⟨-, P1, P2⟩ := id P
    go_wp2
    go_ret
    exact ⟨rfl, HB.out⟩
  · have HF := Lib.hid hf
    clear hf
    have CR := fun W h => dReverse_any n E (.slice ao E.length cap) W h
    have CS := fun W h => rReverse_any n E (.slice ao E.length cap) W h
    generalize hN2 : (if Dg.chk n E = 0 then n else 0) = N2 at *
    generalize hE2 : (if Dg.chk n E = 0 then Dg.swp E else []) = E2 at *
    clear hN2 hE2
    generalize Dg.chk n E = k0 at *
    go_wp2_with fail
    refine (dPath_few n x y E _ _ HF.out SG.out).mono ?_
    rintro e w2 ⟨ua, rfl, hs, hb⟩
    have HBq := Lib.hid (below_nxt HB.out hb)
    have SGq := Lib.hid (SG.out.step hb)
    have Pq := P.step hb
    clear HB SG P
    have HB := HBq
    have SG := SGq
    have P := Pq
    clear HBq SGq Pq
    have SA := Lib.hid hs
    clear P1 P2
    clear hb hs
    obtain ⟨-, P1, P2⟩ := id P
    go_wp2_with fail
    refine (rPath_any n x y E _ _ SG.out).mono ?_
    rintro e w3 ⟨ub, rfl, hs, hb⟩
    have HBq := Lib.hid (below_nxt HB.out hb)
    have SGq := Lib.hid (SG.out.step hb)
    have SAq := Lib.hid (SA.out.step hb)
    have Pq := P.step hb
    clear HB SG SA P
    have HB := HBq
    have SG := SGq
    have SA := SAq
    have P := Pq
    clear HBq SGq SAq Pq
    have SB := Lib.hid hs
    clear P1 P2
    clear hb hs
    obtain ⟨-, P1, P2⟩ := id P
    go_wp2_with fail
    refine (CR _ SG.out).mono ?_
    rintro e w4 ⟨uc, rfl, hs, hb⟩
    have HBq := Lib.hid (below_nxt HB.out hb)
    have SGq := Lib.hid (SG.out.step hb)
    have SAq := Lib.hid (SA.out.step hb)
    have SBq := Lib.hid (SB.out.step hb)
    have Pq := P.step hb
    clear HB SG SA SB P
    have HB := HBq
    have SG := SGq
    have SA := SAq
    have SB := SBq
    have P := Pq
    clear HBq SGq SAq SBq Pq
    have SC := Lib.hid hs
    clear P1 P2
    clear hb hs
    obtain ⟨-, P1, P2⟩ := id P
    obtain ⟨aQ, cQ, hag⟩ := SC.out.slice
    subst hag
    obtain ⟨Q, L0, z0⟩ := gph_new w4 N2 (.slice aQ E2.length cQ) 24
    generalize hXQ : w4.alloc (.cells #[.int .i64 N2, .slice aQ E2.length cQ] 24) = YQ at *
    have HBq := Lib.hid (below_nxt HB.out L0)
    have SGq := Lib.hid (SG.out.step L0)
    have SAq := Lib.hid (SA.out.step L0)
    have SBq := Lib.hid (SB.out.step L0)
    have SCq := Lib.hid (SC.out.step L0)
    have Pq := P.step L0
    clear HB SG SA SB SC P
    have HB := HBq
    have SG := SGq
    have SA := SAq
    have SB := SBq
    have SC := SCq
    have P := Pq
    clear HBq SGq SAq SBq SCq Pq
    clear P1 P2
    obtain ⟨-, P1, P2⟩ := id P
    obtain ⟨-, Q1, Q2⟩ := id Q
    clear L0 z0
    go_wp2_with fail
    refine (CS _ SG.out).mono ?_
    rintro e w5 ⟨ud, rfl, hs, hb⟩
    have HBq := Lib.hid (below_nxt HB.out hb)
    have SGq := Lib.hid (SG.out.step hb)
    have SAq := Lib.hid (SA.out.step hb)
    have SBq := Lib.hid (SB.out.step hb)
    have SCq := Lib.hid (SC.out.step hb)
    have Pq := P.step hb
    have Qq := Q.step hb
    clear HB SG SA SB SC P Q
    have HB := HBq
    have SG := SGq
    have SA := SAq
    have SB := SBq
    have SC := SCq
    have P := Pq
    have Q := Qq
    clear HBq SGq SAq SBq SCq Pq Qq
    have SD := Lib.hid hs
    clear P1 P2 Q1 Q2
    clear hb hs
    obtain ⟨-, P1, P2⟩ := id P
    obtain ⟨-, Q1, Q2⟩ := id Q
    clear hXQ
    obtain ⟨aR, cR, hag⟩ := SD.out.slice
    subst hag
    obtain ⟨R, L0, z0⟩ := gph_new w5 N2 (.slice aR E2.length cR) 24
    generalize hXR : w5.alloc (.cells #[.int .i64 N2, .slice aR E2.length cR] 24) = YR at *
    have HBq := Lib.hid (below_nxt HB.out L0)
    have SGq := Lib.hid (SG.out.step L0)
    have SAq := Lib.hid (SA.out.step L0)
    have SBq := Lib.hid (SB.out.step L0)
    have SCq := Lib.hid (SC.out.step L0)
    have SDq := Lib.hid (SD.out.step L0)
    have Pq := P.step L0
    have Qq := Q.step L0
    clear HB SG SA SB SC SD P Q
    have HB := HBq
    have SG := SGq
    have SA := SAq
    have SB := SBq
    have SC := SCq
    have SD := SDq
    have P := Pq
    have Q := Qq
    clear HBq SGq SAq SBq SCq SDq Pq Qq
    clear P1 P2 Q1 Q2
    obtain ⟨-, P1, P2⟩ := id P
    obtain ⟨-, Q1, Q2⟩ := id Q
    obtain ⟨-, R1, R2⟩ := id R
    clear L0 z0
    generalize Dg.kV n x y E = k at *
    clear CR CS
    go_wp2_with fail
    refine (awake_any _).mono ?_
    rintro e w6 ⟨rfl, hb⟩
    have HBq := Lib.hid (below_nxt HB.out hb)
    have SGq := Lib.hid (SG.out.step hb)
    have SAq := Lib.hid (SA.out.step hb)
    have SBq := Lib.hid (SB.out.step hb)
    have SCq := Lib.hid (SC.out.step hb)
    have SDq := Lib.hid (SD.out.step hb)
    have Pq := P.step hb
    have Qq := Q.step hb
    have Rq := R.step hb
    clear HB SG SA SB SC SD P Q R
    have HB := HBq
    have SG := SGq
    have SA := SAq
    have SB := SBq
    have SC := SCq
    have SD := SDq
    have P := Pq
    have Q := Qq
    have R := Rq
    clear HBq SGq SAq SBq SCq SDq Pq Qq Rq
    clear P1 P2 Q1 Q2 R1 R2
    clear hb
    obtain ⟨-, P1, P2⟩ := id P
    obtain ⟨-, Q1, Q2⟩ := id Q
    obtain ⟨-, R1, R2⟩ := id R
    clear hXR
    go_wp2_with fail
    refine (rSameI_any ua ub _ _ SA.out SB.out).mono ?_
    rintro e w7 ⟨rfl, hb⟩
    have HBq := Lib.hid (below_nxt HB.out hb)
    have SGq := Lib.hid (SG.out.step hb)
    have SAq := Lib.hid (SA.out.step hb)
    have SBq := Lib.hid (SB.out.step hb)
    have SCq := Lib.hid (SC.out.step hb)
    have SDq := Lib.hid (SD.out.step hb)
    have Pq := P.step hb
    have Qq := Q.step hb
    have Rq := R.step hb
    clear HB SG SA SB SC SD P Q R
    have HB := HBq
    have SG := SGq
    have SA := SAq
    have SB := SBq
    have SC := SCq
    have SD := SDq
    have P := Pq
    have Q := Qq
    have R := Rq
    clear HBq SGq SAq SBq SCq SDq Pq Qq Rq
    clear P1 P2 Q1 Q2 R1 R2
    clear hb
    obtain ⟨-, P1, P2⟩ := id P
    obtain ⟨-, Q1, Q2⟩ := id Q
    obtain ⟨-, R1, R2⟩ := id R
    go_wp2_with fail
    refine (rSame_any N2 _ _ E2 _ SC.out SD.out).mono ?_
    rintro e w8 ⟨rfl, hb⟩
    have HBq := Lib.hid (below_nxt HB.out hb)
    have SGq := Lib.hid (SG.out.step hb)
    have SAq := Lib.hid (SA.out.step hb)
    have SBq := Lib.hid (SB.out.step hb)
    have SCq := Lib.hid (SC.out.step hb)
    have SDq := Lib.hid (SD.out.step hb)
    have Pq := P.step hb
    have Qq := Q.step hb
    have Rq := R.step hb
    clear HB SG SA SB SC SD P Q R
    have HB := HBq
    have SG := SGq
    have SA := SAq
    have SB := SBq
    have SC := SCq
    have SD := SDq
    have P := Pq
    have Q := Qq
    have R := Rq
    clear HBq SGq SAq SBq SCq SDq Pq Qq Rq
    clear P1 P2 Q1 Q2 R1 R2
    clear hb
    obtain ⟨-, P1, P2⟩ := id P
    obtain ⟨-, Q1, Q2⟩ := id Q
    obtain ⟨-, R1, R2⟩ := id R
    go_wp2
    go_ret
    exact ⟨rfl, HB.out⟩
end Go.Proofs.Ytkjhockppkdakaa
