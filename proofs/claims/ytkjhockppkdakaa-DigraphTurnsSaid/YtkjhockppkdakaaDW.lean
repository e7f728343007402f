/- The law DigraphTurns. -/
import Derived.Test.YtkjhockppkdakaaDV
namespace Go.Proofs.Ytkjhockppkdakaa
open Go.RowKit Go.Shelf

set_option maxHeartbeats 4000000 in
set_option maxRecDepth 100000 in
theorem turns_any (n : Int) (E : List (Int × Int)) (v : Value) (w : World) (hv : SeesE w v E) :
    Calls Try.prog 10 #[.agg #[.int .i64 n, v]] w fun e w' => e = .returned (.bool true) ∧ Below w.heap.size w w' := by
  have CF := fun W h => right_any n v E W h
  have SG := Lib.hid hv
  cases hr : Dg.rgt n E
  · obtain ⟨ao, cap, rfl⟩ := hv.slice
    skip
    obtain ⟨P, L0, z0⟩ := gph_new w n (.slice ao E.length cap) 24
    generalize hX : w.alloc (.cells #[.int .i64 n, .slice ao E.length cap] 24) = X at *
    obtain ⟨-, P1, P2⟩ := id P
    have HB := Lib.hid L0
    have SGq := Lib.hid (SG.out.step HB.out)
    clear SG
    have SG := SGq
    clear SGq hv L0 z0
    go_enter Try.func10, Try.ntmps10
    have hf : Dg.rgt n E = false := hr
    go_wp2_with fail
    refine (CF _ SG.out).mono ?_
    rintro e w1 ⟨rfl, hb⟩
    have HBq := Lib.hid (below_nxt HB.out hb)
    have SGq := Lib.hid (SG.out.step hb)
    have Pq := P.step hb
    clear HB SG P
    have HB := HBq
    have SG := SGq
    have P := Pq
    clear HBq SGq Pq
    clear P1 P2
    clear hb
    obtain ⟨-, P1, P2⟩ := id P
    clear CF hX
    rw [hf]
    go_wp2_with fail
    refine (awake_any _).mono ?_
    rintro e w2 ⟨rfl, hb⟩
    have HBq := Lib.hid (below_nxt HB.out hb)
    have SGq := Lib.hid (SG.out.step hb)
    have Pq := P.step hb
    clear HB SG P
    have HB := HBq
    have SG := SGq
    have P := Pq
    clear HBq SGq Pq
    clear P1 P2
    clear hb
    obtain ⟨-, P1, P2⟩ := id P
    go_wp2
    go_ret
    exact ⟨rfl, HB.out⟩
  · obtain ⟨m, es, rfl, hm, rfl, hl, hE⟩ := Dg.rgt_ok hr
    rw [hr] at CF
    have HE := Lib.hid hE
    obtain ⟨ao, cap, rfl⟩ := hv.slice
    rw [Dg.cst_len] at *
    obtain ⟨P, L0, z0⟩ := gph_new w m (.slice ao es.length cap) 24
    generalize hX : w.alloc (.cells #[.int .i64 m, .slice ao es.length cap] 24) = X at *
    obtain ⟨-, P1, P2⟩ := id P
    have HB := Lib.hid L0
    have SGq := Lib.hid (SG.out.step HB.out)
    clear SG
    have SG := SGq
    clear SGq hv L0 z0
    go_enter Try.func10, Try.ntmps10
    have HER := Lib.hid (Dg.rv_ok hE)
    have hlr : (Dg.rv es).length ≤ 30 := by rw [Dg.rv_len]; exact hl
    clear hE hr
    go_wp2_with fail
    refine (CF _ SG.out).mono ?_
    rintro e w1 ⟨rfl, hb⟩
    have HBq := Lib.hid (below_nxt HB.out hb)
    have SGq := Lib.hid (SG.out.step hb)
    have Pq := P.step hb
    clear HB SG P
    have HB := HBq
    have SG := SGq
    have P := Pq
    clear HBq SGq Pq
    clear P1 P2
    clear hb
    obtain ⟨-, P1, P2⟩ := id P
    clear CF hX
    go_wp2_with fail
    refine (dReverse_ok m es _ _ HE.out (by omega) (by omega) SG.out).mono ?_
    rintro e w2 ⟨uh, rfl, hs, hb⟩
    have HBq := Lib.hid (below_nxt HB.out hb)
    have SGq := Lib.hid (SG.out.step hb)
    have Pq := P.step hb
    clear HB SG P
    have HB := HBq
    have SG := SGq
    have P := Pq
    clear HBq SGq Pq
    have SH := Lib.hid hs
    clear P1 P2
    clear hb hs
    obtain ⟨-, P1, P2⟩ := id P
    obtain ⟨aQ, cQ, hag⟩ := SH.out.slice
    rw [show (Dg.cst (Dg.rv es)).length = es.length by first | rfl | (rw [Dg.cst_len, Dg.rv_len]) | (rw [Dg.cst_len])] at hag
    subst hag
    obtain ⟨Q, L0, z0⟩ := gph_new w2 m (.slice aQ es.length cQ) 24
    generalize hXQ : w2.alloc (.cells #[.int .i64 m, .slice aQ es.length cQ] 24) = YQ at *
    have HBq := Lib.hid (below_nxt HB.out L0)
    have SGq := Lib.hid (SG.out.step L0)
    have SHq := Lib.hid (SH.out.step L0)
    have Pq := P.step L0
    clear HB SG SH P
    have HB := HBq
    have SG := SGq
    have SH := SHq
    have P := Pq
    clear HBq SGq SHq Pq
    clear P1 P2
    obtain ⟨-, P1, P2⟩ := id P
    obtain ⟨-, Q1, Q2⟩ := id Q
    clear L0 z0
    go_wp2_with fail
    refine (dReverse_ok m (Dg.rv es) _ _ HER.out (by omega) (by omega) SH.out).mono ?_
    rintro e w3 ⟨ub, rfl, hs, hb⟩
    have HBq := Lib.hid (below_nxt HB.out hb)
    have SGq := Lib.hid (SG.out.step hb)
    have SHq := Lib.hid (SH.out.step hb)
    have Pq := P.step hb
    have Qq := Q.step hb
    clear HB SG SH P Q
    have HB := HBq
    have SG := SGq
    have SH := SHq
    have P := Pq
    have Q := Qq
    clear HBq SGq SHq Pq Qq
    have SB := Lib.hid hs
    clear P1 P2 Q1 Q2
    clear hb hs
    obtain ⟨-, P1, P2⟩ := id P
    obtain ⟨-, Q1, Q2⟩ := id Q
    clear hXQ
    rw [Dg.rv_rv] at SB
    obtain ⟨aR, cR, hag⟩ := SB.out.slice
    rw [show (Dg.cst es).length = es.length by first | rfl | (rw [Dg.cst_len, Dg.rv_len]) | (rw [Dg.cst_len])] at hag
    subst hag
    obtain ⟨R, L0, z0⟩ := gph_new w3 m (.slice aR es.length cR) 24
    generalize hXR : w3.alloc (.cells #[.int .i64 m, .slice aR es.length cR] 24) = YR at *
    have HBq := Lib.hid (below_nxt HB.out L0)
    have SGq := Lib.hid (SG.out.step L0)
    have SHq := Lib.hid (SH.out.step L0)
    have SBq := Lib.hid (SB.out.step L0)
    have Pq := P.step L0
    have Qq := Q.step L0
    clear HB SG SH SB P Q
    have HB := HBq
    have SG := SGq
    have SH := SHq
    have SB := SBq
    have P := Pq
    have Q := Qq
    clear HBq SGq SHq SBq Pq Qq
    clear P1 P2 Q1 Q2
    obtain ⟨-, P1, P2⟩ := id P
    obtain ⟨-, Q1, Q2⟩ := id Q
    obtain ⟨-, R1, R2⟩ := id R
    clear L0 z0
    go_wp2_with fail
    refine (dCompo_ok m es _ _ HE.out (by omega) (by omega) SG.out).mono ?_
    rintro e w4 ⟨ux, rfl, hs, hb⟩
    have HBq := Lib.hid (below_nxt HB.out hb)
    have SGq := Lib.hid (SG.out.step hb)
    have SHq := Lib.hid (SH.out.step hb)
    have SBq := Lib.hid (SB.out.step hb)
    have Pq := P.step hb
    have Qq := Q.step hb
    have Rq := R.step hb
    clear HB SG SH SB P Q R
    have HB := HBq
    have SG := SGq
    have SH := SHq
    have SB := SBq
    have P := Pq
    have Q := Qq
    have R := Rq
    clear HBq SGq SHq SBq Pq Qq Rq
    have SX := Lib.hid hs
    clear P1 P2 Q1 Q2 R1 R2
    clear hb hs
    obtain ⟨-, P1, P2⟩ := id P
    obtain ⟨-, Q1, Q2⟩ := id Q
    obtain ⟨-, R1, R2⟩ := id R
    clear hXR
    go_wp2_with fail
    refine (dCompo_ok m (Dg.rv es) _ _ HER.out (by omega) (by omega) SH.out).mono ?_
    rintro e w5 ⟨uy, rfl, hs, hb⟩
    have HBq := Lib.hid (below_nxt HB.out hb)
    have SGq := Lib.hid (SG.out.step hb)
    have SHq := Lib.hid (SH.out.step hb)
    have SBq := Lib.hid (SB.out.step hb)
    have SXq := Lib.hid (SX.out.step hb)
    have Pq := P.step hb
    have Qq := Q.step hb
    have Rq := R.step hb
    clear HB SG SH SB SX P Q R
    have HB := HBq
    have SG := SGq
    have SH := SHq
    have SB := SBq
    have SX := SXq
    have P := Pq
    have Q := Qq
    have R := Rq
    clear HBq SGq SHq SBq SXq Pq Qq Rq
    have SY := Lib.hid hs
    clear P1 P2 Q1 Q2 R1 R2
    clear hb hs
    obtain ⟨-, P1, P2⟩ := id P
    obtain ⟨-, Q1, Q2⟩ := id Q
    obtain ⟨-, R1, R2⟩ := id R
    rw [Dg.pL_rv] at SY
    go_wp2_with fail
    refine (sEqE_any _ _ _ _ SB.out SG.out).mono ?_
    rintro e w6 ⟨rfl, hb⟩
    have HBq := Lib.hid (below_nxt HB.out hb)
    have SGq := Lib.hid (SG.out.step hb)
    have SHq := Lib.hid (SH.out.step hb)
    have SBq := Lib.hid (SB.out.step hb)
    have SXq := Lib.hid (SX.out.step hb)
    have SYq := Lib.hid (SY.out.step hb)
    have Pq := P.step hb
    have Qq := Q.step hb
    have Rq := R.step hb
    clear HB SG SH SB SX SY P Q R
    have HB := HBq
    have SG := SGq
    have SH := SHq
    have SB := SBq
    have SX := SXq
    have SY := SYq
    have P := Pq
    have Q := Qq
    have R := Rq
    clear HBq SGq SHq SBq SXq SYq Pq Qq Rq
    clear P1 P2 Q1 Q2 R1 R2
    clear hb
    obtain ⟨-, P1, P2⟩ := id P
    obtain ⟨-, Q1, Q2⟩ := id Q
    obtain ⟨-, R1, R2⟩ := id R
    go_wp2_with fail
    refine (rSameL_any _ _ _ _ SX.out SY.out).mono ?_
    rintro e w7 ⟨rfl, hb⟩
    have HBq := Lib.hid (below_nxt HB.out hb)
    have SGq := Lib.hid (SG.out.step hb)
    have SHq := Lib.hid (SH.out.step hb)
    have SBq := Lib.hid (SB.out.step hb)
    have SXq := Lib.hid (SX.out.step hb)
    have SYq := Lib.hid (SY.out.step hb)
    have Pq := P.step hb
    have Qq := Q.step hb
    have Rq := R.step hb
    clear HB SG SH SB SX SY P Q R
    have HB := HBq
    have SG := SGq
    have SH := SHq
    have SB := SBq
    have SX := SXq
    have SY := SYq
    have P := Pq
    have Q := Qq
    have R := Rq
    clear HBq SGq SHq SBq SXq SYq Pq Qq Rq
    clear P1 P2 Q1 Q2 R1 R2
    clear hb
    obtain ⟨-, P1, P2⟩ := id P
    obtain ⟨-, Q1, Q2⟩ := id Q
    obtain ⟨-, R1, R2⟩ := id R
    by_cases hF : (Dg.ordL m es).length = m
    · have HF := Lib.hid hF
      clear hF HER hlr
      go_wp2_with fail
      refine (dLayers_full m es _ _ HE.out (by omega) (by omega) HF.out SG.out).mono ?_
      rintro e w8 ⟨ul, L, rfl, hT, hs, hb⟩
      have HBq := Lib.hid (below_nxt HB.out hb)
      have SGq := Lib.hid (SG.out.step hb)
      have SHq := Lib.hid (SH.out.step hb)
      have SBq := Lib.hid (SB.out.step hb)
      have SXq := Lib.hid (SX.out.step hb)
      have SYq := Lib.hid (SY.out.step hb)
      have Pq := P.step hb
      have Qq := Q.step hb
      have Rq := R.step hb
      clear HB SG SH SB SX SY P Q R
      have HB := HBq
      have SG := SGq
      have SH := SHq
      have SB := SBq
      have SX := SXq
      have SY := SYq
      have P := Pq
      have Q := Qq
      have R := Rq
      clear HBq SGq SHq SBq SXq SYq Pq Qq Rq
      have SL := Lib.hid hs
      clear P1 P2 Q1 Q2 R1 R2
      clear hb hs
      obtain ⟨-, P1, P2⟩ := id P
      obtain ⟨-, Q1, Q2⟩ := id Q
      obtain ⟨-, R1, R2⟩ := id R
      have hLl := hT.1
      obtain ⟨al, cl, rfl, hcl1, hcl2, -⟩ := SL.out.opened
      simp only [hLl] at hcl1 SL ⊢
      have hCL := SL.out.cellz
      have hCE := SG.out.cells
      have HT := Lib.hid hT
      have HLl := Lib.hid hLl
      have hOK := Lib.hid (fun (i : Nat) (hi : i < es.length) => HE.out _ (Dg.getD_mem (d := (0, 0)) hi))
      generalize w8 = wo at *
      clear hT hLl SX SY SB SH
      go_wp2
      go_loopw [90] (fun s90 wr => ∃ i : Nat, i ≤ m ∧ s90 = .int .i64 i ∧ Hid (Below wo.heap.size wo wr)) (fun s90 _ => m - (intOf s90).toNat)
      case atStart => exact ⟨0, Nat.zero_le _, rfl, Lib.hid (Below.refl _ _)⟩
      case round =>
        obtain ⟨i, hi, rfl, HB1⟩ := hrel
        obtain ⟨-, p1, p2⟩ := P.step HB1.out
        by_cases him : i < m
        · obtain ⟨b, off, rfl, hb, l1⟩ := hCL.at HB1.out (i := i) (by rw [HLl.out]; exact him)
          obtain ⟨q, hq, hq1, -⟩ := HT.out.2 i him
          rw [hq] at l1
          have HQ := Lib.hid hq
          have HFA := Lib.hid (Dg.fd_all HE.out HT.out him hq)
          have HF0 := Lib.hid (Dg.fd_zero es L q i)
          have HFS := Lib.hid (fun j (hj : j < es.length) => Dg.fd_succ L q i hj)
          have hqm : q < m := Dg.full_lt HF.out him hq1
          clear hq hq1 P1 P2 Q1 Q2 R1 R2
          go_wp2
          go_loopw [15, 100] (fun s15 s100 wr => ∃ j : Nat, j ≤ es.length ∧ s100 = .int .i64 j ∧ s15 = .bool (Dg.fd es L q i j) ∧ Hid (Below wo.heap.size wo wr)) (fun _ s100 _ => es.length - (intOf s100).toNat)
          case atStart => exact ⟨0, Nat.zero_le _, rfl, by rw [HF0.out], HB1⟩
          case round =>
            obtain ⟨j, hj, rfl, rfl, HB2⟩ := hrel
            obtain ⟨-, p3, p4⟩ := P.step HB2.out
            clear p1 p2 l1
            by_cases hjl : j < es.length
            · obtain ⟨g, off2, rfl, hg, c1, c2⟩ := hCE.at HB2.out (i := j) (by rw [Dg.cst_len]; exact hjl)
              rw [Dg.cst_at] at c1 c2
              obtain ⟨o1, o2⟩ := hOK.out j hjl
              obtain ⟨pa, pb, hpa, hpb, hpq⟩ := Dg.top_edge HT.out (show ((es.getD j (0, 0)).1, (es.getD j (0, 0)).2) ∈ es from Dg.getD_mem (d := (0, 0)) hjl) o1 o2
              have HSU := Lib.hid (HFS.out j hjl)
              generalize es.getD j (0, 0) = y0 at *
              obtain ⟨b', off', he', -, l2⟩ := hCL.at HB2.out (i := y0.1) (by rw [HLl.out]; exact o1)
              simp only [Option.some.injEq, Addr.mk.injEq, and_true] at he'
              obtain ⟨rfl, rfl⟩ := he'
              rw [hpa] at l2
              have HPA := Lib.hid (And.intro hpa hpb)
              obtain ⟨PE, LE, zE⟩ := edg_new wr (y0.1 : Int) (y0.2 : Int) 60
              have hb2 : b < wr.heap.size := Nat.lt_of_lt_of_le hb HB2.out.size
              have m2 := (LE.cell (p := ⟨b, off + y0.1, none⟩) hb2).trans l2
              generalize hZ : wr.alloc (.cells #[.int .i64 (y0.1 : Int), .int .i64 (y0.2 : Int)] 60) = Z at *
              obtain ⟨-, e1, e2⟩ := id PE
              have HZ := Lib.hid (below_nxt HB2.out LE)
              clear LE zE PE l2 hOK HFS hpa hpb
              by_cases hbi : y0.2 = i
              · have g1 : ((y0.2 : Int) == (i : Int)) = true := by simp [hbi]
                have hq2 : pb = q := by
                  have h1 := HPA.out.2
                  have h2 := HQ.out
                  rw [hbi] at h1
                  omega
                have g2 : decide ((q : Int) ≤ (pa : Int)) = false := by simp; omega
                have g2b : ¬ ((q : Int) ≤ (pa : Int)) := by omega
                have g2c : ¬ (q ≤ pa) := by omega
                have HPL := Lib.hid hpq
                clear hpq hq2
                by_cases hqa : (pa : Int) = (q : Int) - 1
                · have g3 : ((pa : Int) == (q : Int) - 1) = true := by simp [hqa]
                  have HF : Hid (Dg.fd es L q i (j + 1) = true) := Lib.hid (by rw [HSU.out, HPA.out.1, g3, hbi]; simp)
                  clear hqa hbi HSU
                  cases hf : Dg.fd es L q i j <;>
                  · have HFF := Lib.hid hf
                    clear hf
                    go_wp2
                    go_roundw
                    case rel => exact ⟨j + 1, by omega, by first | rfl | go_num, by (rw [HF.out]; first | done | rw [HFF.out]), HZ⟩
                    case measure => simp [intOf]; omega
                · have g3 : ((pa : Int) == (q : Int) - 1) = false := by simp; omega
                  have HF : Hid (Dg.fd es L q i (j + 1) = Dg.fd es L q i j) := Lib.hid (by rw [HSU.out, HPA.out.1, g3, hbi]; simp)
                  clear hqa hbi HSU
                  cases hf : Dg.fd es L q i j <;>
                  · have HFF := Lib.hid hf
                    clear hf
                    go_wp2
                    go_roundw
                    case rel => exact ⟨j + 1, by omega, by first | rfl | go_num, by (rw [HF.out]; first | done | rw [HFF.out]), HZ⟩
                    case measure => simp [intOf]; omega
              · have g1 : ((y0.2 : Int) == (i : Int)) = false := by simp; omega
                have HF : Hid (Dg.fd es L q i (j + 1) = Dg.fd es L q i j) := Lib.hid (by rw [HSU.out, show (y0.2 == i) = false by simp [hbi]]; simp)
                clear hbi HSU hpq
                cases hf : Dg.fd es L q i j <;>
                · have HFF := Lib.hid hf
                  clear hf
                  go_wp2
                  go_roundw
                  case rel => exact ⟨j + 1, by omega, by first | rfl | go_num, by (rw [HF.out]; first | done | rw [HFF.out]), HZ⟩
                  case measure => simp [intOf]; omega
            · obtain rfl : j = es.length := by omega
              rw [HFA.out]
              clear hOK HFS
              go_wp2
              go_roundw
              case rel => exact ⟨i + 1, by omega, by first | rfl | go_num, HB2⟩
              case measure => simp [intOf]; omega
        · obtain rfl : i = m := by omega
          have HB2 := Lib.hid (below_nxt HB.out HB1.out)
          go_wp2_with fail
          refine (awake_any _).mono ?_
          rintro e w9 ⟨rfl, hb⟩
          have HB9 := Lib.hid (below_nxt HB2.out hb)
          clear hb
          go_wp2
          go_ret
          exact ⟨rfl, HB9.out⟩
    · have HF := Lib.hid hF
      clear hF HER hlr
      go_wp2_with fail
      refine (dLayers_ring m es _ _ HE.out (by omega) (by omega) HF.out SG.out).mono ?_
      rintro e w8 ⟨rfl, hb⟩
      have HBq := Lib.hid (below_nxt HB.out hb)
      have SGq := Lib.hid (SG.out.step hb)
      have SHq := Lib.hid (SH.out.step hb)
      have SBq := Lib.hid (SB.out.step hb)
      have SXq := Lib.hid (SX.out.step hb)
      have SYq := Lib.hid (SY.out.step hb)
      have Pq := P.step hb
      have Qq := Q.step hb
      have Rq := R.step hb
      clear HB SG SH SB SX SY P Q R
      have HB := HBq
      have SG := SGq
      have SH := SHq
      have SB := SBq
      have SX := SXq
      have SY := SYq
      have P := Pq
      have Q := Qq
      have R := Rq
      clear HBq SGq SHq SBq SXq SYq Pq Qq Rq
      clear P1 P2 Q1 Q2 R1 R2
      clear hb
      obtain ⟨-, P1, P2⟩ := id P
      obtain ⟨-, Q1, Q2⟩ := id Q
      obtain ⟨-, R1, R2⟩ := id R
      go_wp2_with fail
      refine (awake_any _).mono ?_
      rintro e w9 ⟨rfl, hb⟩
      have HBq := Lib.hid (below_nxt HB.out hb)
      have SGq := Lib.hid (SG.out.step hb)
      have SHq := Lib.hid (SH.out.step hb)
      have SBq := Lib.hid (SB.out.step hb)
      have SXq := Lib.hid (SX.out.step hb)
      have SYq := Lib.hid (SY.out.step hb)
      have Pq := P.step hb
      have Qq := Q.step hb
      have Rq := R.step hb
      clear HB SG SH SB SX SY P Q R
      have HB := HBq
      have SG := SGq
      have SH := SHq
      have SB := SBq
      have SX := SXq
      have SY := SYq
      have P := Pq
      have Q := Qq
      have R := Rq
      clear HBq SGq SHq SBq SXq SYq Pq Qq Rq
      clear P1 P2 Q1 Q2 R1 R2
      clear hb
      obtain ⟨-, P1, P2⟩ := id P
      obtain ⟨-, Q1, Q2⟩ := id Q
      obtain ⟨-, R1, R2⟩ := id R
      go_wp2
      go_ret
      exact ⟨rfl, HB.out⟩
end Go.Proofs.Ytkjhockppkdakaa
