/- The law DigraphCondenses. -/
import Derived.Test.YtkjhockppkdakaaDX
namespace Dg
theorem tmod_nt (x m : Nat) : Int.tmod (x : Int) (m : Int) = ((x % m : Nat) : Int) := by
  rw [Int.tmod_eq_emod_of_nonneg (by omega)]; norm_cast
theorem emod_nt (x m : Nat) : (x : Int) % (m : Int) = ((x % m : Nat) : Int) := by norm_cast
end Dg
namespace Go.Proofs.Ytkjhockppkdakaa
open Go.RowKit Go.Shelf

set_option maxHeartbeats 4000000 in
set_option maxRecDepth 100000 in
theorem condenses_any (n : Int) (x y : Nat) (E : List (Int × Int)) (v : Value) (w : World) (hv : SeesE w v E) (hx : x < 256) (hy : y < 256) :
    Calls Try.prog 9 #[.agg #[.int .i64 n, v], .int .u8 (x : Int), .int .u8 (y : Int)] w fun e w' => e = .returned (.bool true) ∧ Below w.heap.size w w' := by
  have CF := fun W h => right_any n v E W h
  have SG := Lib.hid hv
  cases hr : Dg.rgt n E
  · obtain ⟨ao, cap, rfl⟩ := hv.slice
    skip
    obtain ⟨P, L0, z0⟩ := gph_new w n (.slice ao E.length cap) 24
    generalize hX : w.alloc (.cells #[.int .i64 n, .slice ao E.length cap] 24) = X at *
    obtain ⟨-, P1, P2⟩ := id P
    have HB := Lib.hid L0
    have SGq := Lib.hid (SG.out.step HB.out)
    clear SG
    have SG := SGq
    clear SGq hv L0 z0
    go_enter Try.func9, Try.ntmps9
    have hf : Dg.rgt n E = false := hr
    go_wp2_with fail
    refine (CF _ SG.out).mono ?_
    rintro e w1 ⟨rfl, hb⟩
    have HBq := Lib.hid (below_nxt HB.out hb)
    have SGq := Lib.hid (SG.out.step hb)
    have Pq := P.step hb
    clear HB SG P
    have HB := HBq
    have SG := SGq
    have P := Pq
    clear HBq SGq Pq
    clear P1 P2
    clear hb
    obtain ⟨-, P1, P2⟩ := id P
    clear CF hX
    rw [hf]
    go_wp2_with fail
    refine (awake_any _).mono ?_
    rintro e w2 ⟨rfl, hb⟩
    have HBq := Lib.hid (below_nxt HB.out hb)
    have SGq := Lib.hid (SG.out.step hb)
    have Pq := P.step hb
    clear HB SG P
    have HB := HBq
    have SG := SGq
    have P := Pq
    clear HBq SGq Pq
    clear P1 P2
    clear hb
    obtain ⟨-, P1, P2⟩ := id P
    go_wp2
    go_ret
    exact ⟨rfl, HB.out⟩
  · obtain ⟨m, es, rfl, hm, rfl, hl, hE⟩ := Dg.rgt_ok hr
    rw [hr] at CF
    have HE := Lib.hid hE
    obtain ⟨ao, cap, rfl⟩ := hv.slice
    rw [Dg.cst_len] at *
    obtain ⟨P, L0, z0⟩ := gph_new w m (.slice ao es.length cap) 24
    generalize hX : w.alloc (.cells #[.int .i64 m, .slice ao es.length cap] 24) = X at *
    obtain ⟨-, P1, P2⟩ := id P
    have HB := Lib.hid L0
    have SGq := Lib.hid (SG.out.step HB.out)
    clear SG
    have SG := SGq
    clear SGq hv L0 z0
    go_enter Try.func9, Try.ntmps9
    clear hE hr
    go_wp2_with fail
    refine (CF _ SG.out).mono ?_
    rintro e w1 ⟨rfl, hb⟩
    have HBq := Lib.hid (below_nxt HB.out hb)
    have SGq := Lib.hid (SG.out.step hb)
    have Pq := P.step hb
    clear HB SG P
    have HB := HBq
    have SG := SGq
    have P := Pq
    clear HBq SGq Pq
    clear P1 P2
    clear hb
    obtain ⟨-, P1, P2⟩ := id P
    clear CF hX
    go_wp2_with fail
    refine (dCompo_ok m es _ _ HE.out (by omega) (by omega) SG.out).mono ?_
    rintro e w2 ⟨ux, rfl, hs, hb⟩
    have HBq := Lib.hid (below_nxt HB.out hb)
    have SGq := Lib.hid (SG.out.step hb)
    have Pq := P.step hb
    clear HB SG P
    have HB := HBq
    have SG := SGq
    have P := Pq
    clear HBq SGq Pq
    have SX := Lib.hid hs
    clear P1 P2
    clear hb hs
    obtain ⟨-, P1, P2⟩ := id P
    have CE : ∀ W, SeesE W (.slice ao es.length cap) (Dg.cst es) → Calls Try.prog 33 #[.agg #[.int .i64 m, .slice ao es.length cap]] W (fun e w' => ∃ u t, e = .returned (.tuple #[.agg #[.int .i64 (Dg.cnt (Dg.isL m es) m : Nat), u], t, .int .i64 0]) ∧ SeesE w' u (Dg.cst (Dg.ces m es)) ∧ SeesI w' t (Dg.ci (Dg.nums m es m)) ∧ Below W.heap.size W w') := fun W h => dCond_ok m es _ W HE.out (by omega) (by omega) h
    go_wp2_with fail
    refine (CE _ SG.out).mono ?_
    rintro e w3 ⟨ue, ut, rfl, hs, hs2, hb⟩
    have HBq := Lib.hid (below_nxt HB.out hb)
    have SGq := Lib.hid (SG.out.step hb)
    have SXq := Lib.hid (SX.out.step hb)
    have Pq := P.step hb
    clear HB SG SX P
    have HB := HBq
    have SG := SGq
    have SX := SXq
    have P := Pq
    clear HBq SGq SXq Pq
    have SE := Lib.hid hs
    have ST := Lib.hid hs2
    clear P1 P2
    clear hb hs hs2
    obtain ⟨-, P1, P2⟩ := id P
    clear CE
    have HCO := Lib.hid (Dg.ces_ok HE.out)
    have HCF := Lib.hid (Dg.ces_full HE.out)
    have hcl := Dg.ces_len m es
    have hMm := Dg.cnt_le_n (Dg.isL m es) m
    have HTZ := Lib.hid (Dg.tot_zero m es)
    have HTS := Lib.hid (fun i (hi : i < Dg.cnt (Dg.isL m es) m) => Dg.tot_succ m es hi)
    have HTA := Lib.hid (Dg.tot_all HE.out)
    have HTL := Lib.hid (fun i (hi : i ≤ Dg.cnt (Dg.isL m es) m) => Dg.tot_le HE.out hi)
    have HPL := Lib.hid (fun i j (hi : i < Dg.cnt (Dg.isL m es) m) hj => Dg.pL_at HE.out hi (j := j) hj)
    have HNA := Lib.hid (fun v (hv : v < m) => Dg.nums_at m es hv)
    have HDI := Lib.hid (fun a b (ha : a < m) (hb : b < m) => Dg.ces_dist HE.out ha hb)
    have HNL := Lib.hid (fun a (ha : a < m) => (Dg.num_lt HE.out ha).1)
    have HPN := Lib.hid (Dg.pL_len m es m)
    generalize Dg.cnt (Dg.isL m es) m = M at *
    generalize Dg.ces m es = C at *
    obtain ⟨aQ, cQ, hag⟩ := SE.out.slice
    rw [show (Dg.cst C).length = C.length by first | rfl | (rw [Dg.cst_len, Dg.rv_len]) | (rw [Dg.cst_len])] at hag
    subst hag
    obtain ⟨Q, L0, z0⟩ := gph_new w3 M (.slice aQ C.length cQ) 24
    generalize hXQ : w3.alloc (.cells #[.int .i64 M, .slice aQ C.length cQ] 24) = YQ at *
    have HBq := Lib.hid (below_nxt HB.out L0)
    have SGq := Lib.hid (SG.out.step L0)
    have SXq := Lib.hid (SX.out.step L0)
    have SEq := Lib.hid (SE.out.step L0)
    have STq := Lib.hid (ST.out.step L0)
    have Pq := P.step L0
    clear HB SG SX SE ST P
    have HB := HBq
    have SG := SGq
    have SX := SXq
    have SE := SEq
    have ST := STq
    have P := Pq
    clear HBq SGq SXq SEq STq Pq
    clear P1 P2
    obtain ⟨-, P1, P2⟩ := id P
    obtain ⟨-, Q1, Q2⟩ := id Q
    clear L0 z0
    obtain ⟨ax, cx, rfl, hcx1, hcx2, -⟩ := SX.out.opened
    obtain ⟨at', ct, rfl, hct1, hct2, -⟩ := ST.out.opened
    simp only [Dg.ci_len, Dg.nums_len, HPN.out] at hcx1 hct1 SX ST ⊢
    have hXL := SX.out.cells
    have hTL := ST.out.cellz
    skip
    go_wp2
    go_loopw [12, 60] (fun s12 s60 wr => ∃ i : Nat, i ≤ M ∧ s60 = .int .i64 i ∧ s12 = .int .i64 (Dg.tot m es i : Nat) ∧ Hid (Below YQ.heap.size YQ wr)) (fun _ s60 _ => M - (intOf s60).toNat)
    case atStart => exact ⟨0, Nat.zero_le _, rfl, by rw [HTZ.out]; rfl, Lib.hid (Below.refl _ _)⟩
    case round =>
      obtain ⟨i, hi, rfl, rfl, HB1⟩ := hrel
      clear hXQ
      by_cases hiM : i < M
      · obtain ⟨N, up, rfl, n1, hsp⟩ := hXL.at HB1.out (i := i) (by rw [HPN.out]; exact hiM)
        obtain ⟨ap, cp, rfl, hcp1, hcp2, hCp⟩ := hsp.opened
        have HTi := Lib.hid (HTS.out i hiM)
        have ht1 := HTL.out i (by omega)
        have ht2 := HTL.out (i + 1) (by omega)
        rw [HTi.out] at ht2
        have HPLi := Lib.hid (fun j hj => HPL.out i j hiM hj)
        generalize (Dg.pL m es m).getD i [] = part at *
        generalize Dg.tot m es i = ti at *
        have HTL2 := Lib.hid hTL
        clear HTS HTL HPL hsp hTL P1 P2 Q1 Q2
        obtain ⟨w0, hw0⟩ : ∃ w0, w0 = wr := ⟨_, rfl⟩
        subst hw0
        go_wp2
        go_loopw [71] (fun s71 wr => ∃ j : Nat, j ≤ part.length ∧ s71 = .int .i64 j ∧ Hid (Below w0.heap.size w0 wr)) (fun s71 _ => part.length - (intOf s71).toNat)
        case atStart => exact ⟨0, Nat.zero_le _, rfl, Lib.hid (Below.refl _ _)⟩
        case round =>
          obtain ⟨j, hj, rfl, HB2⟩ := hrel
          have HB3 := Lib.hid (HB1.out.trans (HB2.out.mono HB1.out.size))
          obtain ⟨-, p1, p2⟩ := P.step HB3.out
          clear n1
          by_cases hjl : j < part.length
          · obtain ⟨b2, off2, rfl, hb2, c1⟩ := hCp.at HB2.out hjl
            obtain ⟨V, hV, hVm, hVn⟩ := HPLi.out j hjl
            obtain ⟨b3, off3, rfl, hb3, c2⟩ := HTL2.out.at HB3.out (i := V) (by rw [Dg.ci_len, Dg.nums_len]; exact hVm)
            rw [Dg.ci_at, HNA.out V hVm, hVn] at c2
            rw [hV] at c1
            have hq1 : ¬ ((V : Int) < 0) := by omega
            have hq2 : ¬ ((m : Int) ≤ (V : Int)) := by omega
            have hq3 : ¬ (m ≤ V) := by omega
            clear hV hVn HPLi
            go_wp2
            go_roundw
            case rel => exact ⟨j + 1, by omega, by first | rfl | go_num, HB2⟩
            case measure => simp [intOf]; omega
          · obtain rfl : j = part.length := by omega
            clear HPLi
            go_wp2
            go_roundw
            case rel => exact ⟨i + 1, by omega, by first | rfl | go_num, by rw [HTi.out]; first | rfl | go_num, HB3⟩
            case measure => simp [intOf]; omega
      · obtain rfl : i = M := by omega
        rw [HTA.out]
        have HBq := Lib.hid (below_nxt HB.out HB1.out)
        have SGq := Lib.hid (SG.out.step HB1.out)
        have SXq := Lib.hid (SX.out.step HB1.out)
        have SEq := Lib.hid (SE.out.step HB1.out)
        have STq := Lib.hid (ST.out.step HB1.out)
        have Pq := P.step HB1.out
        have Qq := Q.step HB1.out
        clear HB SG SX SE ST P Q
        have HB := HBq
        have SG := SGq
        have SX := SXq
        have SE := SEq
        have ST := STq
        have P := Pq
        have Q := Qq
        clear HBq SGq SXq SEq STq Pq Qq
        clear P1 P2 Q1 Q2
        obtain ⟨-, P1, P2⟩ := id P
        obtain ⟨-, Q1, Q2⟩ := id Q
        clear hXL hTL HTZ HTS HTL HPL
        go_wp2_with fail
        refine (dCyc_none i C _ _ HCO.out (by omega) (by omega) HCF.out SE.out).mono ?_
        rintro e w5 ⟨rfl, hb⟩
        have HBq := Lib.hid (below_nxt HB.out hb)
        have SGq := Lib.hid (SG.out.step hb)
        have SXq := Lib.hid (SX.out.step hb)
        have SEq := Lib.hid (SE.out.step hb)
        have STq := Lib.hid (ST.out.step hb)
        have Pq := P.step hb
        have Qq := Q.step hb
        clear HB SG SX SE ST P Q
        have HB := HBq
        have SG := SGq
        have SX := SXq
        have SE := SEq
        have ST := STq
        have P := Pq
        have Q := Qq
        clear HBq SGq SXq SEq STq Pq Qq
        clear P1 P2 Q1 Q2
        clear hb
        obtain ⟨-, P1, P2⟩ := id P
        obtain ⟨-, Q1, Q2⟩ := id Q
        rcases Nat.eq_zero_or_pos m with hm0 | hm0
        · have hz : ((m : Int) == 0) = true := by simp [hm0]
          clear hm0
          go_wp2_with fail
          refine (awake_any _).mono ?_
          rintro e w6 ⟨rfl, hb⟩
          have HBq := Lib.hid (below_nxt HB.out hb)
          have SGq := Lib.hid (SG.out.step hb)
          have SXq := Lib.hid (SX.out.step hb)
          have SEq := Lib.hid (SE.out.step hb)
          have STq := Lib.hid (ST.out.step hb)
          have Pq := P.step hb
          have Qq := Q.step hb
          clear HB SG SX SE ST P Q
          have HB := HBq
          have SG := SGq
          have SX := SXq
          have SE := SEq
          have ST := STq
          have P := Pq
          have Q := Qq
          clear HBq SGq SXq SEq STq Pq Qq
          clear P1 P2 Q1 Q2
          clear hb
          obtain ⟨-, P1, P2⟩ := id P
          obtain ⟨-, Q1, Q2⟩ := id Q
          go_wp2
          go_ret
          exact ⟨rfl, HB.out⟩
        · have ha : x % m < m := Nat.mod_lt _ hm0
          have hb : y % m < m := Nat.mod_lt _ hm0
          have hm1 : ¬ ((m : Int) = 0) := by omega
          have hm2 : ((m : Int) == 0) = false := by simp; omega
          have x1 := Dg.tmod_nt x m
          have x2 := Dg.emod_nt x m
          have y1 := Dg.tmod_nt y m
          have y2 := Dg.emod_nt y m
          generalize hxa : x % m = a at *
          generalize hyb : y % m = b at *
          have hA := Lib.hid ha
          have hB := Lib.hid hb
          have HDab := Lib.hid (HDI.out a b ha hb)
          have HNa := Lib.hid (HNL.out a ha)
          have HNb := Lib.hid (HNL.out b hb)
          have hT9 := ST.out.cellz
          obtain ⟨ba, oa, rfl, hba, ca⟩ := hT9.at (Below.refl _ _) (i := a) (by rw [Dg.ci_len, Dg.nums_len]; exact ha)
          obtain ⟨b', off', he', -, cb⟩ := hT9.at (Below.refl _ _) (i := b) (by rw [Dg.ci_len, Dg.nums_len]; exact hb)
          simp only [Option.some.injEq, Addr.mk.injEq, and_true] at he'
          obtain ⟨rfl, rfl⟩ := he'
          rw [Dg.ci_at, HNA.out a ha] at ca
          rw [Dg.ci_at, HNA.out b hb] at cb
          have KA : CellV _ _ _ _ := ⟨hba, ca⟩
          have KB : CellV _ _ _ _ := ⟨hba, cb⟩
          have KA1 := KA.2
          have KB1 := KB.2
          have hnb : Dg.num m es b < i := HNb.out
          have hna : Dg.num m es a < i := HNa.out
          clear hT9 ca cb HNL HDI HNA hba
          generalize Dg.num m es a = na at *
          generalize Dg.num m es b = nb at *
          go_wp2_with fail
          try go_region
          try go_wp2_with fail
          have HBq := Lib.hid (below_nxt HB.out (Below.refl w5.heap.size w5).drew)
          have SGq := Lib.hid (SG.out.step (Below.refl w5.heap.size w5).drew)
          have SXq := Lib.hid (SX.out.step (Below.refl w5.heap.size w5).drew)
          have SEq := Lib.hid (SE.out.step (Below.refl w5.heap.size w5).drew)
          have STq := Lib.hid (ST.out.step (Below.refl w5.heap.size w5).drew)
          have Pq := P.step (Below.refl w5.heap.size w5).drew
          have Qq := Q.step (Below.refl w5.heap.size w5).drew
          have KAq := KA.step (Below.refl w5.heap.size w5).drew
          have KBq := KB.step (Below.refl w5.heap.size w5).drew
          clear HB SG SX SE ST P Q KA KB
          have HB := HBq
          have SG := SGq
          have SX := SXq
          have SE := SEq
          have ST := STq
          have P := Pq
          have Q := Qq
          have KA := KAq
          have KB := KBq
          clear HBq SGq SXq SEq STq Pq Qq KAq KBq
          clear P1 P2 Q1 Q2 KA1 KB1
          obtain ⟨-, P1, P2⟩ := id P
          obtain ⟨-, Q1, Q2⟩ := id Q
          obtain ⟨-, KA1⟩ := id KA
          obtain ⟨-, KB1⟩ := id KB
          clear x1 x2 y1 y2
          refine (dDist_ok m es a _ _ HE.out hA.out (by omega) (by omega) SG.out).mono ?_
          rintro e w6 ⟨ud, rfl, hs, hb⟩
          have HBq := Lib.hid (below_nxt HB.out hb)
          have SGq := Lib.hid (SG.out.step hb)
          have SXq := Lib.hid (SX.out.step hb)
          have SEq := Lib.hid (SE.out.step hb)
          have STq := Lib.hid (ST.out.step hb)
          have Pq := P.step hb
          have Qq := Q.step hb
          have KAq := KA.step hb
          have KBq := KB.step hb
          clear HB SG SX SE ST P Q KA KB
          have HB := HBq
          have SG := SGq
          have SX := SXq
          have SE := SEq
          have ST := STq
          have P := Pq
          have Q := Qq
          have KA := KAq
          have KB := KBq
          clear HBq SGq SXq SEq STq Pq Qq KAq KBq
          have SD := Lib.hid hs
          clear P1 P2 Q1 Q2 KA1 KB1
          clear hb hs
          obtain ⟨-, P1, P2⟩ := id P
          obtain ⟨-, Q1, Q2⟩ := id Q
          obtain ⟨-, KA1⟩ := id KA
          obtain ⟨-, KB1⟩ := id KB
          obtain ⟨ad, cd, rfl, hcd1, hcd2, -⟩ := SD.out.opened
          simp only [Dg.distL_len] at hcd1 SD ⊢
          go_wp2_with fail
          have HBq := Lib.hid (below_nxt HB.out (Below.refl w6.heap.size w6).drew)
          have SGq := Lib.hid (SG.out.step (Below.refl w6.heap.size w6).drew)
          have SXq := Lib.hid (SX.out.step (Below.refl w6.heap.size w6).drew)
          have SEq := Lib.hid (SE.out.step (Below.refl w6.heap.size w6).drew)
          have STq := Lib.hid (ST.out.step (Below.refl w6.heap.size w6).drew)
          have SDq := Lib.hid (SD.out.step (Below.refl w6.heap.size w6).drew)
          have Pq := P.step (Below.refl w6.heap.size w6).drew
          have Qq := Q.step (Below.refl w6.heap.size w6).drew
          have KAq := KA.step (Below.refl w6.heap.size w6).drew
          have KBq := KB.step (Below.refl w6.heap.size w6).drew
          clear HB SG SX SE ST SD P Q KA KB
          have HB := HBq
          have SG := SGq
          have SX := SXq
          have SE := SEq
          have ST := STq
          have SD := SDq
          have P := Pq
          have Q := Qq
          have KA := KAq
          have KB := KBq
          clear HBq SGq SXq SEq STq SDq Pq Qq KAq KBq
          clear P1 P2 Q1 Q2 KA1 KB1
          obtain ⟨-, P1, P2⟩ := id P
          obtain ⟨-, Q1, Q2⟩ := id Q
          obtain ⟨-, KA1⟩ := id KA
          obtain ⟨-, KB1⟩ := id KB
          go_region_held3 (fun W => W.cell? ⟨w3.heap.size, 0, none⟩ = some (.int .i64 i) ∧ W.cell? ⟨w3.heap.size, 1, none⟩ = some (.slice aQ C.length cQ) ∧ W.cell? ⟨ba, oa + a, none⟩ = some (.int .i64 (na : Nat)))
            (first | (refine ⟨?_, ?_, ?_⟩ <;> with_reducible assumption) | (go_split_ands; refine ⟨?_, ?_, ?_⟩ <;> with_reducible assumption))
            (first | (go_at_call 15; (with_reducible refine (dDist_ok i C na _ _ HCO.out HNa.out (by omega) (by omega) SE.out).mono ?_); rintro e wn ⟨uq, rfl, hs, hb⟩; have HBq := Lib.hid (below_nxt HB.out hb); have SGq := Lib.hid (SG.out.step hb); have SXq := Lib.hid (SX.out.step hb); have SEq := Lib.hid (SE.out.step hb); have STq := Lib.hid (ST.out.step hb); have SDq := Lib.hid (SD.out.step hb); have Pq := P.step hb; have Qq := Q.step hb; have KAq := KA.step hb; have KBq := KB.step hb; clear HB SG SX SE ST SD P Q KA KB; have HB := HBq; have SG := SGq; have SX := SXq; have SE := SEq; have ST := STq; have SD := SDq; have P := Pq; have Q := Qq; have KA := KAq; have KB := KBq; clear HBq SGq SXq SEq STq SDq Pq Qq KAq KBq; have SQ := Lib.hid hs; clear P1 P2 Q1 Q2 KA1 KB1; clear hb hs; obtain ⟨-, P1, P2⟩ := id P; obtain ⟨-, Q1, Q2⟩ := id Q; obtain ⟨-, KA1⟩ := id KA; obtain ⟨-, KB1⟩ := id KB))
          obtain ⟨aq, cq, rfl, hcq1, hcq2, -⟩ := SQ.out.opened
          simp only [Dg.distL_len] at hcq1 SQ ⊢
          have hCd := SD.out.cellz
          have hCq := SQ.out.cellz
          obtain ⟨bd, od, rfl, hbd, dd⟩ := hCd.at (Below.refl _ _) (i := b) (by rw [Dg.distL_len]; exact hb)
          obtain ⟨bq, oq, rfl, hbq, dq⟩ := hCq.at (Below.refl _ _) (i := nb) (by rw [Dg.distL_len]; exact hnb)
          rw [Dg.distL_at hb] at dd
          rw [Dg.distL_at hnb] at dq
          have KD : CellV _ _ _ _ := ⟨hbd, dd⟩
          have KX : CellV _ _ _ _ := ⟨hbq, dq⟩
          have KD1 := KD.2
          have KX1 := KX.2
          generalize Dg.dist m es a b = D at *
          generalize Dg.dist i C na nb = X at *
          have hnb1 : decide ((nb : Int) < (i : Int)) = true := by simp; omega
          have hnb2 : (nb : Int) < (i : Int) := by omega
          clear hCd hCq dd dq hbd hbq
          by_cases hD0 : 0 ≤ D
          · have g1 : decide ((0 : Int) ≤ D) = true := by simp; omega
            have g2 : decide ((0 : Int) ≤ X) = true := by have := HDab.out; simp; omega
            clear hD0
            go_wp2_with fail
            have HBq := Lib.hid (below_nxt HB.out (Below.refl wn.heap.size wn).drew)
            have SGq := Lib.hid (SG.out.step (Below.refl wn.heap.size wn).drew)
            have SXq := Lib.hid (SX.out.step (Below.refl wn.heap.size wn).drew)
            have SEq := Lib.hid (SE.out.step (Below.refl wn.heap.size wn).drew)
            have STq := Lib.hid (ST.out.step (Below.refl wn.heap.size wn).drew)
            have SDq := Lib.hid (SD.out.step (Below.refl wn.heap.size wn).drew)
            have SQq := Lib.hid (SQ.out.step (Below.refl wn.heap.size wn).drew)
            have Pq := P.step (Below.refl wn.heap.size wn).drew
            have Qq := Q.step (Below.refl wn.heap.size wn).drew
            have KAq := KA.step (Below.refl wn.heap.size wn).drew
            have KBq := KB.step (Below.refl wn.heap.size wn).drew
            have KDq := KD.step (Below.refl wn.heap.size wn).drew
            have KXq := KX.step (Below.refl wn.heap.size wn).drew
            clear HB SG SX SE ST SD SQ P Q KA KB KD KX
            have HB := HBq
            have SG := SGq
            have SX := SXq
            have SE := SEq
            have ST := STq
            have SD := SDq
            have SQ := SQq
            have P := Pq
            have Q := Qq
            have KA := KAq
            have KB := KBq
            have KD := KDq
            have KX := KXq
            clear HBq SGq SXq SEq STq SDq SQq Pq Qq KAq KBq KDq KXq
            clear P1 P2 Q1 Q2 KA1 KB1 KD1 KX1
            obtain ⟨-, P1, P2⟩ := id P
            obtain ⟨-, Q1, Q2⟩ := id Q
            obtain ⟨-, KA1⟩ := id KA
            obtain ⟨-, KB1⟩ := id KB
            obtain ⟨-, KD1⟩ := id KD
            obtain ⟨-, KX1⟩ := id KX
            go_region_held3 (fun W => W.cell? ⟨w.heap.size, 0, none⟩ = some (.int .i64 m) ∧ W.cell? ⟨w3.heap.size, 0, none⟩ = some (.int .i64 i) ∧ W.cell? ⟨ba, oa + b, none⟩ = some (.int .i64 (nb : Nat)) ∧ W.cell? ⟨bd, od + b, none⟩ = some (.int .i64 D) ∧ W.cell? ⟨bq, oq + nb, none⟩ = some (.int .i64 X))
              (first | (refine ⟨?_, ?_, ?_, ?_, ?_⟩ <;> with_reducible assumption) | (go_split_ands; refine ⟨?_, ?_, ?_, ?_, ?_⟩ <;> with_reducible assumption))
              (first | (go_at_call 12; (with_reducible refine (awake_any _).mono ?_); rintro e wz ⟨rfl, hb⟩; have HBq := Lib.hid (below_nxt HB.out hb); have SGq := Lib.hid (SG.out.step hb); have SXq := Lib.hid (SX.out.step hb); have SEq := Lib.hid (SE.out.step hb); have STq := Lib.hid (ST.out.step hb); have SDq := Lib.hid (SD.out.step hb); have SQq := Lib.hid (SQ.out.step hb); have Pq := P.step hb; have Qq := Q.step hb; have KAq := KA.step hb; have KBq := KB.step hb; have KDq := KD.step hb; have KXq := KX.step hb; clear HB SG SX SE ST SD SQ P Q KA KB KD KX; have HB := HBq; have SG := SGq; have SX := SXq; have SE := SEq; have ST := STq; have SD := SDq; have SQ := SQq; have P := Pq; have Q := Qq; have KA := KAq; have KB := KBq; have KD := KDq; have KX := KXq; clear HBq SGq SXq SEq STq SDq SQq Pq Qq KAq KBq KDq KXq; clear P1 P2 Q1 Q2 KA1 KB1 KD1 KX1; clear hb; obtain ⟨-, P1, P2⟩ := id P; obtain ⟨-, Q1, Q2⟩ := id Q; obtain ⟨-, KA1⟩ := id KA; obtain ⟨-, KB1⟩ := id KB; obtain ⟨-, KD1⟩ := id KD; obtain ⟨-, KX1⟩ := id KX))
            all_goals (go_wp2; go_ret; exact ⟨rfl, HB.out⟩)
          · have g1 : decide ((0 : Int) ≤ D) = false := by simp; omega
            have g2 : decide ((0 : Int) ≤ X) = false := by have := HDab.out; simp; omega
            clear hD0
            go_wp2_with fail
            have HBq := Lib.hid (below_nxt HB.out (Below.refl wn.heap.size wn).drew)
            have SGq := Lib.hid (SG.out.step (Below.refl wn.heap.size wn).drew)
            have SXq := Lib.hid (SX.out.step (Below.refl wn.heap.size wn).drew)
            have SEq := Lib.hid (SE.out.step (Below.refl wn.heap.size wn).drew)
            have STq := Lib.hid (ST.out.step (Below.refl wn.heap.size wn).drew)
            have SDq := Lib.hid (SD.out.step (Below.refl wn.heap.size wn).drew)
            have SQq := Lib.hid (SQ.out.step (Below.refl wn.heap.size wn).drew)
            have Pq := P.step (Below.refl wn.heap.size wn).drew
            have Qq := Q.step (Below.refl wn.heap.size wn).drew
            have KAq := KA.step (Below.refl wn.heap.size wn).drew
            have KBq := KB.step (Below.refl wn.heap.size wn).drew
            have KDq := KD.step (Below.refl wn.heap.size wn).drew
            have KXq := KX.step (Below.refl wn.heap.size wn).drew
            clear HB SG SX SE ST SD SQ P Q KA KB KD KX
            have HB := HBq
            have SG := SGq
            have SX := SXq
            have SE := SEq
            have ST := STq
            have SD := SDq
            have SQ := SQq
            have P := Pq
            have Q := Qq
            have KA := KAq
            have KB := KBq
            have KD := KDq
            have KX := KXq
            clear HBq SGq SXq SEq STq SDq SQq Pq Qq KAq KBq KDq KXq
            clear P1 P2 Q1 Q2 KA1 KB1 KD1 KX1
            obtain ⟨-, P1, P2⟩ := id P
            obtain ⟨-, Q1, Q2⟩ := id Q
            obtain ⟨-, KA1⟩ := id KA
            obtain ⟨-, KB1⟩ := id KB
            obtain ⟨-, KD1⟩ := id KD
            obtain ⟨-, KX1⟩ := id KX
            go_region_held3 (fun W => W.cell? ⟨w.heap.size, 0, none⟩ = some (.int .i64 m) ∧ W.cell? ⟨w3.heap.size, 0, none⟩ = some (.int .i64 i) ∧ W.cell? ⟨ba, oa + b, none⟩ = some (.int .i64 (nb : Nat)) ∧ W.cell? ⟨bd, od + b, none⟩ = some (.int .i64 D) ∧ W.cell? ⟨bq, oq + nb, none⟩ = some (.int .i64 X))
              (first | (refine ⟨?_, ?_, ?_, ?_, ?_⟩ <;> with_reducible assumption) | (go_split_ands; refine ⟨?_, ?_, ?_, ?_, ?_⟩ <;> with_reducible assumption))
              (first | (go_at_call 12; (with_reducible refine (awake_any _).mono ?_); rintro e wz ⟨rfl, hb⟩; have HBq := Lib.hid (below_nxt HB.out hb); have SGq := Lib.hid (SG.out.step hb); have SXq := Lib.hid (SX.out.step hb); have SEq := Lib.hid (SE.out.step hb); have STq := Lib.hid (ST.out.step hb); have SDq := Lib.hid (SD.out.step hb); have SQq := Lib.hid (SQ.out.step hb); have Pq := P.step hb; have Qq := Q.step hb; have KAq := KA.step hb; have KBq := KB.step hb; have KDq := KD.step hb; have KXq := KX.step hb; clear HB SG SX SE ST SD SQ P Q KA KB KD KX; have HB := HBq; have SG := SGq; have SX := SXq; have SE := SEq; have ST := STq; have SD := SDq; have SQ := SQq; have P := Pq; have Q := Qq; have KA := KAq; have KB := KBq; have KD := KDq; have KX := KXq; clear HBq SGq SXq SEq STq SDq SQq Pq Qq KAq KBq KDq KXq; clear P1 P2 Q1 Q2 KA1 KB1 KD1 KX1; clear hb; obtain ⟨-, P1, P2⟩ := id P; obtain ⟨-, Q1, Q2⟩ := id Q; obtain ⟨-, KA1⟩ := id KA; obtain ⟨-, KB1⟩ := id KB; obtain ⟨-, KD1⟩ := id KD; obtain ⟨-, KX1⟩ := id KX))
            all_goals (go_wp2; go_ret; exact ⟨rfl, HB.out⟩)
end Go.Proofs.Ytkjhockppkdakaa
