/- The law DigraphDistances. -/
import Derived.Test.YtkjhockppkdakaaDT
namespace Dg
theorem rcL_has (n : Nat) (es : List (Nat × Nat)) (s : Nat) {v : Nat} (hv : v < n) : (ci (rcL n es s n)).contains (v : Int) = decide (0 ≤ dist n es s v) := by
  rw [Bool.eq_iff_iff, List.contains_iff_mem]
  unfold ci rcL
  rw [List.mem_map]
  constructor
  · rintro ⟨a, ha, e⟩
    obtain rfl : a = v := by omega
    exact (List.mem_filter.1 ha).2
  · intro h
    exact ⟨v, List.mem_filter.2 ⟨List.mem_range.2 hv, h⟩, rfl⟩
theorem tmod_nat (x m : Nat) : Int.tmod (x : Int) (m : Int) = ((x % m : Nat) : Int) := by
  rw [Int.tmod_eq_emod_of_nonneg (by omega)]; norm_cast
theorem emod_nat (x m : Nat) : (x : Int) % (m : Int) = ((x % m : Nat) : Int) := by norm_cast
end Dg
namespace Go.Proofs.Ytkjhockppkdakaa
open Go.RowKit Go.Shelf

theorem SeesI.cells {w : World} {ao : Option Addr} {k cap : Nat} {l : List Int} (h : SeesI w (.slice ao k cap) l) : CellsI w ao l := by
  rcases h with ⟨h1, rfl⟩ | ⟨b, off, cap', h1, _, _, h4, h5⟩
  · exact fun h => by simp at h
  · simp only [Value.slice.injEq] at h1
    exact fun _ => ⟨b, off, h1.1, h4, h5⟩
set_option maxHeartbeats 4000000 in
set_option maxRecDepth 100000 in
theorem distances_any (n : Int) (x y : Nat) (E : List (Int × Int)) (v : Value) (w : World) (hv : SeesE w v E) (hx : x < 256) (hy : y < 256) :
    Calls Try.prog 8 #[.agg #[.int .i64 n, v], .int .u8 (x : Int), .int .u8 (y : Int)] w fun e w' => e = .returned (.bool true) ∧ Below w.heap.size w w' := by
  have CF := fun W h => right_any n v E W h
  have SG := Lib.hid hv
  cases hr : Dg.rgt n E
  · obtain ⟨ao, cap, rfl⟩ := hv.slice
    skip
    obtain ⟨P, L0, z0⟩ := gph_new w n (.slice ao E.length cap) 24
    generalize hX : w.alloc (.cells #[.int .i64 n, .slice ao E.length cap] 24) = X at *
    obtain ⟨-, P1, P2⟩ := id P
    have HB := Lib.hid L0
    have SGq := Lib.hid (SG.out.step HB.out)
    clear SG
    have SG := SGq
    clear SGq hv L0 z0
    go_enter Try.func8, Try.ntmps8
    have hf : Dg.rgt n E = false := hr
    go_wp2_with fail
    refine (CF _ SG.out).mono ?_
    rintro e w1 ⟨rfl, hb⟩
    have HBq := Lib.hid (below_nxt HB.out hb)
    have SGq := Lib.hid (SG.out.step hb)
    have Pq := P.step hb
    clear HB SG P
    have HB := HBq
    have SG := SGq
    have P := Pq
    clear HBq SGq Pq
    clear P1 P2
    clear hb
    obtain ⟨-, P1, P2⟩ := id P
    clear CF hX
    rw [hf]
    go_wp2_with fail
    refine (awake_any _).mono ?_
    rintro e w2 ⟨rfl, hb⟩
    have HBq := Lib.hid (below_nxt HB.out hb)
    have SGq := Lib.hid (SG.out.step hb)
    have Pq := P.step hb
    clear HB SG P
    have HB := HBq
    have SG := SGq
    have P := Pq
    clear HBq SGq Pq
    clear P1 P2
    clear hb
    obtain ⟨-, P1, P2⟩ := id P
    go_wp2
    go_ret
    exact ⟨rfl, HB.out⟩
  · obtain ⟨m, es, rfl, hm, rfl, hl, hE⟩ := Dg.rgt_ok hr
    rw [hr] at CF
    have HE := Lib.hid hE
    rcases Nat.eq_zero_or_pos m with hm0 | hm0
    · obtain ⟨ao, cap, rfl⟩ := hv.slice
      rw [Dg.cst_len] at *
      obtain ⟨P, L0, z0⟩ := gph_new w m (.slice ao es.length cap) 24
      generalize hX : w.alloc (.cells #[.int .i64 m, .slice ao es.length cap] 24) = X at *
      obtain ⟨-, P1, P2⟩ := id P
      have HB := Lib.hid L0
      have SGq := Lib.hid (SG.out.step HB.out)
      clear SG
      have SG := SGq
      clear SGq hv L0 z0
      go_enter Try.func8, Try.ntmps8
      have hz : ((m : Int) == 0) = true := by simp [hm0]
      clear hm0
      go_wp2_with fail
      refine (CF _ SG.out).mono ?_
      rintro e w1 ⟨rfl, hb⟩
      have HBq := Lib.hid (below_nxt HB.out hb)
      have SGq := Lib.hid (SG.out.step hb)
      have Pq := P.step hb
      clear HB SG P
      have HB := HBq
      have SG := SGq
      have P := Pq
      clear HBq SGq Pq
      clear P1 P2
      clear hb
      obtain ⟨-, P1, P2⟩ := id P
      clear CF hX hE hr
      go_wp2_with fail
      refine (awake_any _).mono ?_
      rintro e w2 ⟨rfl, hb⟩
      have HBq := Lib.hid (below_nxt HB.out hb)
      have SGq := Lib.hid (SG.out.step hb)
      have Pq := P.step hb
      clear HB SG P
      have HB := HBq
      have SG := SGq
      have P := Pq
      clear HBq SGq Pq
      clear P1 P2
      clear hb
      obtain ⟨-, P1, P2⟩ := id P
      go_wp2
      go_ret
      exact ⟨rfl, HB.out⟩
    · obtain ⟨ao, cap, rfl⟩ := hv.slice
      rw [Dg.cst_len] at *
      obtain ⟨P, L0, z0⟩ := gph_new w m (.slice ao es.length cap) 24
      generalize hX : w.alloc (.cells #[.int .i64 m, .slice ao es.length cap] 24) = X at *
      obtain ⟨-, P1, P2⟩ := id P
      have HB := Lib.hid L0
      have SGq := Lib.hid (SG.out.step HB.out)
      clear SG
      have SG := SGq
      clear SGq hv L0 z0
      go_enter Try.func8, Try.ntmps8
      have ha : x % m < m := Nat.mod_lt _ hm0
      have hb : y % m < m := Nat.mod_lt _ hm0
      have hm1 : ¬ ((m : Int) = 0) := by omega
      have hm2 : ((m : Int) == 0) = false := by simp; omega
      have x1 := Dg.tmod_nat x m
      have x2 := Dg.emod_nat x m
      have y1 := Dg.tmod_nat y m
      have y2 := Dg.emod_nat y m
      generalize hxa : x % m = a at *
      generalize hyb : y % m = b at *
      have hA := Lib.hid ha
      have hB := Lib.hid hb
      have hCN := Lib.hid (Dg.rcL_has m es a hb)
      have hDE := Lib.hid (fun u v (he : (u, v) ∈ es) (h0 : 0 ≤ Dg.dist m es a u) => Dg.dist_edge HE.out ha he h0)
      have hOK := Lib.hid (fun (i : Nat) (hi : i < es.length) => HE.out _ (Dg.getD_mem (d := (0, 0)) hi))
      clear hE hr
      go_wp2_with fail
      refine (CF _ SG.out).mono ?_
      rintro e w1 ⟨rfl, hb⟩
      have HBq := Lib.hid (below_nxt HB.out hb)
      have SGq := Lib.hid (SG.out.step hb)
      have Pq := P.step hb
      clear HB SG P
      have HB := HBq
      have SG := SGq
      have P := Pq
      clear HBq SGq Pq
      clear P1 P2
      clear hb
      obtain ⟨-, P1, P2⟩ := id P
      clear CF hX
      go_wp2_with fail
      try go_region
      try go_wp2_with fail
      have HBq := Lib.hid (below_nxt HB.out (Below.refl w1.heap.size w1).drew)
      have SGq := Lib.hid (SG.out.step (Below.refl w1.heap.size w1).drew)
      have Pq := P.step (Below.refl w1.heap.size w1).drew
      clear HB SG P
      have HB := HBq
      have SG := SGq
      have P := Pq
      clear HBq SGq Pq
      clear P1 P2
      obtain ⟨-, P1, P2⟩ := id P
      clear x1 x2 y1 y2
      refine (dDist_ok m es a _ _ HE.out hA.out (by omega) (by omega) SG.out).mono ?_
      rintro e w2 ⟨ud, rfl, hs, hb⟩
      have HBq := Lib.hid (below_nxt HB.out hb)
      have SGq := Lib.hid (SG.out.step hb)
      have Pq := P.step hb
      clear HB SG P
      have HB := HBq
      have SG := SGq
      have P := Pq
      clear HBq SGq Pq
      have SD := Lib.hid hs
      clear P1 P2
      clear hb hs
      obtain ⟨-, P1, P2⟩ := id P
      obtain ⟨ad, cd, rfl, hcd1, hcd2, -⟩ := SD.out.opened
      simp only [Dg.distL_len] at hcd1 SD ⊢
      have HDT := Lib.hid (Dg.dist_dt m es a b)
      rcases Dg.dist_cases m es a b with hD | ⟨k, hkm, hD⟩
      · have HK : Hid (Dg.dt m es b a = -1) := Lib.hid (by rw [← HDT.out, hD])
        have HD := Lib.hid hD
        clear hD HDT
        go_wp2_with fail
        refine (dPath_none m es a b _ _ HE.out hA.out hB.out (by omega) (by omega) HK.out SG.out).mono ?_
        rintro e w3 ⟨rfl, hb⟩
        have HBq := Lib.hid (below_nxt HB.out hb)
        have SGq := Lib.hid (SG.out.step hb)
        have SDq := Lib.hid (SD.out.step hb)
        have Pq := P.step hb
        clear HB SG SD P
        have HB := HBq
        have SG := SGq
        have SD := SDq
        have P := Pq
        clear HBq SGq SDq Pq
        clear P1 P2
        clear hb
        obtain ⟨-, P1, P2⟩ := id P
        go_wp2_with fail
        refine (dReach_ok m es a _ _ HE.out hA.out (by omega) (by omega) SG.out).mono ?_
        rintro e w4 ⟨ua, rfl, hs, hb⟩
        have HBq := Lib.hid (below_nxt HB.out hb)
        have SGq := Lib.hid (SG.out.step hb)
        have SDq := Lib.hid (SD.out.step hb)
        have Pq := P.step hb
        clear HB SG SD P
        have HB := HBq
        have SG := SGq
        have SD := SDq
        have P := Pq
        clear HBq SGq SDq Pq
        have SR := Lib.hid hs
        clear P1 P2
        clear hb hs
        obtain ⟨-, P1, P2⟩ := id P
        go_wp2_with fail
        have HBq := Lib.hid (below_nxt HB.out (Below.refl w4.heap.size w4).drew)
        have SGq := Lib.hid (SG.out.step (Below.refl w4.heap.size w4).drew)
        have SDq := Lib.hid (SD.out.step (Below.refl w4.heap.size w4).drew)
        have SRq := Lib.hid (SR.out.step (Below.refl w4.heap.size w4).drew)
        have Pq := P.step (Below.refl w4.heap.size w4).drew
        clear HB SG SD SR P
        have HB := HBq
        have SG := SGq
        have SD := SDq
        have SR := SRq
        have P := Pq
        clear HBq SGq SDq SRq Pq
        clear P1 P2
        obtain ⟨-, P1, P2⟩ := id P
        have hCD := SD.out.cells
        have hCE := SG.out.cells
        obtain ⟨bd, od, rfl, hbd, d1⟩ := hCD.at (Below.refl _ w4.drew) (i := b) (by rw [Dg.distL_len]; exact hb)
        rw [Dg.distL_at hb, HD.out] at d1
        have C1 := Lib.hid (sConI_any _ _ (b : Int) w4.drew (by rw [Dg.ci_len]; have := Dg.rcL_len m es a m; omega) SR.out)
        rw [hCN.out, HD.out] at C1
        simp only [Int.reduceNeg, Int.reduceLE, decide_false] at C1
        go_region_held3 (fun W => W.cell? ⟨w.heap.size, 0, none⟩ = some (.int .i64 m) ∧ W.cell? ⟨bd, od + b, none⟩ = some (.int .i64 (-1)))
          (first | (refine ⟨?_, ?_⟩ <;> with_reducible assumption) | (go_split_ands; refine ⟨?_, ?_⟩ <;> with_reducible assumption))
          (first | (go_at_call 37; (with_reducible refine (C1.out).mono ?_); rintro e w9 ⟨rfl, rfl⟩))
        clear C1 hCN
        generalize w4.drew = wo at *
        go_wp2
        go_loopw [83] (fun s83 wr => ∃ i : Nat, i ≤ es.length ∧ s83 = .int .i64 i ∧ Hid (Below wo.heap.size wo wr)) (fun s83 _ => es.length - (intOf s83).toNat)
        case atStart => exact ⟨0, Nat.zero_le _, rfl, Lib.hid (Below.refl _ _)⟩
        case round =>
          obtain ⟨i, hi, rfl, HB1⟩ := hrel
          by_cases hil : i < es.length
          · obtain ⟨g, off, rfl, hg, c1, c2⟩ := hCE.at HB1.out (i := i) (by rw [Dg.cst_len]; exact hil)
            rw [Dg.cst_at] at c1 c2
            obtain ⟨o1, o2⟩ := hOK.out i hil
            have hde := hDE.out (es.getD i (0, 0)).1 (es.getD i (0, 0)).2 (Dg.getD_mem (d := (0, 0)) hil)
            generalize es.getD i (0, 0) = y0 at *
            obtain ⟨b', off', he', -, l1⟩ := hCD.at HB1.out (i := y0.1) (by rw [Dg.distL_len]; exact o1)
            simp only [Option.some.injEq, Addr.mk.injEq, and_true] at he'
            obtain ⟨rfl, rfl⟩ := he'
            obtain ⟨b', off', he', -, l2⟩ := hCD.at HB1.out (i := y0.2) (by rw [Dg.distL_len]; exact o2)
            simp only [Option.some.injEq, Addr.mk.injEq, and_true] at he'
            obtain ⟨rfl, rfl⟩ := he'
            rw [Dg.distL_at o1] at l1
            rw [Dg.distL_at o2] at l2
            have hlt1 := Dg.dist_lt (n := m) (E := es) (s := a) ha (v := y0.1)
            have hge1 := Dg.dist_ge (n := m) (E := es) (s := a) (v := y0.1)
            obtain ⟨PE, LE, zE⟩ := edg_new wr (y0.1 : Int) (y0.2 : Int) 60
            have hbd2 : bd < wr.heap.size := Nat.lt_of_lt_of_le hbd HB1.out.size
            have m1 := (LE.cell (p := ⟨bd, od + y0.1, none⟩) hbd2).trans l1
            have m2 := (LE.cell (p := ⟨bd, od + y0.2, none⟩) hbd2).trans l2
            generalize hZ : wr.alloc (.cells #[.int .i64 (y0.1 : Int), .int .i64 (y0.2 : Int)] 60) = Z at *
            obtain ⟨-, e1, e2⟩ := id PE
            have HZ := Lib.hid (below_nxt HB1.out LE)
            have HDE := Lib.hid hde
            have hmix : Try.prog.follows .mixedOrders = true := by kernel_rfl
            clear LE zE PE l1 l2 hde hDE hOK
            generalize Dg.dist m es a y0.1 = dF at *
            generalize Dg.dist m es a y0.2 = dT at *
            by_cases hF : 0 ≤ dF
            · obtain ⟨t1, t2⟩ := HDE.out hF
              have g1 : decide ((0 : Int) ≤ dF) = true := by simp; omega
              have g2 : decide (dT < (0 : Int)) = false := by simp; omega
              have g3 : decide (dF + 1 < dT) = false := by simp; omega
              clear hF t1 t2 HDE
              go_wp2
              go_quiet (fail)
              go_wp2
              go_roundw
              case rel => exact ⟨i + 1, by omega, by first | rfl | go_num, Lib.hid (HZ.out.trans (below_drewN Z _))⟩
              case measure => simp [intOf]; omega
            · have g1 : decide ((0 : Int) ≤ dF) = false := by simp; omega
              clear hF HDE
              go_wp2
              go_quiet (fail)
              go_wp2
              go_roundw
              case rel => exact ⟨i + 1, by omega, by first | rfl | go_num, Lib.hid (HZ.out.trans (below_drewN Z _))⟩
              case measure => simp [intOf]; omega
          · obtain rfl : i = es.length := by omega
            have HB2 := Lib.hid (below_nxt HB.out HB1.out)
            have d2 := (HB1.out.cell (p := ⟨bd, od + b, none⟩) hbd).trans d1
            obtain ⟨-, q1, q2⟩ := P.step HB1.out
            clear d1 P1 P2
            go_wp2_with fail
            refine (awake_any _).mono ?_
            rintro e w9 ⟨rfl, hb⟩
            have HB9 := Lib.hid (below_nxt HB2.out hb)
            clear hb
            go_wp2
            go_ret
            exact ⟨rfl, HB9.out⟩
      · have HK : Hid (Dg.dt m es b a = (k : Nat)) := Lib.hid (by rw [← HDT.out, hD])
        have HD := Lib.hid hD
        clear hD HDT
        go_wp2_with fail
        refine (dPath_ok m es a b k _ _ HE.out hA.out hB.out (by omega) (by omega) HK.out SG.out).mono ?_
        rintro e w3 ⟨up, rfl, hs, hb⟩
        have HBq := Lib.hid (below_nxt HB.out hb)
        have SGq := Lib.hid (SG.out.step hb)
        have SDq := Lib.hid (SD.out.step hb)
        have Pq := P.step hb
        clear HB SG SD P
        have HB := HBq
        have SG := SGq
        have SD := SDq
        have P := Pq
        clear HBq SGq SDq Pq
        have SP := Lib.hid hs
        clear P1 P2
        clear hb hs
        obtain ⟨-, P1, P2⟩ := id P
        obtain ⟨ap, cp, rfl, hcp1, hcp2, -⟩ := SP.out.opened
        simp only [Dg.ci_len, Dg.pth_len] at hcp1 SP ⊢
        go_wp2_with fail
        refine (dReach_ok m es a _ _ HE.out hA.out (by omega) (by omega) SG.out).mono ?_
        rintro e w4 ⟨ua, rfl, hs, hb⟩
        have HBq := Lib.hid (below_nxt HB.out hb)
        have SGq := Lib.hid (SG.out.step hb)
        have SDq := Lib.hid (SD.out.step hb)
        have SPq := Lib.hid (SP.out.step hb)
        have Pq := P.step hb
        clear HB SG SD SP P
        have HB := HBq
        have SG := SGq
        have SD := SDq
        have SP := SPq
        have P := Pq
        clear HBq SGq SDq SPq Pq
        have SR := Lib.hid hs
        clear P1 P2
        clear hb hs
        obtain ⟨-, P1, P2⟩ := id P
        go_wp2_with fail
        have HBq := Lib.hid (below_nxt HB.out (Below.refl w4.heap.size w4).drew)
        have SGq := Lib.hid (SG.out.step (Below.refl w4.heap.size w4).drew)
        have SDq := Lib.hid (SD.out.step (Below.refl w4.heap.size w4).drew)
        have SPq := Lib.hid (SP.out.step (Below.refl w4.heap.size w4).drew)
        have SRq := Lib.hid (SR.out.step (Below.refl w4.heap.size w4).drew)
        have Pq := P.step (Below.refl w4.heap.size w4).drew
        clear HB SG SD SP SR P
        have HB := HBq
        have SG := SGq
        have SD := SDq
        have SP := SPq
        have SR := SRq
        have P := Pq
        clear HBq SGq SDq SPq SRq Pq
        clear P1 P2
        obtain ⟨-, P1, P2⟩ := id P
        have hCD := SD.out.cells
        have hCE := SG.out.cells
        obtain ⟨bd, od, rfl, hbd, d1⟩ := hCD.at (Below.refl _ w4.drew) (i := b) (by rw [Dg.distL_len]; exact hb)
        rw [Dg.distL_at hb, HD.out] at d1
        have C1 := Lib.hid (sConI_any _ _ (b : Int) w4.drew (by rw [Dg.ci_len]; have := Dg.rcL_len m es a m; omega) SR.out)
        rw [hCN.out, HD.out] at C1
        simp only [Int.natCast_nonneg, decide_true] at C1
        have hk0 : (0 : Int) ≤ (k : Int) := by omega
        have hk1 : ¬ ((k : Int) < 0) := by omega
        go_region_held3 (fun W => W.cell? ⟨w.heap.size, 0, none⟩ = some (.int .i64 m) ∧ W.cell? ⟨bd, od + b, none⟩ = some (.int .i64 (k : Int)))
          (first | (refine ⟨?_, ?_⟩ <;> with_reducible assumption) | (go_split_ands; refine ⟨?_, ?_⟩ <;> with_reducible assumption))
          (first | (go_at_call 37; (with_reducible refine (C1.out).mono ?_); rintro e w9 ⟨rfl, rfl⟩))
        clear C1 hCN
        generalize w4.drew = wo at *
        go_wp2
        go_loopw [83] (fun s83 wr => ∃ i : Nat, i ≤ es.length ∧ s83 = .int .i64 i ∧ Hid (Below wo.heap.size wo wr)) (fun s83 _ => es.length - (intOf s83).toNat)
        case atStart => exact ⟨0, Nat.zero_le _, rfl, Lib.hid (Below.refl _ _)⟩
        case round =>
          obtain ⟨i, hi, rfl, HB1⟩ := hrel
          by_cases hil : i < es.length
          · obtain ⟨g, off, rfl, hg, c1, c2⟩ := hCE.at HB1.out (i := i) (by rw [Dg.cst_len]; exact hil)
            rw [Dg.cst_at] at c1 c2
            obtain ⟨o1, o2⟩ := hOK.out i hil
            have hde := hDE.out (es.getD i (0, 0)).1 (es.getD i (0, 0)).2 (Dg.getD_mem (d := (0, 0)) hil)
            generalize es.getD i (0, 0) = y0 at *
            obtain ⟨b', off', he', -, l1⟩ := hCD.at HB1.out (i := y0.1) (by rw [Dg.distL_len]; exact o1)
            simp only [Option.some.injEq, Addr.mk.injEq, and_true] at he'
            obtain ⟨rfl, rfl⟩ := he'
            obtain ⟨b', off', he', -, l2⟩ := hCD.at HB1.out (i := y0.2) (by rw [Dg.distL_len]; exact o2)
            simp only [Option.some.injEq, Addr.mk.injEq, and_true] at he'
            obtain ⟨rfl, rfl⟩ := he'
            rw [Dg.distL_at o1] at l1
            rw [Dg.distL_at o2] at l2
            have hlt1 := Dg.dist_lt (n := m) (E := es) (s := a) ha (v := y0.1)
            have hge1 := Dg.dist_ge (n := m) (E := es) (s := a) (v := y0.1)
            obtain ⟨PE, LE, zE⟩ := edg_new wr (y0.1 : Int) (y0.2 : Int) 60
            have hbd2 : bd < wr.heap.size := Nat.lt_of_lt_of_le hbd HB1.out.size
            have m1 := (LE.cell (p := ⟨bd, od + y0.1, none⟩) hbd2).trans l1
            have m2 := (LE.cell (p := ⟨bd, od + y0.2, none⟩) hbd2).trans l2
            generalize hZ : wr.alloc (.cells #[.int .i64 (y0.1 : Int), .int .i64 (y0.2 : Int)] 60) = Z at *
            obtain ⟨-, e1, e2⟩ := id PE
            have HZ := Lib.hid (below_nxt HB1.out LE)
            have HDE := Lib.hid hde
            have hmix : Try.prog.follows .mixedOrders = true := by kernel_rfl
            clear LE zE PE l1 l2 hde hDE hOK
            generalize Dg.dist m es a y0.1 = dF at *
            generalize Dg.dist m es a y0.2 = dT at *
            by_cases hF : 0 ≤ dF
            · obtain ⟨t1, t2⟩ := HDE.out hF
              have g1 : decide ((0 : Int) ≤ dF) = true := by simp; omega
              have g2 : decide (dT < (0 : Int)) = false := by simp; omega
              have g3 : decide (dF + 1 < dT) = false := by simp; omega
              clear hF t1 t2 HDE
              go_wp2
              go_quiet (fail)
              go_wp2
              go_roundw
              case rel => exact ⟨i + 1, by omega, by first | rfl | go_num, Lib.hid (HZ.out.trans (below_drewN Z _))⟩
              case measure => simp [intOf]; omega
            · have g1 : decide ((0 : Int) ≤ dF) = false := by simp; omega
              clear hF HDE
              go_wp2
              go_quiet (fail)
              go_wp2
              go_roundw
              case rel => exact ⟨i + 1, by omega, by first | rfl | go_num, Lib.hid (HZ.out.trans (below_drewN Z _))⟩
              case measure => simp [intOf]; omega
          · obtain rfl : i = es.length := by omega
            have HB2 := Lib.hid (below_nxt HB.out HB1.out)
            have d2 := (HB1.out.cell (p := ⟨bd, od + b, none⟩) hbd).trans d1
            obtain ⟨-, q1, q2⟩ := P.step HB1.out
            clear d1 P1 P2
            have hCP := SP.out.cells
            have HPA := Lib.hid (fun j (hj : j ≤ k) => (Dg.ci_at (Dg.pth m es b a k) j).trans (congrArg (fun z : Nat => (z : Int)) (Dg.pth_at hj)))
            obtain ⟨bp, op, rfl, hbp, p1⟩ := hCP.at HB1.out (i := 0) (by rw [Dg.ci_len, Dg.pth_len]; omega)
            obtain ⟨b', off', he', -, p2⟩ := hCP.at HB1.out (i := k) (by rw [Dg.ci_len, Dg.pth_len]; omega)
            simp only [Option.some.injEq, Addr.mk.injEq, and_true] at he'
            obtain ⟨rfl, rfl⟩ := he'
            rw [HPA.out 0 (by omega)] at p1
            rw [HPA.out k (by omega), Dg.it_last HE.out hB.out hA.out HK.out] at p2
            change wr.cell? ⟨bp, op, none⟩ = some (.int .i64 (a : Int)) at p1
            have HED := Lib.hid (fun j (hj : j < k) => Dg.it_edge HE.out hB.out hA.out HK.out hj)
            have hkz : ((k : Int) + 1 - 1) = (k : Int) := by omega
            clear hDE hOK
            go_wp2
            go_loopw [17] (fun s17 wr => ∃ J : Nat, 1 ≤ J ∧ J ≤ k + 1 ∧ s17 = .int .i64 J ∧ Hid (Below wo.heap.size wo wr)) (fun s17 _ => k + 1 - (intOf s17).toNat)
            case atStart => exact ⟨1, by omega, by omega, rfl, HB1⟩
            case round =>
              clear p1 p2 d2 q1 q2
              obtain ⟨J, hJ1, hJ2, rfl, HB3⟩ := hrel
              by_cases hJk : J < k + 1
              · obtain ⟨jm, hjm⟩ : ∃ jm, jm + 1 = J := ⟨J - 1, by omega⟩
                obtain ⟨b', off', he', -, r1⟩ := hCP.at HB3.out (i := jm) (by rw [Dg.ci_len, Dg.pth_len]; omega)
                simp only [Option.some.injEq, Addr.mk.injEq, and_true] at he'
                obtain ⟨rfl, rfl⟩ := he'
                obtain ⟨b', off', he', -, r2⟩ := hCP.at HB3.out (i := J) (by rw [Dg.ci_len, Dg.pth_len]; omega)
                simp only [Option.some.injEq, Addr.mk.injEq, and_true] at he'
                obtain ⟨rfl, rfl⟩ := he'
                rw [HPA.out jm (by omega)] at r1
                rw [HPA.out J (by omega)] at r2
                have he2 := HED.out jm (by omega)
                rw [hjm] at he2
                have HD3 := Lib.hid HB3.out.drew
                have C2 := Lib.hid (sConE_mem _ _ ((Dg.it m es b a jm : Nat), (Dg.it m es b a J : Nat)) wr.drew (SG.out.step HD3.out) (cst_mem he2))
                have HP3 := Lib.hid (P.step HD3.out)
                have s1 : wr.drew.cell? ⟨w.heap.size, 1, none⟩ = some (.slice ao es.length cap) := HP3.out.2.2
                have s2 : wr.drew.cell? ⟨bp, op + jm, none⟩ = some (.int .i64 (Dg.it m es b a jm : Nat)) := r1
                have s3 : wr.drew.cell? ⟨bp, op + J, none⟩ = some (.int .i64 (Dg.it m es b a J : Nat)) := r2
                have HS := Lib.hid (And.intro s2 s3)
                have hbp2 : bp < wr.drew.heap.size := Nat.lt_of_lt_of_le hbp HD3.out.size
                have hsub : (J : Int) - 1 = (jm : Int) := by omega
                have hwr : IntKind.i64.wrap ((J : Int) - 1) = (jm : Int) := by rw [IntKind.wrap_i64]; omega
                have hj1 : (jm : Int) < (k : Int) + 1 := by omega
                have hj2 : (J : Int) < (k : Int) + 1 := by omega
                have hjm2 := Lib.hid hjm
                have hwj : IntKind.i64.wrap (jm : Int) = (jm : Int) := by rw [IntKind.wrap_i64]; omega
                have hj3 : jm < k + 1 := by omega
                clear he2 r1 r2 hjm HED HPA hCP
                generalize Dg.it m es b a jm = u1 at *
                generalize Dg.it m es b a J = u2 at *
                go_wp2_with fail
                go_region_held3 (fun W => W.cell? ⟨w.heap.size, 1, none⟩ = some (.slice ao es.length cap) ∧ W.cell? ⟨bp, op + jm, none⟩ = some (.int .i64 (u1 : Nat)) ∧ W.cell? ⟨bp, op + J, none⟩ = some (.int .i64 (u2 : Nat)))
                  (first | (refine ⟨?_, ?_, ?_⟩ <;> with_reducible assumption) | (go_split_ands; refine ⟨?_, ?_, ?_⟩ <;> with_reducible assumption))
                  (first | (go_at_call 38; (with_reducible refine (C2.out).mono ?_); rintro e w9 ⟨rfl, hb9⟩; have HB9 := Lib.hid (below_nxt HD3.out hb9); have k1 := (HP3.out.step hb9).2.2; have k2 := (hb9.cell (p := ⟨bp, op + jm, none⟩) hbp2).trans HS.out.1; have k3 := (hb9.cell (p := ⟨bp, op + J, none⟩) hbp2).trans HS.out.2; clear hb9))
                go_wp2
                go_roundw
                case rel => exact ⟨J + 1, by omega, by omega, by first | rfl | go_num, HB9⟩
                case measure => simp [intOf]; omega
              · obtain rfl : J = k + 1 := by omega
                have HB4 := Lib.hid (below_nxt HB.out HB3.out)
                go_wp2_with fail
                refine (awake_any _).mono ?_
                rintro e w9 ⟨rfl, hb⟩
                have HB9 := Lib.hid (below_nxt HB4.out hb)
                clear hb
                go_wp2
                go_ret
                exact ⟨rfl, HB9.out⟩
end Go.Proofs.Ytkjhockppkdakaa
