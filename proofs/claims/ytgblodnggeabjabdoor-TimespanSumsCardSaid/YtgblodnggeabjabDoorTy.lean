/- The contracts of Sum of package timespan and of the reference; the call of the statement TimespanSums. -/
import Derived.Test.YtgblodnggeabjabDoorTx
namespace Go.Proofs.YtgblodnggeabjabDoor
open Go.RowKit

theorem sum_long {xs : List (Int × Int)} (h : 256 < xs.length) : Tm.sumV xs = ((0, 0), 5) := by unfold Tm.sumV; rw [if_pos h]
theorem sum_bad {xs : List (Int × Int)} (h : ¬ 256 < xs.length) (h1 : ¬ Tm.firstE xs = 0) : Tm.sumV xs = ((0, 0), Tm.firstE xs) := by unfold Tm.sumV; rw [if_neg h, if_neg h1]
theorem sum_good {xs : List (Int × Int)} (h : ¬ 256 < xs.length) (h1 : Tm.firstE xs = 0) : Tm.sumV xs = Tm.limV (Tm.sumL (·.1) xs) (Tm.sumL (·.2) xs) := by unfold Tm.sumV; rw [if_neg h, if_pos h1]

set_option maxRecDepth 100000 in
theorem tSum_any (xs : List (Int × Int)) (ao : Option Addr) (cap : Nat) (w : World) (hv : SpansAt w ao xs) (hn : xs.length ≤ 9223372036854775807) :
    Calls Tryd.prog 32 #[.slice ao xs.length cap] w fun e w' => e = .returned (.tuple #[.agg #[.int .i64 (Tm.sumV xs).1.1, .int .i64 (Tm.sumV xs).1.2], .int .i64 (Tm.sumV xs).2]) ∧ Below w.heap.size w w' := by
  have hB0 : Below w.heap.size w (w.alloc (.cells #[.int .i64 0, .int .i64 0] 23)) := (Below.refl _ _).alloc (Nat.le_refl _) _
  have hs := hB0.size
  have P0 := Lib.hid (pairI_new w 0 0 23)
  by_cases hl : 256 < xs.length
  · rw [sum_long hl]
    have hl' : (256 : Int) < (xs.length : Int) := by omega
    clear hv hl
    generalize xs.length = n at *
    go_enter Tryd.func32, Tryd.ntmps32
    go_wp2
    exact bodyPost_ret (v := .tuple #[.agg #[.int .i64 0, .int .i64 0], .int .i64 5]) (by simp [results, Tryd.results32, go_sem]) rfl ⟨rfl, hB0⟩
  · have hl' : (xs.length : Int) ≤ 256 := by omega
    have CC := Lib.hid (tCheckAll_any xs ao cap _ (hv.below hB0 (Nat.le_refl _)) hn)
    by_cases h1 : Tm.firstE xs = 0
    · rw [sum_good hl h1]
      have CF := fun W (hW : Below w.heap.size w W) => Lib.hid (tFold_any xs ao cap W (hv.below hW (Nat.le_refl _)) (by omega) h1)
      rw [h1] at CC
      generalize Tm.limV (Tm.sumL (·.1) xs) (Tm.sumL (·.2) xs) = r at *
      obtain ⟨⟨x, y⟩, z⟩ := r
      simp only [] at CF ⊢
      clear hv hl h1
      generalize xs.length = n at *
      go_enter Tryd.func32, Tryd.ntmps32
      go_wp2_with fail
      refine (CC.out).mono ?_
      rintro e w1 ⟨rfl, hb1⟩
      have hB1 := hB0.trans (hb1.mono hs)
      have P1 := P0.out.below (by simp) hb1
      obtain ⟨p0, p1, p2, p3, p4⟩ := id P1
      have HP1 := Lib.hid P1
      clear P1 hb1 CC
      go_wp2_with fail
      refine ((CF _ hB1).out).mono ?_
      rintro e w2 ⟨rfl, hb2⟩
      have hB2 := below_next hB1 hb2
      obtain ⟨q0, q1, q2, q3, q4⟩ := HP1.out.step hb2
      clear hb2 p1 p2 p3 p4 HP1 hB1 CF
      go_wp2
      have hfin := below_put (g := w.heap.size) hB2 (Nat.le_refl _) x y
      unfold Put at hfin
      exact bodyPost_ret (v := .tuple #[.agg #[.int .i64 x, .int .i64 y], .int .i64 z]) (by simp [results, Tryd.results32, go_sem, q1, q2]) rfl ⟨rfl, hfin⟩
    · rw [sum_bad hl h1]
      have hne : (Tm.firstE xs != 0) = true := by simpa using h1
      generalize Tm.firstE xs = c at *
      clear hv hl h1
      generalize xs.length = n at *
      go_enter Tryd.func32, Tryd.ntmps32
      go_wp2_with fail
      refine (CC.out).mono ?_
      rintro e w1 ⟨rfl, hb1⟩
      have hB1 := hB0.trans (hb1.mono hs)
      obtain ⟨p0, p1, p2, p3, p4⟩ := P0.out.below (by simp) hb1
      go_wp2
      have hfin := below_put (g := w.heap.size) hB1 (Nat.le_refl _) 0 0
      unfold Put at hfin
      exact bodyPost_ret (v := .tuple #[.agg #[.int .i64 0, .int .i64 0], .int .i64 c]) (by simp [results, Tryd.results32, go_sem, p1, p2]) rfl ⟨rfl, hfin⟩

set_option maxRecDepth 100000 in
set_option maxHeartbeats 4000000 in
theorem rSum_any (xs : List (Int × Int)) (ao : Option Addr) (cap : Nat) (w : World) (hv : SpansAt w ao xs) (hn : xs.length ≤ 9223372036854775807) :
    Calls Tryd.prog 33 #[.slice ao xs.length cap] w fun e w' => e = .returned (.tuple #[.agg #[.int .i64 (Tm.sumV xs).1.1, .int .i64 (Tm.sumV xs).1.2], .int .i64 (Tm.sumV xs).2]) ∧ Below w.heap.size w w' := by
  have hB0 : Below w.heap.size w ((w.alloc (.cells #[.int .i64 0, .int .i64 0] 23)).alloc (.cells #[.int .i64 0, .int .i64 0] 23)) := ((Below.refl _ _).alloc (Nat.le_refl _) _).alloc (by simp) _
  have P0 := Lib.hid (pairI_next w 0 0 0 0 23 23)
  by_cases hl : 256 < xs.length
  · rw [sum_long hl]
    have hl' : (256 : Int) < (xs.length : Int) := by omega
    clear hv hl
    generalize xs.length = n at *
    go_enter Tryd.func33, Tryd.ntmps33
    go_wp2
    exact bodyPost_ret (v := .tuple #[.agg #[.int .i64 0, .int .i64 0], .int .i64 5]) (by simp [results, Tryd.results33, go_sem]) rfl ⟨rfl, (Below.refl _ _).alloc (Nat.le_refl _) _⟩
  · have hl' : (xs.length : Int) ≤ 256 := by omega
    have HB := Lib.hid (fun h1 => sum_bad (xs := xs) hl h1)
    have HG := Lib.hid (fun h1 => sum_good (xs := xs) hl h1)
    generalize Tm.sumV xs = r at *
    have HV := Lib.hid hv
    clear hv hl
    obtain ⟨n, en⟩ : ∃ n, xs.length = n := ⟨_, rfl⟩
    have HN := Lib.hid en
    rw [en] at hn hl' ⊢
    clear en
    go_enter Tryd.func33, Tryd.ntmps33
    go_wp2
    go_loopw [5] (fun u5 wr => ∃ (j : Nat) (p q : Int), j ≤ n ∧ u5 = .int .i64 j ∧ Below w.heap.size w wr ∧ PairI wr w.heap.size 0 0 ∧ PairI wr (w.heap.size + 1) p q ∧ 0 ≤ p ∧ p ≤ q ∧ q ≤ j * 1000000 ∧ Hid (Tm.Acc xs j p q) ∧ Hid (Tm.firstE xs = Tm.firstE (xs.drop j))) (fun u5 _ => n - (intOf u5).toNat)
    case atStart => exact ⟨0, 0, 0, by omega, rfl, hB0, P0.out.1, P0.out.2, by omega, by omega, by omega, Tm.acc_zero xs, by unfold Hid; rw [List.drop_zero]⟩
    case round =>
      obtain ⟨j, p, q, hj, rfl, hbel, R0, R1, hp0, hpq, hq, HA, HF⟩ := hrel
      obtain ⟨a0, a1, a2, a3, a4⟩ := id R0
      obtain ⟨b0, b1, b2, b3, b4⟩ := id R1
      have H0 := Lib.hid R0
      have H1 := Lib.hid R1
      clear R0 R1
      by_cases hlt : j < n
      · obtain ⟨b, off, rfl, hbs, hcell⟩ := HV.out (by rw [HN.out]; omega)
        obtain ⟨g0, g1⟩ := hcell j (by rw [HN.out]; exact hlt)
        clear hcell
        have c0 := (hbel.cell (p := ⟨b, off + j * 2, none⟩) hbs).trans g0
        have c1 := (hbel.cell (p := ⟨b, off + j * 2 + 1, none⟩) hbs).trans g1
        clear g0 g1
        have hd := Tm.firstE_drop (xs := xs) (j := j) (by rw [HN.out]; exact hlt)
        have HD := Lib.hid (HF.out.trans hd)
        have HNX := Lib.hid (fun hx => HA.out.next (by rw [HN.out]; exact hlt) hx)
        clear hd HF
        generalize (xs.getD j (0, 0)).1 = x at *
        generalize (xs.getD j (0, 0)).2 = y at *
        have CC := fun W => Lib.hid (rCheck_any x y W)
        by_cases hx : Tm.chk x y = 0
        · have hz := Tm.chk_zero.1 hx
          have CP := fun W => Lib.hid (rPlus_any p q x y W (by omega) (by omega) (by omega) (by omega))
          rw [hx] at CC
          have HNY := Lib.hid (HNX.out hx)
          have HD2 := Lib.hid (HD.out.trans (if_pos hx))
          clear hx HD HNX HA
          go_wp2_with fail
          refine ((CC _).out).mono ?_
          rintro e w1 ⟨rfl, hb1⟩
          have S0 := H0.out.step hb1
          have S1 := H1.out.step hb1
          have hB1 := below_next hbel hb1
          have d0 := (hb1.cell (p := ⟨b, off + j * 2, none⟩) (Nat.lt_of_lt_of_le hbs hbel.size)).trans c0
          have d1 := (hb1.cell (p := ⟨b, off + j * 2 + 1, none⟩) (Nat.lt_of_lt_of_le hbs hbel.size)).trans c1
          obtain ⟨s0, s1, s2, s3, s4⟩ := id S1
          have K0 := Lib.hid S0
          have K1 := Lib.hid S1
          have hjp : ((j : Int)) < (n : Int) := by omega
          have hj0 : (0 : Int) ≤ (j : Int) := by omega
          clear S0 S1 H0 H1 a1 a2 a3 a4 b1 b2 b3 b4 hb1 c0 c1 CC
          go_wp2_with fail
          go_region_with (go_at_call 47; refine ((CP _).out).mono ?_; rintro e w2 ⟨rfl, hb2⟩; have hb3 : Below w1.heap.size w1 w2 := (Below.refl w1.heap.size w1).drew.trans hb2; have T0 := K0.out.step hb3; have T1 := K1.out.step hb3; have hB2 := below_next hB1 hb3; have hBU := below_put (g := w.heap.size + 1) hB2 (by omega) (p + x) (q + y); have U0 := T0.other (g := w.heap.size + 1) (by omega) (p + x) (q + y); have U1 := T1.same (p + x) (q + y); obtain ⟨t0, t1, t2, t3, t4⟩ := id T1; unfold Put at *; clear T0 T1)
          all_goals
            go_wp2
            go_roundw
            case rel => exact ⟨j + 1, p + x, q + y, by omega, by go_num, hBU, U0, U1, by omega, by omega, by push_cast; omega, HNY, HD2⟩
            case measure => simp [intOf]; omega
        · have HR := Lib.hid (show r = ((0, 0), Tm.chk x y) from by
            have h1 := HD.out.trans (if_neg hx)
            rw [HB.out (by rw [h1]; exact hx), h1])
          have hne : (Tm.chk x y != 0) = true := by simpa using hx
          generalize Tm.chk x y = c at *
          clear hx HD HNX HA
          go_wp2_with fail
          refine ((CC _).out).mono ?_
          rintro e w1 ⟨rfl, hb1⟩
          have S0 := H0.out.step hb1
          have hB1 := below_next hbel hb1
          have hBU := below_put (g := w.heap.size) hB1 (by omega) 0 0
          obtain ⟨s0, s1, s2, s3, s4⟩ := id S0
          unfold Put at *
          clear S0 H0 H1 a1 a2 a3 a4 b1 b2 b3 b4 hb1 c0 c1 CC
          go_wp2
          exact bodyPost_ret (v := .tuple #[.agg #[.int .i64 0, .int .i64 0], .int .i64 c]) (by simp [results, Tryd.results33, go_sem, s1, s2]) rfl ⟨end_span HR.out, hBU⟩
      · have hjn : j = n := by omega
        subst hjn
        have HR := Lib.hid (show r = Tm.limV p q from by
          have h0 : Tm.firstE xs = 0 := by rw [HF.out, ← HN.out, List.drop_length]; rfl
          have h1 := HA.out.low; have h2 := HA.out.high
          rw [← HN.out, List.take_length] at h1 h2
          rw [HG.out h0, ← h1, ← h2])
        have CL := fun W => Lib.hid (rLimit_any p q W)
        rw [← HR.out] at CL
        obtain ⟨⟨x, y⟩, z⟩ := r
        simp only [] at CL
        clear HR HG HB HA HF
        go_wp2_with fail
        refine ((CL _).out).mono ?_
        rintro e w1 ⟨rfl, hb1⟩
        have S0 := H0.out.step hb1
        have hB1 := below_next hbel hb1
        have hBU := below_put (g := w.heap.size) hB1 (by omega) x y
        obtain ⟨s0, s1, s2, s3, s4⟩ := id S0
        unfold Put at *
        clear S0 H0 H1 a1 a2 a3 a4 b1 b2 b3 b4 hb1 CL
        go_wp2
        exact bodyPost_ret (v := .tuple #[.agg #[.int .i64 x, .int .i64 y], .int .i64 z]) (by simp [results, Tryd.results33, go_sem, s1, s2]) rfl ⟨rfl, hBU⟩

set_option maxRecDepth 100000 in
set_option maxHeartbeats 4000000 in
theorem lawSums_any (xs : List (Int × Int)) (ao : Option Addr) (cap : Nat) (w : World) (hst : St w) (hv : SpansAt w ao xs) (hn : xs.length ≤ 9223372036854775807) :
    Calls Tryd.prog 6 #[.slice ao xs.length cap] w fun e w' => e = .returned (.bool true) ∧ Below w.heap.size w w' := by
  have HST := Lib.hid hst
  have C1 := fun W (hW : Below w.heap.size w W) => Lib.hid (tSum_any xs ao cap W (hv.below hW (Nat.le_refl _)) hn)
  have C2 := fun W (hW : Below w.heap.size w W) => Lib.hid (rSum_any xs ao cap W (hv.below hW (Nat.le_refl _)) hn)
  generalize Tm.sumV xs = r at *
  obtain ⟨⟨x1, y1⟩, z1⟩ := r
  simp only [] at C1 C2
  clear hst hv
  generalize xs.length = n at *
  by_cases hl : (512 : Int) < (n : Int)
  · go_enter Tryd.func6, Tryd.ntmps6
    go_wp2_with fail
    refine (awake_any _ HST.out).mono ?_
    rintro e wz ⟨rfl, hb⟩
    go_wp2
    go_ret
    exact ⟨rfl, hb⟩
  · have hl' : (n : Int) ≤ 512 := by omega
    clear hl
    go_enter Tryd.func6, Tryd.ntmps6
    go_wp2_with fail
    refine ((C1 _ (Below.refl _ _)).out).mono ?_
    rintro e w1 ⟨rfl, hb⟩
    have hB := hb
    have hE := hB.alloc hB.size (.cells #[.int .i64 x1, .int .i64 y1] 23)
    go_wp2_with fail
    refine ((C2 _ hE).out).mono ?_
    rintro e w2 ⟨rfl, hb⟩
    have V1 := pairI_box hb
    have hB' := below_nextb hB hb
    clear hb hB 
    have hB := hB'
    clear hB'
    have n2_1 : w1.heap.size < w2.heap.size := V1.1
    obtain ⟨a10, a11, a12, a13, a14⟩ := id V1
    have H1 := Lib.hid V1
    clear V1
    clear hE
    have hE := hB.alloc hB.size (.cells #[.int .i64 x1, .int .i64 y1] 23)
    go_wp2_with fail
    refine (awake_any _ (HST.out.next hE)).mono ?_
    rintro e wz ⟨rfl, hb⟩
    have hF := below_next hE hb
    go_wp2
    go_ret
    exact ⟨rfl, hF⟩

end Go.Proofs.YtgblodnggeabjabDoor
