/- Grow of package bounds. -/
import Derived.Test.YtaikegiohjpifaaBQk
import Derived.Deep.RegionHeld3
import Derived.Deep.DeepCutAuto
import Derived.IntWalk
namespace Go.Proofs.Ytaikegiohjpifaa
open Go.RowKit
set_option maxHeartbeats 8000000 in
set_option maxRecDepth 100000 in
theorem bGrow_any (n a b : Int) (v : Value) (R : List (List Int)) (w : World) (hs : SeesR w v R) :
    Calls Try.prog 13 #[.agg #[.int .i64 n, v], .agg #[.int .i64 a, .int .i64 b]] w (RetB (Bn.growV n R a b) w) := by
  have CC := fun W (h : SeesR W v R) => Lib.hid (bChk_any n v R W h)
  have CT := fun W => Lib.hid (tChk_any a b W)
  have HS := Lib.hid hs
  obtain ⟨ao, cap, rfl, hcap1, hcap2, -⟩ := hs
  obtain ⟨X, hX, hBX, hEX, hRX, hLX⟩ := proS w n a b (.slice ao R.length cap)
  have HBX := Lib.hid hBX
  have HEX := Lib.hid hEX
  have HRX := Lib.hid hRX
  have HLX := Lib.hid hLX
  obtain ⟨x0, x1, x2⟩ := hBX
  obtain ⟨y0, y1, y2⟩ := hEX
  rw [hX] at x0 x1 x2 y0 y1 y2
  clear hRX hLX
  unfold Bn.growV
  by_cases h1 : Bn.chk n R = 0
  · rw [if_pos h1]
    rw [h1] at CC
    obtain ⟨N, rfl, hN, hSh, hR⟩ := Bn.chk_ok h1
    clear h1
    by_cases hn : (N : Int) = 12
    · rw [if_pos hn]
      have hnz : ((N : Int) == 12) = true := by rw [hn]; rfl
      clear hn
      go_enter Try.func13, Try.ntmps13
      go_wp2_with fail
      rw [← hX]
      clear x0 x1 x2 y0 y1 y2
      refine ((CC X (HS.out.step HLX.out)).out).mono ?_
      rintro e w1 ⟨rfl, hb1⟩
      have HB1 := Lib.hid (below_nxt HLX.out hb1)
      have HR1 := Lib.hid (HRX.out.step hb1)
      have HX1 := Lib.hid (HBX.out.step hb1)
      have HE1 := Lib.hid (HEX.out.step hb1)
      clear hb1 HLX HRX HBX HEX
      obtain ⟨r0, r1, r2, r3, r4⟩ := HR1.out
      obtain ⟨x0, x1, x2⟩ := HX1.out
      obtain ⟨y0, y1, y2⟩ := HE1.out
      go_wp2
      obtain ⟨RW, BW, VW⟩ := fin_nilG HR1.out HB1.out (by omega)
      generalize ((w1.setCell ⟨w.heap.size + 1 + 1, 0, none⟩ (.int .i64 0)).setCell ⟨w.heap.size + 1 + 1, 1, none⟩ (.slice none 0 0)) = W2 at *
      obtain ⟨-, t1, t2, -, -⟩ := RW
      exact bodyPost_ret (v := .tuple #[.agg #[.int .i64 0, .slice none 0 0], .int .i64 5]) (by simp [results, Try.results13, go_sem, t1, t2]) rfl ⟨_, rfl, VW, BW⟩
    · rw [if_neg hn]
      have hnz : ((N : Int) == 12) = false := by rw [beq_eq_false_iff_ne]; exact hn
      by_cases h2 : Bn.spE a b = 0
      · rw [if_pos h2, Int.toNat_natCast, show ((N : Int) + 1).toNat = N + 1 by omega]
        rw [h2] at CT
        have CO := fun W (h : K2 w N a b (.slice ao R.length cap) W) => Lib.hid (bOf_any N _ R W hN hSh (HS.out.step h.bel))
        have CF := fun W => Lib.hid (show Calls Try.prog 33 #[.int .i64 ((N : Int) + 1)] W fun e w' => ∃ g, e = .returned (.pointer (some ⟨g, 0, none⟩)) ∧ W.heap.size ≤ g ∧ MtxI w' g ((N + 1 : Nat) : Int) (Bn.sq (N + 1) Bn.fre Bn.zer) ∧ Below W.heap.size W w' from bFree_any (N + 1) W (by omega))
        have HBV := Lib.hid (Bn.bV_grM hR h2)
        have hN1 : N ≤ 11 := by omega
        have hneg : IntKind.i64.wrap (-a) = -a := IntWalk.i64_in _ (by have := Bn.spE_ok h2; omega)
        have hsum : IntKind.i64.wrap ((N : Int) + 1) = (N : Int) + 1 := IntWalk.i64_in _ (by omega)
        clear h2 hn hSh hR
        go_enter Try.func13, Try.ntmps13
        go_wp2_with fail
        rw [← hX]
        clear x0 x1 x2 y0 y1 y2
        refine ((CC X (HS.out.step HLX.out)).out).mono ?_
        rintro e w1 ⟨rfl, hb1⟩
        have HB1 := Lib.hid (below_nxt HLX.out hb1)
        have HR1 := Lib.hid (HRX.out.step hb1)
        have HX1 := Lib.hid (HBX.out.step hb1)
        have HE1 := Lib.hid (HEX.out.step hb1)
        clear hb1 HLX HRX HBX HEX
        obtain ⟨r0, r1, r2, r3, r4⟩ := HR1.out
        obtain ⟨x0, x1, x2⟩ := HX1.out
        obtain ⟨y0, y1, y2⟩ := HE1.out
        go_wp2_with fail
        refine ((CT w1).out).mono ?_
        rintro e w2 ⟨rfl, hb⟩
        have HB2 := Lib.hid (below_nxt HB1.out hb)
        have HR2 := Lib.hid (HR1.out.step hb)
        have HX2 := Lib.hid (HX1.out.step hb)
        have HE2 := Lib.hid (HE1.out.step hb)
        clear hb HB1 HR1 HX1 HE1 r0 r1 r2 r3 r4 x0 x1 x2 y0 y1 y2
        obtain ⟨r0, r1, r2, r3, r4⟩ := HR2.out
        obtain ⟨x0, x1, x2⟩ := HX2.out
        obtain ⟨y0, y1, y2⟩ := HE2.out
        go_upto_region 9 with fail
        have KD : Hid (K2 w N a b (.slice ao R.length cap) w2.drew) := Lib.hid ((K2.mk HX2.out HE2.out HR2.out HB2.out).step (Below.refl _ _).drew)
        have KD1 : Hid (K2 w N a b (.slice ao R.length cap) (w2.alloc (.cells #[.pointer none] 62)).drew) := Lib.hid (((K2.mk HX2.out HE2.out HR2.out HB2.out).made _).step (Below.refl _ _).drew)
        have KD2 : Hid (K2 w N a b (.slice ao R.length cap) ((w2.alloc (.cells #[.pointer none] 62)).alloc (.cells #[.pointer none] 62)).drew) := Lib.hid ((((K2.mk HX2.out HE2.out HR2.out HB2.out).made _).made _).step (Below.refl _ _).drew)
        have BD1 : Hid (BoxW (w2.alloc (.cells #[.pointer none] 62)).drew w2.heap.size (.pointer none)) := Lib.hid (show BoxW (w2.alloc (.cells #[.pointer none] 62)) w2.heap.size (.pointer none) from BoxW.new w2 _ _)
        have BD2 : Hid (BoxW ((w2.alloc (.cells #[.pointer none] 62)).alloc (.cells #[.pointer none] 62)).drew w2.heap.size (.pointer none)) := Lib.hid (show BoxW ((w2.alloc (.cells #[.pointer none] 62)).alloc (.cells #[.pointer none] 62)) w2.heap.size (.pointer none) from (BoxW.new w2 _ _).made _)
        have BD3 : Hid (BoxW ((w2.alloc (.cells #[.pointer none] 62)).alloc (.cells #[.pointer none] 62)).drew (w2.heap.size + 1) (.pointer none)) := Lib.hid (show BoxW ((w2.alloc (.cells #[.pointer none] 62)).alloc (.cells #[.pointer none] 62)) (w2.heap.size + 1) (.pointer none) from BoxW.new1 w2 _ _ _)
        have hr2 : w.heap.size + 1 + 1 < w2.heap.size := r0
        have hz2 : w.heap.size ≠ w2.heap.size := by omega
        have g1 : w2.drew.cell? ⟨w.heap.size, 0, none⟩ = some (.int .i64 (N : Int)) := x1
        have g2 : w2.drew.cell? ⟨w.heap.size, 1, none⟩ = some (.slice ao R.length cap) := x2
        have n1 : w2.heap.size ≠ w.heap.size := by omega
        have n2 : w2.heap.size + 1 ≠ w.heap.size := by omega
        clear r0 r1 r2 r3 r4 x0 x1 x2 y0 y1 y2 HX2 HE2 HR2 HB2 CT CC hz2
        generalize hMA : Bn.sq N (Bn.mx R) Bn.zer = MA at *
        have HMA := Lib.hid hMA
        clear hMA
        go_cut [8, 9] (fun s8 s9 wx => ∃ m8 m9 gA gB, s8 = .pointer (some ⟨m8, 0, none⟩) ∧ s9 = .pointer (some ⟨m9, 0, none⟩) ∧ K4 w N a b (.slice ao R.length cap) gA MA ((N + 1 : Nat) : Int) gB (Bn.sq (N + 1) Bn.fre Bn.zer) wx ∧ BoxW wx m8 (.pointer (some ⟨gA, 0, none⟩)) ∧ BoxW wx m9 (.pointer (some ⟨gB, 0, none⟩)) ∧ m8 ≠ gB ∧ m9 ≠ gB ∧ gA ≠ gB ∧ w.heap.size + 1 + 1 < gB)
        case first =>
          go_region_held3 (fun W => W.cell? ⟨w.heap.size, 0, none⟩ = some (.int .i64 (N : Int)) ∧ W.cell? ⟨w.heap.size, 1, none⟩ = some (.slice ao R.length cap))
            (first | (refine ⟨?_, ?_⟩ <;> with_reducible assumption) | (go_split_ands; refine ⟨?_, ?_⟩ <;> with_reducible assumption) | exact ⟨KD1.out.bx.2.1, KD1.out.bx.2.2⟩ | exact ⟨KD2.out.bx.2.1, KD2.out.bx.2.2⟩ | go_keep)
            (first
              | (go_at_call 38; (with_reducible refine ((CO _ (by first | exact KD.out | exact KD1.out | exact KD2.out)).out).mono ?_); rintro e w3 ⟨gA, rfl, hgA, hM, hb⟩; have KE := Lib.hid (K3.mk (K2.step (by first | exact KD.out | exact KD1.out | exact KD2.out) hb) hM); (first | (have hA1 : w2.heap.size + 1 + 1 ≤ gA := (by simpa using hgA)) | (have hA1 : w2.heap.size + 1 ≤ gA := (by simpa using hgA)) | (have hA1 : w2.heap.size ≤ gA := hgA)); have hA2 := hM.1; obtain ⟨-, k1, k2⟩ := KE.out.k2.bx; have n3 : w3.heap.size ≠ w.heap.size := (by omega); have n4 : w3.heap.size + 1 ≠ w.heap.size := (by omega); (first | (have P1 : Hid (BoxW w3 w2.heap.size (.pointer none)) := Lib.hid (BD1.out.over hb); obtain ⟨p10, p11, p12⟩ := P1.out) | (have P1 : Hid (BoxW w3 w2.heap.size (.pointer none)) := Lib.hid (BD2.out.over hb); have P2 : Hid (BoxW w3 (w2.heap.size + 1) (.pointer none)) := Lib.hid (BD3.out.over hb); obtain ⟨p10, p11, p12⟩ := P1.out; obtain ⟨p20, p21, p22⟩ := P2.out) | skip); clear hgA hM hb)
              | (go_at_call 33; (with_reducible refine ((CF _).out).mono ?_); rintro e w4 ⟨gB, rfl, hgB, hM2, hb⟩; have KF := Lib.hid (K4.mk (K3.step (by first | exact KE.out | exact KE.out.made _ | exact (KE.out.made _).made _) hb) hM2); (first | (have hB1 : w3.heap.size + 1 + 1 ≤ gB := (by simpa [World.setCell] using hgB)) | (have hB1 : w3.heap.size + 1 ≤ gB := (by simpa [World.setCell] using hgB)) | (have hB1 : w3.heap.size ≤ gB := (by simpa [World.setCell] using hgB))); have hB2 := hM2.1; obtain ⟨-, k3, k4⟩ := KF.out.k3.k2.bx; have n5 : w4.heap.size ≠ w.heap.size := (by omega); have n6 : w4.heap.size + 1 ≠ w.heap.size := (by omega); (try (first | (have Q1 : Hid (BoxW w4 (w2.heap.size) (.pointer none)) := Lib.hid (BoxW.over (by first | exact P1.out | exact P2.out | exact BoxW.new _ _ _ | exact BoxW.new1 _ _ _ _ | exact P1.out.made _ | exact P2.out.made _ | exact (BoxW.new _ _ _).made _ | exact (P1.out.made _).made _ | exact (P2.out.made _).made _) hb); obtain ⟨f10, f11, f12⟩ := Q1.out))); (try (first | (have Q2 : Hid (BoxW w4 (w2.heap.size + 1) (.pointer none)) := Lib.hid (BoxW.over (by first | exact P1.out | exact P2.out | exact BoxW.new _ _ _ | exact BoxW.new1 _ _ _ _ | exact P1.out.made _ | exact P2.out.made _ | exact (BoxW.new _ _ _).made _ | exact (P1.out.made _).made _ | exact (P2.out.made _).made _) hb); obtain ⟨f20, f21, f22⟩ := Q2.out))); (try (first | (have Q3 : Hid (BoxW w4 (w3.heap.size) (.pointer none)) := Lib.hid (BoxW.over (by first | exact P1.out | exact P2.out | exact BoxW.new _ _ _ | exact BoxW.new1 _ _ _ _ | exact P1.out.made _ | exact P2.out.made _ | exact (BoxW.new _ _ _).made _ | exact (P1.out.made _).made _ | exact (P2.out.made _).made _) hb); obtain ⟨f30, f31, f32⟩ := Q3.out))); (try (first | (have Q4 : Hid (BoxW w4 (w3.heap.size + 1) (.pointer none)) := Lib.hid (BoxW.over (by first | exact P1.out | exact P2.out | exact BoxW.new _ _ _ | exact BoxW.new1 _ _ _ _ | exact P1.out.made _ | exact P2.out.made _ | exact (BoxW.new _ _ _).made _ | exact (P1.out.made _).made _ | exact (P2.out.made _).made _) hb); obtain ⟨f40, f41, f42⟩ := Q4.out))); clear hgB hM2 hb))
          all_goals (go_wp2_with fail; go_meet)
          all_goals (refine ⟨_, _, gA, gB, rfl, rfl, ?_, ?_, ?_, ?_, ?_, ?_, ?_⟩)
          all_goals (first | omega | (first | exact (KF.out.made _).made _ | exact (KF.out.set (by omega) (by omega) (by omega) _).made _ | exact (KF.out.set (by omega) (by omega) (by omega) _).set (by omega) (by omega) (by omega) _) | (first | exact (BoxW.new _ _ _).made _ | exact BoxW.new1 _ _ _ _ | exact BoxW.newS _ _ _ _ _ | exact (Q1.out.same _).made _ | exact (Q1.out.same _).far (by omega) _ | exact (Q1.out.far (by omega) _).same _ | exact (Q2.out.same _).made _ | exact (Q2.out.same _).far (by omega) _ | exact (Q2.out.far (by omega) _).same _ | exact (Q3.out.same _).made _ | exact (Q3.out.same _).far (by omega) _ | exact (Q3.out.far (by omega) _).same _ | exact (Q4.out.same _).made _ | exact (Q4.out.same _).far (by omega) _ | exact (Q4.out.far (by omega) _).same _))
        case rest =>
          obtain ⟨m8, m9, gA, gB, rfl, rfl, hK, hm8, hm9, e1, e2, e3, e4⟩ := hcut
          have HK := Lib.hid hK
          have HM8 := Lib.hid hm8
          have HM9 := Lib.hid hm9
          obtain ⟨a0, a1, a2⟩ := hm8
          obtain ⟨b0, b1, b2⟩ := hm9
          clear hK
          go_wp2_with fail
          clear a0 a1 a2 b0 b1 b2
          refine (grow_each N gA gB m8 m9 _ MA _ wc hN HK.out.k3.mA HK.out.mB ⟨HM8.out.1, HM8.out.2.1⟩ ⟨HM9.out.1, HM9.out.2.1⟩ e3 e1 e2).mono ?_
          rintro e w5 ⟨rfl, hu5, hg5⟩
          have HG5 := Lib.hid (grown_drew hg5)
          have HU5 := Lib.hid hu5.drew
          clear hu5 hg5
          have hb0 := HK.out.k3.k2.bel
          have c9 := HG5.out.cell HM9.out.2.1 (by simpa using e2)
          obtain ⟨-, s1, s2⟩ := HK.out.k3.k2.sp.grown HG5.out (by omega)
          have c0 : w5.drew.cell? ⟨gB, 0, none⟩ = some (.int .i64 ((N : Int) + 1)) := HU5.out.2.1
          have CL1 := Lib.hid (show Calls Try.prog 39 #[.pointer (some ⟨gB, 0, none⟩), .int .i64 0, .int .i64 ((N : Int) + 1), .int .i64 b] w5.drew fun e w' => e = .returned (.tuple #[]) ∧ w5.drew.grownBy w' (some gB) ∧ MtxI w' gB ((N + 1 : Nat) : Int) _ from bLower_any gB 0 (N + 1) _ b _ w5.drew (by omega) (by omega) HU5.out)
          clear hb0
          have s1' : w5.cell? ⟨w.heap.size + 1, 0, none⟩ = some (.int .i64 a) := s1
          have s2' : w5.cell? ⟨w.heap.size + 1, 1, none⟩ = some (.int .i64 b) := s2
          have c9' : w5.cell? ⟨m9, 0, none⟩ = some (.pointer (some ⟨gB, 0, none⟩)) := c9
          have c0' : w5.cell? ⟨gB, 0, none⟩ = some (.int .i64 ((N : Int) + 1)) := c0
          clear s1 s2 c9 c0
          go_upto_region 11 with fail
          refine wp_region_still_tail 7 (by kernel_rfl) (by kernel_rfl) ?_
          simp only [List.take_succ_cons, List.take_zero, List.drop_succ_cons, List.drop_zero]
          repeat still_step
          change wpList _ _ _ _ _ w5.drew
          go_wp2_with fail
          refine (CL1.out).mono ?_
          rintro e w6 ⟨rfl, hg6, hu6⟩
          have HG6 := Lib.hid (grown_drew (grown_trans HG5.out hg6))
          have HU6 := Lib.hid hu6.drew
          clear hg6 hu6 s1' s2' c9' c0' CL1 HG5 HU5
          have c9 := HG6.out.cell HM9.out.2.1 (by simpa using e2)
          obtain ⟨-, s1, s2⟩ := HK.out.k3.k2.sp.grown HG6.out (by omega)
          have c0 : w6.drew.cell? ⟨gB, 0, none⟩ = some (.int .i64 ((N : Int) + 1)) := HU6.out.2.1
          have CL2 := Lib.hid (show Calls Try.prog 39 #[.pointer (some ⟨gB, 0, none⟩), .int .i64 ((N : Int) + 1), .int .i64 0, .int .i64 (-a)] w6.drew fun e w' => e = .returned (.tuple #[]) ∧ w6.drew.grownBy w' (some gB) ∧ MtxI w' gB ((N + 1 : Nat) : Int) _ from bLower_any gB (N + 1) 0 _ (-a) _ w6.drew (by omega) (by omega) HU6.out)
          have s1' : w6.cell? ⟨w.heap.size + 1, 0, none⟩ = some (.int .i64 a) := s1
          have s2' : w6.cell? ⟨w.heap.size + 1, 1, none⟩ = some (.int .i64 b) := s2
          have c9' : w6.cell? ⟨m9, 0, none⟩ = some (.pointer (some ⟨gB, 0, none⟩)) := c9
          have c0' : w6.cell? ⟨gB, 0, none⟩ = some (.int .i64 ((N : Int) + 1)) := c0
          clear s1 s2 c9 c0
          go_upto_region 12 with fail
          refine wp_region_still_tail 8 (by kernel_rfl) (by kernel_rfl) ?_
          simp only [List.take_succ_cons, List.take_zero, List.drop_succ_cons, List.drop_zero]
          repeat still_step
          change wpList _ _ _ _ _ w6.drew
          go_wp2_with fail
          refine (CL2.out).mono ?_
          rintro e w7 ⟨rfl, hg7, hu7⟩
          have HG7 := Lib.hid (grown_trans HG6.out hg7)
          have HU7 : Hid (MtxI w7 gB ((N + 1 : Nat) : Int) (Bn.grP R N a b)) := Lib.hid (by rw [← HMA.out] at hu7; exact hu7)
          clear hg7 hu7 s1' s2' c9' c0' CL2 HG6 HU6
          have c9 := HG7.out.cell HM9.out.2.1 (by simpa using e2)
          have HR7 := Lib.hid (HK.out.k3.k2.res.grown HG7.out (by omega))
          have HB7 := Lib.hid (HK.out.k3.k2.bel.trans (below_grown HG7.out HK.out.k3.k2.bel.size (by omega)))
          have CBo := Lib.hid (show Calls Try.prog 34 #[.pointer (some ⟨gB, 0, none⟩)] w7 fun e w' => ∃ v, e = .returned (.tuple #[v, .int .i64 0]) ∧ ValF w7.heap.size w' v ((N : Int) + 1) (Bn.rws (N + 1) (Bn.grM R N a b)) ∧ Below w7.heap.size w7 w' by
            have := bBnds_any (N + 1) gB _ w7 (by omega) HU7.out
            rw [Bn.bV_congr (m' := Bn.grM R N a b) (fun i j hi hj => Bn.grP_eq hi hj), HBV.out] at this
            exact this)
          go_wp2_with fail
          refine (CBo.out).mono ?_
          rintro e w8 ⟨v8, rfl, hV8, hb8⟩
          obtain ⟨ao8, cap8, rfl⟩ := hV8.form
          have HB8 := Lib.hid (below_nxt HB7.out hb8)
          have HR8 := Lib.hid (HR7.out.step hb8)
          have hz3 := HR7.out.1
          have HF8 := Lib.hid hV8
          obtain ⟨k0, k1, k2, k3, k4⟩ := HR8.out
          clear hb8 hV8 CBo HBV c9
          generalize Bn.rws (N + 1) (Bn.grM R N a b) = q at *
          go_wp2
          obtain ⟨RW, BW, VW⟩ := fin_valG HR8.out HB8.out (by omega) HF8.out hz3
          generalize ((w8.setCell ⟨w.heap.size + 1 + 1, 0, none⟩ (.int .i64 ((N : Int) + 1))).setCell ⟨w.heap.size + 1 + 1, 1, none⟩ (.slice ao8 q.length cap8)) = W2 at *
          obtain ⟨-, t1, t2, -, -⟩ := RW
          exact bodyPost_ret (v := .tuple #[.agg #[.int .i64 ((N : Int) + 1), .slice ao8 q.length cap8], .int .i64 0]) (by simp [results, Try.results13, go_sem, t1, t2]) rfl ⟨_, rfl, VW, BW⟩
      · rw [if_neg h2]
        have h2z : (Bn.spE a b != 0) = true := by simpa using h2
        generalize Bn.spE a b = c at *
        clear hn h2
        go_enter Try.func13, Try.ntmps13
        go_wp2_with fail
        rw [← hX]
        clear x0 x1 x2 y0 y1 y2
        refine ((CC X (HS.out.step HLX.out)).out).mono ?_
        rintro e w1 ⟨rfl, hb1⟩
        have HB1 := Lib.hid (below_nxt HLX.out hb1)
        have HR1 := Lib.hid (HRX.out.step hb1)
        have HX1 := Lib.hid (HBX.out.step hb1)
        have HE1 := Lib.hid (HEX.out.step hb1)
        clear hb1 HLX HRX HBX HEX
        obtain ⟨r0, r1, r2, r3, r4⟩ := HR1.out
        obtain ⟨x0, x1, x2⟩ := HX1.out
        obtain ⟨y0, y1, y2⟩ := HE1.out
        go_wp2_with fail
        refine ((CT w1).out).mono ?_
        rintro e w2 ⟨rfl, hb⟩
        have HB2 := Lib.hid (below_nxt HB1.out hb)
        have HR2 := Lib.hid (HR1.out.step hb)
        have HX2 := Lib.hid (HX1.out.step hb)
        have HE2 := Lib.hid (HE1.out.step hb)
        clear hb HB1 HR1 HX1 HE1 r0 r1 r2 r3 r4 x0 x1 x2 y0 y1 y2
        obtain ⟨r0, r1, r2, r3, r4⟩ := HR2.out
        obtain ⟨x0, x1, x2⟩ := HX2.out
        obtain ⟨y0, y1, y2⟩ := HE2.out
        go_wp2
        obtain ⟨RW, BW, VW⟩ := fin_nilG HR2.out HB2.out (by omega)
        generalize ((w2.setCell ⟨w.heap.size + 1 + 1, 0, none⟩ (.int .i64 0)).setCell ⟨w.heap.size + 1 + 1, 1, none⟩ (.slice none 0 0)) = W2 at *
        obtain ⟨-, t1, t2, -, -⟩ := RW
        exact bodyPost_ret (v := .tuple #[.agg #[.int .i64 0, .slice none 0 0], .int .i64 c]) (by simp [results, Try.results13, go_sem, t1, t2]) rfl ⟨_, rfl, VW, BW⟩
  · rw [if_neg h1]
    have hcz : (Bn.chk n R != 0) = true := by simpa using h1
    clear h1
    generalize Bn.chk n R = c at *
    go_enter Try.func13, Try.ntmps13
    go_wp2_with fail
    rw [← hX]
    clear x0 x1 x2 y0 y1 y2
    refine ((CC X (HS.out.step HLX.out)).out).mono ?_
    rintro e w1 ⟨rfl, hb1⟩
    have HB1 := Lib.hid (below_nxt HLX.out hb1)
    have HR1 := Lib.hid (HRX.out.step hb1)
    have HX1 := Lib.hid (HBX.out.step hb1)
    have HE1 := Lib.hid (HEX.out.step hb1)
    clear hb1 HLX HRX HBX HEX
    obtain ⟨r0, r1, r2, r3, r4⟩ := HR1.out
    obtain ⟨x0, x1, x2⟩ := HX1.out
    obtain ⟨y0, y1, y2⟩ := HE1.out
    go_wp2
    obtain ⟨RW, BW, VW⟩ := fin_nilG HR1.out HB1.out (by omega)
    generalize ((w1.setCell ⟨w.heap.size + 1 + 1, 0, none⟩ (.int .i64 0)).setCell ⟨w.heap.size + 1 + 1, 1, none⟩ (.slice none 0 0)) = W2 at *
    obtain ⟨-, t1, t2, -, -⟩ := RW
    exact bodyPost_ret (v := .tuple #[.agg #[.int .i64 0, .slice none 0 0], .int .i64 c]) (by simp [results, Try.results13, go_sem, t1, t2]) rfl ⟨_, rfl, VW, BW⟩
end Go.Proofs.Ytaikegiohjpifaa
