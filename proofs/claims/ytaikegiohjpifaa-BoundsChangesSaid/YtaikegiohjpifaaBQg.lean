/- More of the reference. -/
import Derived.Test.YtaikegiohjpifaaBQe
import Derived.IntWalk
namespace Go.Proofs.Ytaikegiohjpifaa
open Go.RowKit
/-- The boxes of bounds and of a span, and the variable of a result. -/
theorem proS (w : World) (n a b : Int) (v : Value) : ∃ X, X = (((w.alloc (.cells #[.int .i64 n, v] 24)).alloc (.cells #[.int .i64 a, .int .i64 b] 26)).alloc (.cells #[.int .i64 0, .slice none 0 0] 24)) ∧ BoxB X w.heap.size n v ∧ BoxB X (w.heap.size + 1) a (.int .i64 b) ∧ ResI X (w.heap.size + 1 + 1) 0 (.slice none 0 0) ∧ Below w.heap.size w X := by
  refine ⟨_, rfl, ?_⟩
  obtain ⟨B0, L0⟩ := boxB_new w n v 24
  have e0 : (w.alloc (.cells #[.int .i64 n, v] 24)).heap.size = w.heap.size + 1 := by simp
  generalize w.alloc (.cells #[.int .i64 n, v] 24) = Y at *
  obtain ⟨B1, L1⟩ := boxB_new Y a (.int .i64 b) 26
  have e1 : (Y.alloc (.cells #[.int .i64 a, .int .i64 b] 26)).heap.size = w.heap.size + 1 + 1 := by simp [e0]
  rw [e0] at B1
  have B0' := B0.step L1
  have LL1 := below_nxt L0 L1
  generalize Y.alloc (.cells #[.int .i64 a, .int .i64 b] 26) = Z at *
  have R1 := resI_new Z 0 (.slice none 0 0) 24
  have L2 : Below Z.heap.size Z (Z.alloc (.cells #[.int .i64 0, .slice none 0 0] 24)) := (Below.refl _ _).alloc (Nat.le_refl _) _
  rw [e1] at R1
  exact ⟨B0'.step L2, B1.step L2, R1, below_nxt LL1 L2⟩
set_option maxHeartbeats 8000000 in
set_option maxRecDepth 100000 in
theorem rMore_any (N : Nat) (a b : Int) (v : Value) (R : List (List Int)) (w : World) (hN : N ≤ 11) (hS : Bn.Shp N R) (ha : 0 ≤ a ∧ a ≤ 1000000) (hb : 0 ≤ b ∧ b ≤ 1000000) (hs : SeesR w v R) :
    Calls Try.prog 48 #[.agg #[.int .i64 (N : Int), v], .agg #[.int .i64 a, .int .i64 b]] w fun e w' => ∃ v, e = .returned v ∧ OwnB w.heap.size w' v (N + 1) (Bn.grM R N a b) ∧ Below w.heap.size w w' := by
  have HS := Lib.hid hs
  obtain ⟨ao, cap, rfl, hcap1, hcap2, -⟩ := hs
  have CF := fun W => Lib.hid (show Calls Try.prog 35 #[.int .i64 ((N : Int) + 1)] W fun e w' => ∃ v, e = .returned v ∧ OwnB W.heap.size w' v (N + 1) Bn.fre ∧ Below W.heap.size W w' from rFree_any (N + 1) W (by omega))
  obtain ⟨X, hX, hBX, hEX, hRX, hLX⟩ := proS w (N : Int) a b (.slice ao R.length cap)
  have HEX := Lib.hid hEX
  have HBX := Lib.hid hBX
  have HRX := Lib.hid hRX
  have HLX := Lib.hid hLX
  obtain ⟨x0, x1, x2⟩ := hBX
  obtain ⟨y0, y1, y2⟩ := hEX
  rw [hX] at x0 x1 x2 y0 y1 y2
  clear hRX hLX
  have HRl := Lib.hid hS.1
  have HSh := Lib.hid hS
  have HA := Lib.hid ha
  have HBb := Lib.hid hb
  clear hS ha hb
  go_enter Try.func48, Try.ntmps48
  go_wp2_with fail
  rw [← hX]
  clear x0 x1 x2 y0 y1 y2
  refine ((CF X).out).mono ?_
  rintro e w3 ⟨v3, rfl, ⟨A, cp, f, c, rfl, hcp1, hcp2, hG⟩, hb3⟩
  rw [show ((N + 1 : Nat) : Int) = (N : Int) + 1 from rfl]
  have HX3 := Lib.hid (HBX.out.step hb3)
  have HE3 := Lib.hid (HEX.out.step hb3)
  have HR3 := Lib.hid (HRX.out.step hb3)
  have HB3 := Lib.hid (below_nxt HLX.out hb3)
  have L4 : Below w3.heap.size w3 (w3.alloc (.cells #[.int .i64 ((N : Int) + 1), .slice (some ⟨A, 0, none⟩) (N + 1 + 1) cp] 24)) := (Below.refl _ _).alloc (Nat.le_refl _) _
  have HO4 := Lib.hid (resI_new w3 ((N : Int) + 1) (.slice (some ⟨A, 0, none⟩) (N + 1 + 1) cp) 24)
  have HX4 := Lib.hid (HX3.out.step L4)
  have HE4 := Lib.hid (HE3.out.step L4)
  have HR4 := Lib.hid (HR3.out.step L4)
  have HB4 := Lib.hid (below_nxt HB3.out L4)
  have HG4 := Lib.hid ((hG.step L4).congr (m' := Bn.fil (Bn.sq N (Bn.mx R) Bn.fre) Bn.fre 0 0) (fun x y _ _ => (Bn.fil_zero _ _ x y).symm))
  have HFB := Lib.hid (fun i hi => (⟨(hG.blk i hi).1, (hG.blk i hi).2.1⟩ : f i < w3.heap.size ∧ X.heap.size ≤ f i))
  have hr1 := HRX.out.1
  have hA := hG.ge
  have hA2 := hG.lt
  clear hb3 hG L4 HX3 HE3 HR3 HB3 HBX HEX HRX HLX CF
  go_wp2
  generalize w3.alloc (.cells #[.int .i64 ((N : Int) + 1), .slice (some ⟨A, 0, none⟩) (N + 1 + 1) cp] 24) = X4 at *
  generalize w3.heap.size = nb at *
  go_loopw [6] (fun s6 wr => ∃ i : Nat, i ≤ N + 1 ∧ s6 = .int .i64 (i : Int) ∧ BoxB wr w.heap.size N (.slice ao R.length cap) ∧ Hid (BoxB wr (w.heap.size + 1) a (.int .i64 b)) ∧ Hid (ResI wr nb ((N : Int) + 1) (.slice (some ⟨A, 0, none⟩) (N + 1 + 1) cp)) ∧ Hid (ResI wr (w.heap.size + 1 + 1) 0 (.slice none 0 0)) ∧ Hid (Grd X.heap.size wr A (N + 1 + 1) (N + 1 + 1) f c (Bn.fil (Bn.sq N (Bn.mx R) Bn.fre) Bn.fre i 0)) ∧ Hid (Below w.heap.size w wr)) (fun s6 _ => N + 1 - (intOf s6).toNat)
  case atStart => exact ⟨0, Nat.zero_le _, rfl, HX4.out, HE4, HO4, HR4, HG4, HB4⟩
  case round =>
    clear HX4 HE4 HO4 HR4 HG4 HB4
    obtain ⟨i, hi, rfl, hB, HE, HO, HR, HG, HBW⟩ := hrel
    have HBx := Lib.hid hB
    obtain ⟨b0, b1, b2⟩ := hB
    by_cases hil : i < N + 1
    · have hq : (i : Int) ≤ (N : Int) := by omega
      obtain ⟨wo, rfl⟩ : ∃ wo, wo = wr := ⟨_, rfl⟩
      go_wp2
      go_loopw [7] (fun s7 wr => ∃ j : Nat, j ≤ N + 1 ∧ s7 = .int .i64 (j : Int) ∧ BoxB wr w.heap.size N (.slice ao R.length cap) ∧ Hid (BoxB wr (w.heap.size + 1) a (.int .i64 b)) ∧ Hid (ResI wr nb ((N : Int) + 1) (.slice (some ⟨A, 0, none⟩) (N + 1 + 1) cp)) ∧ Hid (ResI wr (w.heap.size + 1 + 1) 0 (.slice none 0 0)) ∧ Hid (Grd X.heap.size wr A (N + 1 + 1) (N + 1 + 1) f c (Bn.fil (Bn.sq N (Bn.mx R) Bn.fre) Bn.fre i j)) ∧ Hid (Below w.heap.size w wr)) (fun s7 _ => N + 1 - (intOf s7).toNat)
      case atStart => exact ⟨0, Nat.zero_le _, rfl, HBx.out, HE, HO, HR, HG, HBW⟩
      case round =>
        clear HBx HE HO HR HG HBW b0 b1 b2
        obtain ⟨j, hj, rfl, hB, HE, HO, HR, HG, HBW⟩ := hrel
        have HBx := Lib.hid hB
        obtain ⟨b0, b1, b2⟩ := hB
        by_cases hjl : j < N + 1
        · have hq2 : (j : Int) ≤ (N : Int) := by omega
          obtain ⟨o0, o1, o2, o3, o4⟩ := HO.out
          obtain ⟨g1, g2, g3⟩ := HG.out.at (show i < N + 1 + 1 by omega) (show j < N + 1 + 1 by omega)
          obtain ⟨ab, aoff, acp, ad, ao2, acr, hae, hab, a1, had, a2⟩ := HS.out.get HBW.out (i := i) (j := j) (by rw [HRl.out]; exact hil) (by rw [HSh.out.2 i (by omega)]; exact hjl)
          simp only [Value.slice.injEq] at hae
          obtain ⟨rfl, -, rfl⟩ := hae
          rw [HSh.out.2 i (by omega)] at a1
          have HPut := Lib.hid ((HG.out.put (show i < N + 1 + 1 by omega) (show j < N + 1 + 1 by omega) (Bn.mx R i j)).congr (m' := Bn.fil (Bn.sq N (Bn.mx R) Bn.fre) Bn.fre i (j + 1)) (fun p q _ _ => by
            have := Bn.fil_next (Bn.sq N (Bn.mx R) Bn.fre) Bn.fre i j p q
            rw [Bn.sq_in (show i ≤ N by omega) (show j ≤ N by omega)] at this
            exact this))
          have hf := HFB.out i (by omega)
          have GP := Lib.hid (grown_drew (grown_set (i := j) (v := .int .i64 (Bn.mx R i j)) (grown_refl wr (some (f i)))))
          generalize Bn.mx R i j = z at *
          have zi : (i : Int) < (N : Int) + 1 + 1 := by omega
          have zj : (j : Int) < (N : Int) + 1 + 1 := by omega
          have zR : (i : Int) < (R.length : Int) := by rw [HRl.out]; omega
          have zR' : i < R.length := by omega
          have zjr : (j : Int) < (N : Int) + 1 := by omega
          generalize hrl9 : R.length = rl at *
          go_wp2
          go_region
          go_wp2
          exact ⟨⟨j + 1, by omega, by first | rfl | go_num, HBx.out.grown GP.out (by omega), Lib.hid (HE.out.grown GP.out (by omega)), Lib.hid (HO.out.grown GP.out (by omega)), Lib.hid (HR.out.grown GP.out (by omega)), Lib.hid HPut.out.drew, Lib.hid (HBW.out.trans (below_grown GP.out HBW.out.size (by omega)))⟩, by simp [intOf]; omega⟩
        · have hjj : j = N + 1 := by omega
          subst j
          have HG2 := Lib.hid (HG.out.congr (fun p q _ _ => Bn.fil_row (n := N) Bn.sq_col p q))
          clear HG
          go_wp2
          exact ⟨⟨i + 1, by omega, by first | rfl | go_num, HBx.out, HE, HO, HR, HG2, HBW⟩, by simp [intOf]; omega⟩
    · have hii : i = N + 1 := by omega
      subst i
      rw [show ((N + 1 : Nat) : Int) = (N : Int) + 1 from rfl]
      have HG2 := Lib.hid (HG.out.congr (m' := Bn.sq N (Bn.mx R) Bn.fre) (fun p q _ _ => Bn.fil_end (n := N) Bn.sq_row p q))
      clear HG
      have hf := HFB.out 0 (by omega)
      have hf2 := HFB.out (N + 1) (by omega)
      have hsum : IntKind.i64.wrap ((N : Int) + 1) = (N : Int) + 1 := IntWalk.i64_in _ (by omega)
      have htn : ((N : Int) + 1).toNat = N + 1 := by omega
      have zj : (N : Int) + 1 < (N : Int) + 1 + 1 := by omega
      have z0 : (0 : Int) < (N : Int) + 1 + 1 := by omega
      have z1 : (0 : Int) ≤ (N : Int) + 1 := by omega
      have hneg : IntKind.i64.wrap (-a) = -a := IntWalk.i64_in _ (by have := HA.out; omega)
      obtain ⟨e0, e1, e2⟩ := HE.out
      obtain ⟨o0, o1, o2, o3, o4⟩ := HO.out
      obtain ⟨g1, g2, g3⟩ := HG2.out.at (show 0 < N + 1 + 1 by omega) (show N + 1 < N + 1 + 1 by omega)
      have HP1 := Lib.hid ((HG2.out.put (show 0 < N + 1 + 1 by omega) (show N + 1 < N + 1 + 1 by omega) b).drew)
      have GP := Lib.hid (grown_drew (grown_set (i := N + 1) (v := .int .i64 b) (grown_refl wr (some (f 0)))))
      have HE1 := Lib.hid (HE.out.grown GP.out (by omega))
      have HO1 := Lib.hid (HO.out.grown GP.out (by omega))
      have HR1 := Lib.hid (HR.out.grown GP.out (by omega))
      have HX1 := Lib.hid (HBx.out.grown GP.out (by omega))
      have HB1 := Lib.hid (HBW.out.trans (below_grown GP.out HBW.out.size (by omega)))
      clear HG2 HE HO HR HBx HBW
      go_wp2
      go_region
      clear e0 e1 e2 o0 o1 o2 o3 o4 g1 g2 g3 b0 b1 b2 GP
      generalize hW1 : (wr.setCell ⟨f 0, N + 1, none⟩ (.int .i64 b)).drew = W1 at *
      clear hW1
      obtain ⟨b0, b1, b2⟩ := HX1.out
      obtain ⟨e0, e1, e2⟩ := HE1.out
      obtain ⟨o0, o1, o2, o3, o4⟩ := HO1.out
      obtain ⟨g1, g2, g3⟩ := HP1.out.at (show N + 1 < N + 1 + 1 by omega) (show 0 < N + 1 + 1 by omega)
      have HP2 := Lib.hid ((HP1.out.put (show N + 1 < N + 1 + 1 by omega) (show 0 < N + 1 + 1 by omega) (-a)).drew)
      have GP := Lib.hid (grown_drew (grown_set (i := 0) (v := .int .i64 (-a)) (grown_refl W1 (some (f (N + 1))))))
      have HO2 := Lib.hid (HO1.out.grown GP.out (by omega))
      have HR2 := Lib.hid (HR1.out.grown GP.out (by omega))
      have HB2 := Lib.hid (HB1.out.trans (below_grown GP.out HB1.out.size (by omega)))
      clear HP1 HE1 HO1 HR1 HX1 HB1
      go_wp2
      go_region
      clear e0 e1 e2 o0 o1 o2 o3 o4 g1 g2 g3 b0 b1 b2 GP
      generalize hW2 : (W1.setCell ⟨f (N + 1), 0, none⟩ (.int .i64 (-a))).drew = W2 at *
      clear hW2
      obtain ⟨o0, o1, o2, o3, o4⟩ := HO2.out
      obtain ⟨r0, r1, r2, r3, r4⟩ := HR2.out
      go_wp2
      have hRP := HR2.out.put ((N : Int) + 1) (.slice (some ⟨A, 0, none⟩) (N + 1 + 1) cp)
      have hG6 := (HP2.out.other (g := w.heap.size + 1 + 1) (grown_set (i := 0) (v := .int .i64 ((N : Int) + 1)) (grown_refl _ _)) (by omega) (fun q hq => by have := HFB.out q hq; omega)).other (g := w.heap.size + 1 + 1) (grown_set (i := 1) (v := .slice (some ⟨A, 0, none⟩) (N + 1 + 1) cp) (grown_refl _ _)) (by omega) (fun q hq => by have := HFB.out q hq; omega)
      obtain ⟨-, t1, t2, -, -⟩ := hRP
      exact bodyPost_ret (v := .agg #[.int .i64 ((N : Int) + 1), .slice (some ⟨A, 0, none⟩) (N + 1 + 1) cp]) (by simp [results, Try.f48, go_sem, t1, t2]) rfl ⟨_, rfl, ⟨A, cp, f, c, rfl, hcp1, hcp2, hG6.mono (show w.heap.size ≤ X.heap.size by omega)⟩, (HB2.out.setCell (p := ⟨w.heap.size + 1 + 1, 0, none⟩) (by simp only; omega) _).setCell (p := ⟨w.heap.size + 1 + 1, 1, none⟩) (by simp only; omega) _⟩
end Go.Proofs.Ytaikegiohjpifaa
