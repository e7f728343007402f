/- Meet of the reference. -/
import Derived.Test.YtcdidncffdfnnaaBMa
import Derived.StillTailTactics
namespace Go.Proofs.Ytcdidncffdfnnaa
open Go.RowKit
set_option maxHeartbeats 8000000 in
set_option maxRecDepth 100000 in
theorem rMet_any (n m : Int) (v u : Value) (R S : List (List Int)) (w : World) (hs : SeesR w v R) (hu : SeesR w u S) :
    Calls Try.prog 28 #[.agg #[.int .i64 n, v], .agg #[.int .i64 m, u]] w (RetB (Bn.meeV n R m S) w) := by
  have CB := fun W (h : SeesR W v R) (h2 : SeesR W u S) => Lib.hid (rBoth_any n m v u R S W h h2)
  have HS := Lib.hid hs
  have HU := Lib.hid hu
  obtain ⟨ao, cap, rfl, hcap1, hcap2, -⟩ := hs
  obtain ⟨bo, cbp, rfl, hcbp1, hcbp2, -⟩ := hu
  obtain ⟨X, hX, hBX, hEX, hRX, hLX⟩ := pro32 w n m (.slice ao R.length cap) (.slice bo S.length cbp)
  have HEX := Lib.hid hEX
  have HBX := Lib.hid hBX
  have HRX := Lib.hid hRX
  have HLX := Lib.hid hLX
  obtain ⟨x0, x1, x2⟩ := hBX
  obtain ⟨y0, y1, y2⟩ := hEX
  rw [hX] at x0 x1 x2 y0 y1 y2
  clear hLX hRX
  by_cases h1 : Bn.twE n R m S = 0
  · obtain ⟨h2, h3, rfl⟩ := Bn.twE_ok h1
    obtain ⟨N, rfl, hN, hSh, hR⟩ := Bn.chk_ok h2
    obtain ⟨N', hNe, -, hSh2, -⟩ := Bn.chk_ok h3
    obtain rfl : N = N' := by omega
    have hv : Bn.meeV N R N S = ((N : Int), Bn.rws N (Bn.metM R S), 0) := by
      unfold Bn.meeV
      rw [if_pos h1, Int.toNat_natCast]
    rw [hv]
    have CO := fun W (h : SeesR W (.slice ao R.length cap) R) => Lib.hid (rCopied_any N _ R W hN hSh h)
    rw [h1] at CB
    have hRl := hSh.1
    have hSl := hSh2.1
    have HSh := Lib.hid hSh
    have HSh2 := Lib.hid hSh2
    clear hv h1 h2 h3 hNe hR hSh hSh2
    go_enter Try.func28, Try.ntmps28
    have HRl := Lib.hid hRl
    have HSl := Lib.hid hSl
    clear hRl hSl
    go_wp2_with fail
    rw [← hX]
    clear x0 x1 x2 y0 y1 y2
    refine ((CB X (HS.out.step HLX.out) (HU.out.step HLX.out)).out).mono ?_
    rintro e w1 ⟨rfl, hb1⟩
    have HB1 := Lib.hid (below_nxt HLX.out hb1)
    have HR1 := Lib.hid (HRX.out.step hb1)
    have HX1 := Lib.hid (HBX.out.step hb1)
    have HE1 := Lib.hid (HEX.out.step hb1)
    obtain ⟨x0, x1, x2⟩ := HX1.out
    clear hb1 HRX HBX HEX CB
    go_wp2_with fail
    clear x0 x1 x2
    refine ((CO w1 (HS.out.step HB1.out)).out).mono ?_
    rintro e w3 ⟨v3, rfl, ⟨A, cp, f, c, rfl, hcp1, hcp2, hG⟩, hb3⟩
    have HX3 := Lib.hid (HX1.out.step hb3)
    have HE3 := Lib.hid (HE1.out.step hb3)
    have HR3 := Lib.hid (HR1.out.step hb3)
    have HB3 := Lib.hid (below_nxt HB1.out hb3)
    have L4 : Below w3.heap.size w3 (w3.alloc (.cells #[.int .i64 (N : Int), .slice (some ⟨A, 0, none⟩) (N + 1) cp] 24)) := (Below.refl _ _).alloc (Nat.le_refl _) _
    have HO4 := Lib.hid (resI_new w3 (N : Int) (.slice (some ⟨A, 0, none⟩) (N + 1) cp) 24)
    have HX4 := Lib.hid (HX3.out.step L4)
    have HE4 := Lib.hid (HE3.out.step L4)
    have HR4 := Lib.hid (HR3.out.step L4)
    have HB4 := Lib.hid (below_nxt HB3.out L4)
    have HG4 := Lib.hid ((hG.step L4).congr (m' := Bn.fil (Bn.metM R S) (Bn.mx R) 0 0) (fun x y _ _ => (Bn.fil_zero _ _ x y).symm))
    have HFB := Lib.hid (fun i hi => (⟨(hG.blk i hi).1, (hG.blk i hi).2.1⟩ : f i < w3.heap.size ∧ w1.heap.size ≤ f i))
    have hr1 := HR1.out.1
    have hA := hG.ge
    clear hb3 hG L4 HX3 HE3 HR3 HB3 HX1 HE1 HR1 HB1 HLX CO
    go_wp2
    generalize w3.alloc (.cells #[.int .i64 (N : Int), .slice (some ⟨A, 0, none⟩) (N + 1) cp] 24) = X4 at *
    generalize w3.heap.size = nb at *
    go_loopw [8] (fun s8 wr => ∃ i : Nat, i ≤ N + 1 ∧ s8 = .int .i64 (i : Int) ∧ BoxB wr w.heap.size N (.slice ao R.length cap) ∧ Hid (BoxB wr (w.heap.size + 1) N (.slice bo S.length cbp)) ∧ Hid (ResI wr nb N (.slice (some ⟨A, 0, none⟩) (N + 1) cp)) ∧ Hid (ResI wr (w.heap.size + 1 + 1) 0 (.slice none 0 0)) ∧ Hid (Grd w1.heap.size wr A (N + 1) (N + 1) f c (Bn.fil (Bn.metM R S) (Bn.mx R) i 0)) ∧ Hid (Below w.heap.size w wr)) (fun s8 _ => N + 1 - (intOf s8).toNat)
    case atStart => exact ⟨0, Nat.zero_le _, rfl, HX4.out, HE4, HO4, HR4, HG4, HB4⟩
    case round =>
      clear HX4 HE4 HO4 HR4 HG4 HB4
      obtain ⟨i, hi, rfl, hB, HE, HO, HR, HG, HBW⟩ := hrel
      have HBx := Lib.hid hB
      obtain ⟨b0, b1, b2⟩ := hB
      by_cases hil : i < N + 1
      · have hq : (i : Int) ≤ (N : Int) := by omega
        obtain ⟨wo, rfl⟩ : ∃ wo, wo = wr := ⟨_, rfl⟩
        go_wp2
        go_loopw [9] (fun s9 wr => ∃ j : Nat, j ≤ N + 1 ∧ s9 = .int .i64 (j : Int) ∧ BoxB wr w.heap.size N (.slice ao R.length cap) ∧ Hid (BoxB wr (w.heap.size + 1) N (.slice bo S.length cbp)) ∧ Hid (ResI wr nb N (.slice (some ⟨A, 0, none⟩) (N + 1) cp)) ∧ Hid (ResI wr (w.heap.size + 1 + 1) 0 (.slice none 0 0)) ∧ Hid (Grd w1.heap.size wr A (N + 1) (N + 1) f c (Bn.fil (Bn.metM R S) (Bn.mx R) i j)) ∧ Hid (Below w.heap.size w wr)) (fun s9 _ => N + 1 - (intOf s9).toNat)
        case atStart => exact ⟨0, Nat.zero_le _, rfl, HBx.out, HE, HO, HR, HG, HBW⟩
        case round =>
          clear HBx HE HO HR HG HBW b0 b1 b2
          obtain ⟨j, hj, rfl, hB, HE, HO, HR, HG, HBW⟩ := hrel
          have HBx := Lib.hid hB
          obtain ⟨b0, b1, b2⟩ := hB
          by_cases hjl : j < N + 1
          · have hq2 : (j : Int) ≤ (N : Int) := by omega
            obtain ⟨e0, e1, e2⟩ := HE.out
            obtain ⟨o0, o1, o2, o3, o4⟩ := HO.out
            obtain ⟨g1, g2, g3⟩ := HG.out.at hil hjl
            obtain ⟨ab, aoff, acp, ad, ao2, acr, hae, hab, a1, had, a2⟩ := HS.out.get HBW.out (i := i) (j := j) (by rw [HRl.out]; exact hil) (by rw [HSh.out.2 i (by omega)]; exact hjl)
            obtain ⟨cb, coff, ccp, cd, co2, ccr, hce, hcb, c1, hcd, c2⟩ := HU.out.get HBW.out (i := i) (j := j) (by rw [HSl.out]; exact hil) (by rw [HSh2.out.2 i (by omega)]; exact hjl)
            simp only [Value.slice.injEq] at hae hce
            obtain ⟨rfl, -, rfl⟩ := hae
            obtain ⟨rfl, -, rfl⟩ := hce
            rw [HSh.out.2 i (by omega)] at a1
            rw [HSh2.out.2 i (by omega)] at c1
            have CL := fun W => Lib.hid (rLesser_any (Bn.mx R i j) (Bn.mx S i j) W)
            have HPE : Hid (Bn.mn (Bn.mx R i j) (Bn.mx S i j) = Bn.metM R S i j) := Lib.hid rfl
            have HPut := Lib.hid ((HG.out.put hil hjl (Bn.metM R S i j)).congr (m' := Bn.fil (Bn.metM R S) (Bn.mx R) i (j + 1)) (fun a b _ _ => Bn.fil_next _ _ i j a b))
            have hf := HFB.out i hil
            have GP := Lib.hid (grown_drew (grown_set (i := j) (v := .int .i64 (Bn.metM R S i j)) (grown_refl wr (some (f i)))))
            generalize Bn.metM R S i j = z at *
            generalize Bn.mx R i j = y1 at *
            generalize Bn.mx S i j = y2 at *
            have zi : (i : Int) < (N : Int) + 1 := by omega
            have zj : (j : Int) < (N : Int) + 1 := by omega
            have zR : (i : Int) < (R.length : Int) := by rw [HRl.out]; omega
            have zS : (i : Int) < (S.length : Int) := by rw [HSl.out]; omega
            have zR' : i < R.length := by omega
            have zS' : i < S.length := by omega
            generalize hrl9 : R.length = rl at *
            generalize hsl9 : S.length = sl at *
            go_wp2
            refine wp_region_still_tail 24 (by kernel_rfl) (by kernel_rfl) ?_
            simp only [List.take_succ_cons, List.take_zero, List.drop_succ_cons, List.drop_zero]
            repeat still_step
            still_call ((CL wr.drew).out)
            repeat still_step
            change wpList _ _ _ _ _ wr.drew
            rw [HPE.out]
            go_wp2
            exact ⟨⟨j + 1, by omega, by first | rfl | go_num, HBx.out.grown GP.out (by omega), Lib.hid (HE.out.grown GP.out (by omega)), Lib.hid (HO.out.grown GP.out (by omega)), Lib.hid (HR.out.grown GP.out (by omega)), Lib.hid HPut.out.drew, Lib.hid (HBW.out.trans (below_grown GP.out HBW.out.size (by omega)))⟩, by simp [intOf]; omega⟩
          · have hjj : j = N + 1 := by omega
            subst j
            have HG2 := Lib.hid (HG.out.congr (fun a b _ hb => Bn.fil_rowN (show b ≤ N by omega)))
            clear HG
            go_wp2
            exact ⟨⟨i + 1, by omega, by first | rfl | go_num, HBx.out, HE, HO, HR, HG2, HBW⟩, by simp [intOf]; omega⟩
      · have hii : i = N + 1 := by omega
        subst i
        rw [show ((N + 1 : Nat) : Int) = (N : Int) + 1 from rfl]
        obtain ⟨o0, o1, o2, o3, o4⟩ := HO.out
        obtain ⟨r0, r1, r2, r3, r4⟩ := HR.out
        have hV : ValF w1.heap.size wr (.agg #[.int .i64 (N : Int), .slice (some ⟨A, 0, none⟩) (N + 1) cp]) N (Bn.rws N (Bn.metM R S)) := (HG.out.congr (m' := Bn.metM R S) (fun a b ha _ => Bn.fil_endN (show a ≤ N by omega))).valF hcp1 hcp2
        go_wp2
        obtain ⟨RW, BW, VW⟩ := fin_valG HR.out HBW.out (by omega) hV (by omega)
        generalize ((wr.setCell ⟨w.heap.size + 1 + 1, 0, none⟩ (.int .i64 (N : Int))).setCell ⟨w.heap.size + 1 + 1, 1, none⟩ (.slice (some ⟨A, 0, none⟩) (N + 1) cp)) = W2 at *
        obtain ⟨-, t1, t2, -, -⟩ := RW
        exact bodyPost_ret (v := .tuple #[.agg #[.int .i64 (N : Int), .slice (some ⟨A, 0, none⟩) (N + 1) cp], .int .i64 0]) (by simp [results, Try.results28, go_sem, t1, t2]) rfl ⟨_, rfl, VW, BW⟩
  · have hv : Bn.meeV n R m S = (0, [], Bn.twE n R m S) := if_neg h1
    rw [hv]
    clear hv
    go_enter Try.func28, Try.ntmps28
    go_wp2_with fail
    rw [← hX]
    clear x0 x1 x2 y0 y1 y2
    refine ((CB X (HS.out.step HLX.out) (HU.out.step HLX.out)).out).mono ?_
    rintro e w1 ⟨rfl, hb1⟩
    have HB1 := Lib.hid (below_nxt HLX.out hb1)
    have HR1 := Lib.hid (HRX.out.step hb1)
    obtain ⟨r0, r1, r2, r3, r4⟩ := HR1.out
    clear hb1
    go_wp2
    obtain ⟨RW, BW, VW⟩ := fin_nilG HR1.out HB1.out (by omega)
    generalize ((w1.setCell ⟨w.heap.size + 1 + 1, 0, none⟩ (.int .i64 0)).setCell ⟨w.heap.size + 1 + 1, 1, none⟩ (.slice none 0 0)) = W2 at *
    obtain ⟨-, t1, t2, -, -⟩ := RW
    exact bodyPost_ret (v := .tuple #[.agg #[.int .i64 0, .slice none 0 0], .int .i64 (Bn.twE n R m S)]) (by simp [results, Try.results28, go_sem, t1, t2]) rfl ⟨_, rfl, VW, BW⟩
end Go.Proofs.Ytcdidncffdfnnaa
