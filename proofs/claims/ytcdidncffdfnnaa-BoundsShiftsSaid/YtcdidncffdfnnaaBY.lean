/- Shift of the reference. -/
import Derived.Test.YtcdidncffdfnnaaBV
import Derived.Test.YtcdidncffdfnnaaBS
import Derived.BigRegion
namespace Go.Proofs.Ytcdidncffdfnnaa
open Go.RowKit
set_option maxHeartbeats 8000000 in
set_option maxRecDepth 100000 in
theorem rShi_any (n i : Int) (v : Value) (R : List (List Int)) (w : World) (hs : SeesR w v R) :
    Calls Try.prog 41 #[.agg #[.int .i64 n, v], .int .i64 i] w (RetB (Bn.shiV n R i) w) := by
  obtain ⟨i0, hi0, hz0, hz1, hz2⟩ := info_int
  have CT := fun W (h : SeesR W v R) => Lib.hid (rTmd_any n i v R W h)
  have HS := Lib.hid hs
  obtain ⟨ao, cap, rfl, hcap1, hcap2, -⟩ := hs
  obtain ⟨X, hX, hBX, hRX, hLX, hZX⟩ := pro2 w n (.slice ao R.length cap)
  have HBX := Lib.hid hBX
  have HRX := Lib.hid hRX
  have HLX := Lib.hid hLX
  obtain ⟨x0, x1, x2⟩ := hBX
  rw [hX] at x0 x1 x2
  clear hRX hLX
  by_cases h1 : Bn.cwE n R 1 [i] = 0
  · obtain ⟨h2, h3⟩ := Bn.cwE_ok h1
    obtain ⟨h4, h5⟩ := Bn.cix_chk h2
    have h6 : Bn.idx 1 n i = true := by simpa using h5
    obtain ⟨h7, h8⟩ := Bn.idx_iff.1 h6
    obtain ⟨N, rfl, hN, hSh, hR⟩ := Bn.chk_ok h4
    obtain ⟨a, rfl⟩ := Int.eq_ofNat_of_zero_le (show 0 ≤ i by omega)
    have ha1 : 1 ≤ a := by omega
    have haN : a ≤ N := by omega
    obtain ⟨M, hMN⟩ : ∃ M, N = M + 1 := ⟨N - 1, by omega⟩
    have hok : Bn.ok N (Bn.mx R) = true := by simpa using h3
    have hv : Bn.shiV N R a = Bn.bV M (fun x y => Bn.pr N (Bn.mx R) (N + 1) (Bn.shf a x) (Bn.shf a y)) := by
      unfold Bn.shiV
      rw [if_pos h1, Int.toNat_natCast, Int.toNat_natCast, show N - 1 = M by omega]
      exact Bn.bV_congr fun x y hx hy => (Bn.pr_cl hR hok (Bn.shf_le haN (by omega) ha1) (Bn.shf_le haN (by omega) ha1)).symm
    rw [hv]
    have CP := fun W (h : SeesR W (.slice ao R.length cap) R) => Lib.hid (rPaths_any N _ R W hSh hR h)
    have CF := fun W => Lib.hid (rFree_any M W (by omega))
    have CK := fun W B u (P : Bn.Mx) (h : OwnB B W (.agg #[.int .i64 (M : Int), u]) M P) => Lib.hid (show Calls Try.prog 78 #[.agg #[.int .i64 (M : Int), u]] W fun e w' => ∃ u, e = .returned (.tuple #[u, .int .i64 (Bn.bV M P).2.2]) ∧ ValF B w' u (Bn.bV M P).1 (Bn.bV M P).2.1 ∧ Below W.heap.size W w' by
      obtain ⟨u2, hu, hs3⟩ := h.val
      obtain rfl : u = u2 := by simpa using hu
      exact (rCkd_any M u _ W hs3).mono fun e w' hp => hp.val h)
    rw [h1] at CT
    have HMN := Lib.hid hMN
    clear hv h2 h3 h4 h5 h6 hok h1 hSh hR hMN
    generalize Bn.pr N (Bn.mx R) (N + 1) = P at *
    go_enter Try.func41, Try.ntmps41
    go_wp2_with fail
    rw [← hX]
    clear x0 x1 x2
    refine ((CT X (HS.out.step HLX.out)).out).mono ?_
    rintro e w1 ⟨rfl, hb1⟩
    have HB1 := Lib.hid (below_nxt HLX.out hb1)
    have HR1 := Lib.hid (HRX.out.step hb1)
    have HX1 := Lib.hid (HBX.out.step hb1)
    have hs1 := hb1.size
    obtain ⟨x0, x1, x2⟩ := HX1.out
    clear hb1 HRX HBX CT
    go_wp2_with fail
    clear x0 x1 x2
    refine ((CP w1 (HS.out.step HB1.out)).out).mono ?_
    rintro e w3 ⟨v3, rfl, ⟨A, cp, f, c, rfl, hcp1, hcp2, hG⟩, hb3⟩
    have HX3 := Lib.hid (HX1.out.step hb3)
    have HR3 := Lib.hid (HR1.out.step hb3)
    have HB3 := Lib.hid (below_nxt HB1.out hb3)
    have L4 : Below w3.heap.size w3 (w3.alloc (.cells #[.int .i64 (N : Int), .slice (some ⟨A, 0, none⟩) (N + 1) cp] 24)) := (Below.refl _ _).alloc (Nat.le_refl _) _
    have HO4 := Lib.hid (resI_new w3 (N : Int) (.slice (some ⟨A, 0, none⟩) (N + 1) cp) 24)
    have HX4 := Lib.hid (HX3.out.step L4)
    have HR4 := Lib.hid (HR3.out.step L4)
    have HB4 := Lib.hid (below_nxt HB3.out L4)
    have HG4 := Lib.hid (hG.step L4)
    have hpb : w3.heap.size < (w3.alloc (.cells #[.int .i64 (N : Int), .slice (some ⟨A, 0, none⟩) (N + 1) cp] 24)).heap.size := HO4.out.1
    clear hb3 hG L4 HX3 HR3 HB3 HX1 HR1 HB1 HLX CP
    obtain ⟨X4, hX4⟩ : ∃ X4, X4 = w3.alloc (.cells #[.int .i64 (N : Int), .slice (some ⟨A, 0, none⟩) (N + 1) cp] 24) := ⟨_, rfl⟩
    have hzz : (w3.alloc (.cells #[.int .i64 (N : Int), .slice (some ⟨A, 0, none⟩) (N + 1) cp] 24)).heap.size = X4.heap.size := by rw [hX4]
    rw [← hX4] at HO4 HX4 HR4 HB4 HG4 hpb
    have HL1 : Hid (RowI X4.heap.size 3 (X4.alloc (.cells #[.int .i64 (a : Int)] 3)) (.slice (some ⟨X4.heap.size, 0, none⟩) 1 1) (Bn.shL a 0)) := Lib.hid (by rw [Bn.shL_zero ha1]; exact RowI.one _ _ _ (Nat.le_refl _) _)
    have HBW : Hid (Below X4.heap.size X4 (X4.alloc (.cells #[.int .i64 (a : Int)] 3))) := Lib.hid ((Below.refl _ _).alloc (Nat.le_refl _) _)
    have hs0 : Bn.shN a 0 = 1 := by unfold Bn.shN; rw [if_pos (by omega)]
    go_wp2
    try rw [← hX4]
    try rw [hzz]
    clear hzz hX4
    go_loopw [8, 9] (fun s8 s9 wr => ∃ j : Nat, j ≤ N ∧ s9 = .int .i64 ((j : Int) + 1) ∧ Hid (RowI X4.heap.size 3 wr s8 (Bn.shL a j)) ∧ Hid (Below X4.heap.size X4 wr)) (fun _ s9 _ => N + 1 - (intOf s9).toNat)
    case atStart => exact ⟨0, Nat.zero_le _, by simp, HL1, HBW⟩
    case round =>
      clear HL1 HBW
      obtain ⟨j, hj, rfl, HL, HBW⟩ := hrel
      obtain ⟨ra, rc, hrv⟩ := HL.out.form
      rw [Bn.shL_len] at hrv
      subst hrv
      obtain ⟨b0, b1, b2⟩ := HX4.out.step HBW.out
      have hzw := HBW.out.size
      by_cases hjl : j < N
      · have hq : (j : Int) + 1 ≤ (N : Int) := by omega
        by_cases hja : j + 1 = a
        · have HL2 : Hid (RowI X4.heap.size 3 wr (.slice ra (Bn.shN a j) rc) (Bn.shL a (j + 1))) := Lib.hid (by rw [Bn.shL_same hja]; exact HL.out)
          have hji : (a : Int) = (j : Int) + 1 := by omega
          rw [hji]
          go_wp2
          exact ⟨⟨j + 1, by omega, by first | rfl | go_num, HL2, HBW⟩, by simp [intOf]; omega⟩
        · have HS2 := Lib.hid (Bn.shL_more ha1 hja)
          have hji : ¬ ((j : Int) + 1 = (a : Int)) := by omega
          have HLL := Lib.hid (Bn.shL_len a j)
          have hnj : Bn.shN a j ≤ j + 1 := by unfold Bn.shN; split <;> omega
          have HLen : Hid ((Bn.shL a j).length + [((j : Int) + 1)].length ≤ 1048576) := Lib.hid (by rw [HLL.out]; simp; omega)
          have HWT := Lib.hid (fun (o : Obj) => (HL.out.step ((Below.refl _ _).alloc (Nat.le_refl _) o)))
          have HN1 := Lib.hid (SeesI.one wr ((j : Int) + 1) 3)
          clear HL
          generalize Bn.shL a j = l at *
          go_wp2_with (at_builtin; refine wpList_append_int rfl _ _ 25 rfl 3 i0 Try.underlying25 hi0 hz0 hz1 hz2 _ _ l [((j : Int) + 1)] rfl rfl X4.heap.size (HWT.out _) HN1.out HLen.out (by simp; omega) ?_; intro a5 p5 w5 hr5 hg5 ho5; have hb5 := RowI.belowOwn (C := X4.heap.size) (HWT.out _) hg5 (by simp; omega) (Nat.le_refl _); have HR5 := Lib.hid hr5; have HB5 := Lib.hid ((HBW.out.alloc hzw _).trans hb5); clear hr5 hg5 ho5 hb5)
          exact ⟨⟨j + 1, by omega, by first | rfl | go_num, by rw [HS2.out]; exact HR5, HB5⟩, by simp [intOf]; omega⟩
      · obtain rfl : j = N := by omega
        have hsn : Bn.shN a j = j := by unfold Bn.shN; rw [if_neg (by omega)]
        rw [hsn] at HL
        rw [hsn]
        obtain ⟨ka, kc, hkv, hk1, hk2, hkc⟩ := SeesI.opened HL.out.sees
        have hll : (Bn.shL a j).length = j := by rw [Bn.shL_len, hsn]
        rw [hll] at hkv hk1
        simp only [Value.slice.injEq] at hkv
        obtain ⟨rfl, -, rfl⟩ := hkv
        have HKC := Lib.hid hkc
        have HLL := Lib.hid hll
        have hMI : (j : Int) - 1 = (M : Int) := by have := HMN.out; omega
        have HP5 := Lib.hid (HG4.out.step HBW.out)
        have HO5 := Lib.hid (HO4.out.step HBW.out)
        have HR5 := Lib.hid (HR4.out.step HBW.out)
        have HB5 := Lib.hid (below_nxt HB4.out HBW.out)
        have hpb5 : w3.heap.size < wr.heap.size := by omega
        have hqb5 : w.heap.size + 1 < wr.heap.size := HR5.out.1
        clear hkc hll HL HG4 HO4 HR4 HB4 HX4 HBW
        go_wp2_with fail
        refine ((CF wr).out).mono ?_
        rintro e w6 ⟨v6, rfl, ⟨A2, cp2, f2, c2, rfl, hcp3, hcp4, hG6⟩, hb6⟩
        have L7 : Below w6.heap.size w6 (w6.alloc (.cells #[.int .i64 (M : Int), .slice (some ⟨A2, 0, none⟩) (M + 1) cp2] 24)) := (Below.refl _ _).alloc (Nat.le_refl _) _
        have HN7 := Lib.hid (resI_new w6 (M : Int) (.slice (some ⟨A2, 0, none⟩) (M + 1) cp2) 24)
        have HG7 := Lib.hid ((hG6.step L7).congr (m' := Bn.fil (fun x y => P (Bn.shf a x) (Bn.shf a y)) Bn.fre 0 0) (fun x y _ _ => (Bn.fil_zero _ _ x y).symm))
        have HB7 := Lib.hid (below_nxt hb6 L7)
        have HFB := Lib.hid (fun i hi => (⟨(hG6.blk i hi).1, (hG6.blk i hi).2.1⟩ : f2 i < w6.heap.size ∧ wr.heap.size ≤ f2 i))
        have hA2 := hG6.lt
        have hs6 := hb6.size
        clear hb6 hG6 L7 CF
        go_wp2
        try rw [hMI]
        generalize w6.alloc (.cells #[.int .i64 (M : Int), .slice (some ⟨A2, 0, none⟩) (M + 1) cp2] 24) = X7 at *
        generalize w6.heap.size = nb at *
        obtain ⟨w5, rfl⟩ : ∃ w5, w5 = wr := ⟨_, rfl⟩
        have hMj := HMN.out
        go_loopw [11] (fun s11 wr => ∃ x : Nat, x ≤ j ∧ s11 = .int .i64 (x : Int) ∧ Hid (ResI wr nb M (.slice (some ⟨A2, 0, none⟩) (M + 1) cp2)) ∧ Hid (Grd w5.heap.size wr A2 (M + 1) (M + 1) f2 c2 (Bn.fil (fun x y => P (Bn.shf a x) (Bn.shf a y)) Bn.fre x 0)) ∧ Hid (Below w5.heap.size w5 wr)) (fun s11 _ => j - (intOf s11).toNat)
        case atStart => exact ⟨0, Nat.zero_le _, rfl, HN7, HG7, HB7⟩
        case round =>
          clear HN7 HG7 HB7
          obtain ⟨x, hx, rfl, HNx, HGx, HBx⟩ := hrel
          by_cases hxl : x < j
          · have hq : (x : Int) < (j : Int) := by omega
            obtain ⟨w8, rfl⟩ : ∃ w8, w8 = wr := ⟨_, rfl⟩
            go_wp2
            go_loopw [12] (fun s12 wr => ∃ y : Nat, y ≤ j ∧ s12 = .int .i64 (y : Int) ∧ Hid (ResI wr nb M (.slice (some ⟨A2, 0, none⟩) (M + 1) cp2)) ∧ Hid (Grd w5.heap.size wr A2 (M + 1) (M + 1) f2 c2 (Bn.fil (fun x y => P (Bn.shf a x) (Bn.shf a y)) Bn.fre x y)) ∧ Hid (Below w5.heap.size w5 wr)) (fun s12 _ => j - (intOf s12).toNat)
            case atStart => exact ⟨0, Nat.zero_le _, rfl, HNx, HGx, HBx⟩
            case round =>
              clear HNx HGx HBx
              obtain ⟨y, hy, rfl, HNx, HGx, HBx⟩ := hrel
              by_cases hyl : y < j
              · have hq2 : (y : Int) < (j : Int) := by omega
                have hxM : x < M + 1 := by omega
                have hyM : y < M + 1 := by omega
                obtain ⟨kb, ko, rfl, k1, k2⟩ := HKC.out.both HBx.out (i := x) (j := y) (by rw [HLL.out]; omega) (by rw [HLL.out]; omega)
                rw [Bn.shL_at (by unfold Bn.shN; rw [if_neg (by omega)]; omega)] at k1 k2
                have hsx := Bn.shf_le (x := x) haN (by omega) ha1
                have hsy := Bn.shf_le (x := y) haN (by omega) ha1
                obtain ⟨n0, n1, n2, n3, n4⟩ := HNx.out
                obtain ⟨p0, p1, p2, p3, p4⟩ := HO5.out.step HBx.out
                obtain ⟨g1, g2, g3⟩ := HGx.out.at hxM hyM
                obtain ⟨q1, q2, q3⟩ := (HP5.out.step HBx.out).at (show Bn.shf a x < j + 1 by omega) (show Bn.shf a y < j + 1 by omega)
                have HG2 := Lib.hid ((HGx.out.put hxM hyM (P (Bn.shf a x) (Bn.shf a y))).congr (m' := Bn.fil (fun x y => P (Bn.shf a x) (Bn.shf a y)) Bn.fre x (y + 1)) (fun b c _ _ => Bn.fil_next (fun x y => P (Bn.shf a x) (Bn.shf a y)) Bn.fre x y b c))
                have hf1 := HFB.out x hxM
                have gr : wr.grownBy (wr.setCell ⟨f2 x, y, none⟩ (.int .i64 (P (Bn.shf a x) (Bn.shf a y)))) (some (f2 x)) := grown_set (grown_refl _ _)
                have HN2 := Lib.hid (HNx.out.grown gr (by omega))
                have HB2 := Lib.hid (HBx.out.setCell (p := ⟨f2 x, y, none⟩) (show w5.heap.size ≤ f2 x by omega) (.int .i64 (P (Bn.shf a x) (Bn.shf a y))))
                clear gr HGx HNx hf1
                generalize P (Bn.shf a x) (Bn.shf a y) = z at *
                generalize Bn.shf a x = sx at *
                generalize Bn.shf a y = sy at *
                go_wp2
                go_region
                go_wp2
                exact ⟨⟨y + 1, by omega, by first | rfl | go_num, Lib.hid (HN2.out.step ((Below.refl _ _).drew)), Lib.hid HG2.out.drew, Lib.hid HB2.out.drew⟩, by simp [intOf]; omega⟩
              · obtain rfl : y = j := by omega
                have HG2 := Lib.hid (HGx.out.congr (m' := Bn.fil (fun x y => P (Bn.shf a x) (Bn.shf a y)) Bn.fre (x + 1) 0) (fun b c _ hc => by rw [hMj]; exact Bn.fil_rowN (by omega)))
                clear HGx
                go_wp2
                exact ⟨⟨x + 1, by omega, by first | rfl | go_num, HNx, HG2, HBx⟩, by simp [intOf]; omega⟩
          · have hxj : x = j := by omega
            subst x
            have HG2 := HGx.out.congr (m' := fun x y => P (Bn.shf a x) (Bn.shf a y)) (fun b c hb _ => by rw [hMj]; exact Bn.fil_endN (by omega))
            have CK2 := Lib.hid ((CK wr w5.heap.size _ _ ⟨A2, cp2, f2, c2, rfl, hcp3, hcp4, HG2⟩).out)
            obtain ⟨n0, n1, n2, n3, n4⟩ := HNx.out
            have HR6 := Lib.hid (HR5.out.step HBx.out)
            have HB6 := Lib.hid (below_nxt HB5.out HBx.out)
            clear CK HG2 HGx HNx
            obtain ⟨q1, q2, q3, hq9⟩ : ∃ q1 q2 q3, Bn.bV M (fun x y => P (Bn.shf a x) (Bn.shf a y)) = (q1, q2, q3) := ⟨_, _, _, rfl⟩
            rw [hq9] at CK2
            have HQ9 := Lib.hid hq9
            clear hq9
            dsimp only at CK2
            go_wp2_with fail
            refine (CK2.out).mono ?_
            rintro e w9 ⟨v9, rfl, hV9, hb9⟩
            obtain ⟨ao4, cap4, rfl⟩ := hV9.form
            have HB9 := Lib.hid (below_nxt HB6.out hb9)
            have HR9 := Lib.hid (HR6.out.step hb9)
            have HF9 := Lib.hid hV9
            obtain ⟨r0, r1, r2, r3, r4⟩ := HR9.out
            clear hb9 hV9 CK2
            go_wp2
            obtain ⟨RW, BW, VW⟩ := fin_val HR9.out HB9.out HF9.out hqb5
            generalize ((w9.setCell ⟨w.heap.size + 1, 0, none⟩ (.int .i64 q1)).setCell ⟨w.heap.size + 1, 1, none⟩ (.slice ao4 q2.length cap4)) = W2 at *
            obtain ⟨-, t1, t2, -, -⟩ := RW
            exact bodyPost_ret (v := .tuple #[.agg #[.int .i64 q1, .slice ao4 q2.length cap4], .int .i64 q3]) (by simp [results, Try.results41, go_sem, t1, t2]) rfl (show RetB (Bn.bV M (fun x y => P (Bn.shf a x) (Bn.shf a y))) w _ W2 by rw [HQ9.out]; exact ⟨_, rfl, VW, BW⟩)
  · have hv : Bn.shiV n R i = (0, [], Bn.cwE n R 1 [i]) := if_neg h1
    rw [hv]
    clear hv
    go_enter Try.func41, Try.ntmps41
    go_wp2_with fail
    rw [← hX]
    clear x0 x1 x2
    refine ((CT X (HS.out.step HLX.out)).out).mono ?_
    rintro e w1 ⟨rfl, hb1⟩
    have HB1 := Lib.hid (below_nxt HLX.out hb1)
    have HR1 := Lib.hid (HRX.out.step hb1)
    obtain ⟨r0, r1, r2, r3, r4⟩ := HR1.out
    clear hb1
    go_wp2
    obtain ⟨RW, BW, VW⟩ := fin_nil HR1.out HB1.out
    generalize ((w1.setCell ⟨w.heap.size + 1, 0, none⟩ (.int .i64 0)).setCell ⟨w.heap.size + 1, 1, none⟩ (.slice none 0 0)) = W2 at *
    obtain ⟨-, t1, t2, -, -⟩ := RW
    exact bodyPost_ret (v := .tuple #[.agg #[.int .i64 0, .slice none 0 0], .int .i64 (Bn.cwE n R 1 [i])]) (by simp [results, Try.results41, go_sem, t1, t2]) rfl ⟨_, rfl, VW, BW⟩
end Go.Proofs.Ytcdidncffdfnnaa
