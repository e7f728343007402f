/- Forget of the reference. -/
import Derived.Test.YtcdidncffdfnnaaBV
import Derived.BigRegion
namespace Go.Proofs.Ytcdidncffdfnnaa
open Go.RowKit
set_option maxHeartbeats 8000000 in
set_option maxRecDepth 100000 in
theorem rFgt_any (n i : Int) (v : Value) (R : List (List Int)) (w : World) (hs : SeesR w v R) :
    Calls Try.prog 39 #[.agg #[.int .i64 n, v], .int .i64 i] w (RetB (Bn.forV n R i) w) := by
  have CT := fun W (h : SeesR W v R) => Lib.hid (rTmd_any n i v R W h)
  have HS := Lib.hid hs
  obtain ⟨ao, cap, rfl, hcap1, hcap2, -⟩ := hs
  obtain ⟨X, hX, hBX, hRX, hLX, hZX⟩ := pro2 w n (.slice ao R.length cap)
  have HBX := Lib.hid hBX
  have HRX := Lib.hid hRX
  have HLX := Lib.hid hLX
  obtain ⟨x0, x1, x2⟩ := hBX
  rw [hX] at x0 x1 x2
  clear hRX hLX
  by_cases h1 : Bn.cwE n R 1 [i] = 0
  · obtain ⟨h2, h3⟩ := Bn.cwE_ok h1
    obtain ⟨h4, h5⟩ := Bn.cix_chk h2
    have h6 : Bn.idx 1 n i = true := by simpa using h5
    obtain ⟨h7, h8⟩ := Bn.idx_iff.1 h6
    obtain ⟨N, rfl, hN, hSh, hR⟩ := Bn.chk_ok h4
    obtain ⟨a, rfl⟩ := Int.eq_ofNat_of_zero_le (show 0 ≤ i by omega)
    have haN : a ≤ N := by omega
    have hok : Bn.ok N (Bn.mx R) = true := by simpa using h3
    have hv : Bn.forV N R a = Bn.bV N (Bn.fgF N a (Bn.pr N (Bn.mx R) (N + 1))) := by
      unfold Bn.forV
      rw [if_pos h1, Int.toNat_natCast, Int.toNat_natCast]
      exact Bn.bV_congr (Bn.fgF_congr fun i j hi hj => (Bn.pr_cl hR hok hi hj).symm)
    rw [hv]
    have CP := fun W (h : SeesR W (.slice ao R.length cap) R) => Lib.hid (rPaths_any N _ R W hSh hR h)
    have CK := fun W B u P (h : OwnB B W (.agg #[.int .i64 (N : Int), u]) N (Bn.fgS P a (N + 1))) => Lib.hid (show Calls Try.prog 78 #[.agg #[.int .i64 (N : Int), u]] W fun e w' => ∃ u, e = .returned (.tuple #[u, .int .i64 (Bn.bV N (Bn.fgF N a P)).2.2]) ∧ ValF B w' u (Bn.bV N (Bn.fgF N a P)).1 (Bn.bV N (Bn.fgF N a P)).2.1 ∧ Below W.heap.size W w' by
      obtain ⟨u2, hu, hs3⟩ := h.val
      obtain rfl : u = u2 := by simpa using hu
      have he : Bn.bV N (Bn.fgF N a P) = Bn.bV N (Bn.fgS P a (N + 1)) := Bn.bV_congr fun x y hx hy => (Bn.fgS_end hx hy).symm
      rw [he]
      exact (rCkd_any N u _ W hs3).mono fun e w' hp => hp.val h)
    rw [h1] at CT
    clear hv h2 h3 h4 h5 h6 hok h1 hSh hR
    generalize Bn.pr N (Bn.mx R) (N + 1) = P at *
    go_enter Try.func39, Try.ntmps39
    go_wp2_with fail
    rw [← hX]
    clear x0 x1 x2
    refine ((CT X (HS.out.step HLX.out)).out).mono ?_
    rintro e w1 ⟨rfl, hb1⟩
    have HB1 := Lib.hid (below_nxt HLX.out hb1)
    have HR1 := Lib.hid (HRX.out.step hb1)
    have HX1 := Lib.hid (HBX.out.step hb1)
    have hs1 := hb1.size
    obtain ⟨x0, x1, x2⟩ := HX1.out
    clear hb1 HRX HBX CT
    go_wp2_with fail
    clear x0 x1 x2
    refine ((CP w1 (HS.out.step HB1.out)).out).mono ?_
    rintro e w3 ⟨v3, rfl, ⟨A, cp, f, c, rfl, hcp1, hcp2, hG⟩, hb3⟩
    have HX3 := Lib.hid (HX1.out.step hb3)
    have HR3 := Lib.hid (HR1.out.step hb3)
    have HB3 := Lib.hid (below_nxt HB1.out hb3)
    have hA3 := hG.lt
    have hA1 : w1.heap.size ≤ A := hG.ge
    have HFB := Lib.hid (fun i hi => (⟨(hG.blk i hi).1, (hG.blk i hi).2.1⟩ : f i < w3.heap.size ∧ w1.heap.size ≤ f i))
    have L4 : Below w3.heap.size w3 (w3.alloc (.cells #[.int .i64 (N : Int), .slice (some ⟨A, 0, none⟩) (N + 1) cp] 24)) := (Below.refl _ _).alloc (Nat.le_refl _) _
    have HO4 := Lib.hid (resI_new w3 (N : Int) (.slice (some ⟨A, 0, none⟩) (N + 1) cp) 24)
    have HX4 := Lib.hid (HX3.out.step L4)
    have HR4 := Lib.hid (HR3.out.step L4)
    have HB4 := Lib.hid (below_nxt HB3.out L4)
    have HG4 := Lib.hid ((hG.step L4).congr (m' := Bn.fgS P a 0) (fun x y _ _ => (Bn.fgS_zero P a x y).symm))
    clear hb3 hG L4 HX3 HR3 HB3 HX1 HR1 HB1 HLX CP
    go_wp2
    generalize w3.alloc (.cells #[.int .i64 (N : Int), .slice (some ⟨A, 0, none⟩) (N + 1) cp] 24) = X4 at *
    generalize w3.heap.size = nb at *
    go_loopw [8] (fun s8 wr => ∃ k : Nat, k ≤ N + 1 ∧ s8 = .int .i64 (k : Int) ∧ BoxB wr w.heap.size N (.slice ao R.length cap) ∧ Hid (ResI wr nb N (.slice (some ⟨A, 0, none⟩) (N + 1) cp)) ∧ Hid (ResI wr (w.heap.size + 1) 0 (.slice none 0 0)) ∧ Hid (Grd w1.heap.size wr A (N + 1) (N + 1) f c (Bn.fgS P a k)) ∧ Hid (Below w.heap.size w wr)) (fun s8 _ => N + 1 - (intOf s8).toNat)
    case atStart => exact ⟨0, Nat.zero_le _, rfl, HX4.out, HO4, HR4, HG4, HB4⟩
    case round =>
      clear HX4 HO4 HR4 HG4 HB4
      obtain ⟨k, hk, rfl, hB, HO, HR, HG, HBW⟩ := hrel
      have HBx := Lib.hid hB
      obtain ⟨b0, b1, b2⟩ := hB
      by_cases hkl : k < N + 1
      · have hq : (k : Int) ≤ (N : Int) := by omega
        by_cases hka : k = a
        · subst hka
          have HG2 := Lib.hid (HG.out.congr (m' := Bn.fgS P k (k + 1)) (fun x y _ _ => Bn.fgS_same P k x y))
          go_wp2
          exact ⟨⟨k + 1, by omega, by first | rfl | go_num, HBx.out, HO, HR, HG2, HBW⟩, by simp [intOf]; omega⟩
        · have hka' : ¬ ((k : Int) = (a : Int)) := by omega
          have ha1 : a < N + 1 := by omega
          obtain ⟨o0, o1, o2, o3, o4⟩ := HO.out
          obtain ⟨c1, c2, c3⟩ := HG.out.at ha1 hkl
          obtain ⟨d1, d2, d3⟩ := HG.out.at hkl ha1
          have HG2 := Lib.hid (((HG.out.put ha1 hkl (-1099511627776)).put hkl ha1 (-1099511627776)).congr (m' := Bn.fgS P a (k + 1)) (fun x y _ _ => Bn.fgS_next hka x y))
          have hf1 := HFB.out a ha1
          have hf2 := HFB.out k hkl
          have g1 : wr.grownBy (wr.setCell ⟨f a, k, none⟩ (.int .i64 (-1099511627776))) (some (f a)) := grown_set (grown_refl _ _)
          have g2 : (wr.setCell ⟨f a, k, none⟩ (.int .i64 (-1099511627776))).grownBy ((wr.setCell ⟨f a, k, none⟩ (.int .i64 (-1099511627776))).setCell ⟨f k, a, none⟩ (.int .i64 (-1099511627776))) (some (f k)) := grown_set (grown_refl _ _)
          have HB2 := Lib.hid ((HBx.out.grown g1 (by omega)).grown g2 (by omega))
          have HO2 := Lib.hid ((HO.out.grown g1 (by omega)).grown g2 (by omega))
          have HR2 := Lib.hid ((HR.out.grown g1 (by omega)).grown g2 (by omega))
          have HW2 := Lib.hid ((HBW.out.setCell (p := ⟨f a, k, none⟩) (show w.heap.size ≤ f a by omega) (.int .i64 (-1099511627776))).setCell (p := ⟨f k, a, none⟩) (show w.heap.size ≤ f k by omega) (.int .i64 (-1099511627776)))
          clear g1 g2
          go_wp2
          go_region
          go_wp2
          exact ⟨⟨k + 1, by omega, by first | rfl | go_num, HB2.out.step ((Below.refl _ _).drew), Lib.hid (HO2.out.step ((Below.refl _ _).drew)), Lib.hid (HR2.out.step ((Below.refl _ _).drew)), Lib.hid HG2.out.drew, Lib.hid HW2.out.drew⟩, by simp [intOf]; omega⟩
      · obtain rfl : k = N + 1 := by omega
        rw [show ((N + 1 : Nat) : Int) = (N : Int) + 1 from rfl]
        have CK2 := Lib.hid ((CK wr w1.heap.size _ P ⟨A, cp, f, c, rfl, hcp1, hcp2, HG.out⟩).out)
        have hnbw := HR.out.1
        obtain ⟨o0, o1, o2, o3, o4⟩ := HO.out
        clear CK HO HG
        generalize Bn.bV N (Bn.fgF N a P) = q9 at *
        obtain ⟨q1, q2, q3⟩ := q9
        dsimp only at *
        go_wp2_with fail
        refine (CK2.out).mono ?_
        rintro e w5 ⟨v5, rfl, hV5, hb5⟩
        obtain ⟨ao4, cap4, rfl⟩ := hV5.form
        have HB5 := Lib.hid (below_nxt HBW.out hb5)
        have HR5 := Lib.hid (HR.out.step hb5)
        have HF5 := Lib.hid hV5
        obtain ⟨k0, k1, k2, k3, k4⟩ := HR5.out
        clear hb5 hV5 CK2
        go_wp2
        obtain ⟨RW, BW, VW⟩ := fin_val HR5.out HB5.out HF5.out (by omega)
        generalize ((w5.setCell ⟨w.heap.size + 1, 0, none⟩ (.int .i64 q1)).setCell ⟨w.heap.size + 1, 1, none⟩ (.slice ao4 q2.length cap4)) = W2 at *
        obtain ⟨-, t1, t2, -, -⟩ := RW
        exact bodyPost_ret (v := .tuple #[.agg #[.int .i64 q1, .slice ao4 q2.length cap4], .int .i64 q3]) (by simp [results, Try.results39, go_sem, t1, t2]) rfl ⟨_, rfl, VW, BW⟩
  · have hv : Bn.forV n R i = (0, [], Bn.cwE n R 1 [i]) := if_neg h1
    rw [hv]
    clear hv
    go_enter Try.func39, Try.ntmps39
    go_wp2_with fail
    rw [← hX]
    clear x0 x1 x2
    refine ((CT X (HS.out.step HLX.out)).out).mono ?_
    rintro e w1 ⟨rfl, hb1⟩
    have HB1 := Lib.hid (below_nxt HLX.out hb1)
    have HR1 := Lib.hid (HRX.out.step hb1)
    obtain ⟨r0, r1, r2, r3, r4⟩ := HR1.out
    clear hb1
    go_wp2
    obtain ⟨RW, BW, VW⟩ := fin_nil HR1.out HB1.out
    generalize ((w1.setCell ⟨w.heap.size + 1, 0, none⟩ (.int .i64 0)).setCell ⟨w.heap.size + 1, 1, none⟩ (.slice none 0 0)) = W2 at *
    obtain ⟨-, t1, t2, -, -⟩ := RW
    exact bodyPost_ret (v := .tuple #[.agg #[.int .i64 0, .slice none 0 0], .int .i64 (Bn.cwE n R 1 [i])]) (by simp [results, Try.results39, go_sem, t1, t2]) rfl ⟨_, rfl, VW, BW⟩
end Go.Proofs.Ytcdidncffdfnnaa
