/- Shift of package bounds. -/
import Derived.Test.YtkemicfaiipidaaBC
namespace Go.Proofs.Ytkemicfaiipidaa
open Go.RowKit
set_option maxHeartbeats 4000000 in
set_option maxRecDepth 100000 in
theorem bShift_any (n i : Int) (v : Value) (R : List (List Int)) (w : World) (hs : SeesR w v R) :
    Calls Try.prog 27 #[.agg #[.int .i64 n, v], .int .i64 i] w (RetB (Bn.shiV n R i) w) := by
  obtain ⟨i0, hi0, hz0, hz1, hz2⟩ := info_int
  have HS := Lib.hid hs
  obtain ⟨ao, cap, rfl, hcap1, hcap2, -⟩ := hs
  obtain ⟨X, hX, hBX, hRX, hLX, hZX⟩ := pro2 w n (.slice ao R.length cap)
  have LA : Below X.heap.size X (X.alloc (.cells #[.int .i64 i] 3)) := (Below.refl _ _).alloc (Nat.le_refl _) _
  have hSI := SeeI.one X i 3
  have HRX := Lib.hid (hRX.step LA)
  have HLX := Lib.hid (below_nxt hLX LA)
  have CW := Lib.hid (bCW_any n 1 _ _ R [i] _ (HS.out.step HLX.out) hSI)
  obtain ⟨x0, x1, x2⟩ := hBX
  rw [hX] at x0 x1 x2
  have hsz : ((w.alloc (.cells #[.int .i64 n, .slice ao R.length cap] 24)).alloc (.cells #[.int .i64 0, .slice none 0 0] 24)).heap.size = X.heap.size := by rw [hX]
  clear hRX hLX LA hSI
  by_cases h1 : Bn.cwE n R 1 [i] = 0
  · obtain ⟨h2, h3⟩ := Bn.cwE_ok h1
    obtain ⟨h4, h5⟩ := Bn.cix_chk h2
    have h6 : Bn.idx 1 n i = true := by simpa using h5
    obtain ⟨h7, h8⟩ := Bn.idx_iff.1 h6
    obtain ⟨N, rfl, hN, hSh, hR⟩ := Bn.chk_ok h4
    obtain ⟨a, rfl⟩ := Int.eq_ofNat_of_zero_le (show 0 ≤ i by omega)
    have ha1 : 1 ≤ a := by omega
    have haN : a ≤ N := by omega
    have hv : Bn.shiV N R a = Bn.bV (N - 1) (Bn.shM N R a) := by unfold Bn.shiV; rw [if_pos h1]; simp
    rw [hv]
    have CP := fun W g u v (hU : MtxI W g N u) (hu : ∀ i j, i ≤ N → j ≤ N → u i j = Bn.cl N R i j) (hl : SeesI W v (Bn.shL a N)) => Lib.hid (show Calls Try.prog 62 #[.pointer (some ⟨g, 0, none⟩), v] W fun e w' => ∃ p q, e = .returned (.pointer (some ⟨p, 0, none⟩)) ∧ W.heap.size ≤ p ∧ MtxI w' p ((N - 1 : Nat) : Int) q ∧ (∀ x y, x ≤ N - 1 → y ≤ N - 1 → q x y = Bn.shM N R a x y) ∧ Below W.heap.size W w' by
      have hn : Bn.shN a N = N - 1 + 1 := by unfold Bn.shN; rw [if_neg (by omega)]; omega
      refine (bPick_any g (N - 1) N u (Bn.shf a) (Bn.shL a N) v W (by omega) hU hl (by rw [Bn.shL_len, hn]) (fun x hx => Bn.shL_at (by omega)) (fun x hx => by have := Bn.shf_le haN hx ha1; omega)).mono ?_
      rintro e w1 ⟨p, q, rfl, g1, g2, g3, g4⟩
      exact ⟨p, q, rfl, g1, g2, fun x y hx hy => by rw [g3 x y hx hy]; exact hu _ _ (Bn.shf_le haN hx ha1) (Bn.shf_le haN hy ha1), g4⟩)
    have CBo := fun W g u (h : MtxI W g ((N - 1 : Nat) : Int) u) (hu : ∀ i j, i ≤ N - 1 → j ≤ N - 1 → u i j = Bn.shM N R a i j) => Lib.hid (show Calls Try.prog 34 #[.pointer (some ⟨g, 0, none⟩)] W fun e w' => ∃ v, e = .returned (.tuple #[v, .int .i64 (Bn.bV (N - 1) (Bn.shM N R a)).2.2]) ∧ ValF W.heap.size w' v (Bn.bV (N - 1) (Bn.shM N R a)).1 (Bn.bV (N - 1) (Bn.shM N R a)).2.1 ∧ Below W.heap.size W w' by
      have := bBnds_any (N - 1) g u W (by omega) h
      rw [Bn.bV_congr hu] at this
      exact this)
    clear hv h2 h3 h4 h5 h6 hSh hR
    go_enter Try.func27, Try.ntmps27
    go_wp2_with fail
    rw [← hX]
    try rw [hsz]
    refine (CW.out).mono ?_
    rintro e w1 ⟨p, rfl, -, hp, hb1⟩
    obtain ⟨g, u, rfl, hg1, hM, hu⟩ := hp h1
    rw [h1]
    have HB1 := Lib.hid (below_nxt HLX.out hb1)
    have HR1 := Lib.hid (HRX.out.step hb1)
    have HM := Lib.hid hM
    have HU := Lib.hid (fun x y (hx : x ≤ N) (hy : y ≤ N) => hu x y (by simpa using hx) (by simpa using hy))
    have HL1 : Hid (RowI w1.heap.size 3 (w1.alloc (.cells #[.int .i64 (a : Int)] 3)) (.slice (some ⟨w1.heap.size, 0, none⟩) 1 1) (Bn.shL a 0)) := Lib.hid (by rw [Bn.shL_zero ha1]; exact RowI.one _ _ _ (Nat.le_refl _) _)
    have HBW : Hid (Below w1.heap.size w1 (w1.alloc (.cells #[.int .i64 (a : Int)] 3))) := Lib.hid ((Below.refl _ _).alloc (Nat.le_refl _) _)
    have hs0 : Bn.shN a 0 = 1 := by unfold Bn.shN; rw [if_pos (by omega)]
    clear hb1 hM hu hp CW HRX HLX
    go_wp2
    clear x0 x1 x2 hsz hX
    go_loopw [8, 9] (fun s8 s9 wr => ∃ j : Nat, j ≤ N ∧ s9 = .int .i64 ((j : Int) + 1) ∧ Hid (RowI w1.heap.size 3 wr s8 (Bn.shL a j)) ∧ Hid (Below w1.heap.size w1 wr)) (fun _ s9 _ => N + 1 - (intOf s9).toNat)
    case atStart => exact ⟨0, Nat.zero_le _, by simp, HL1, HBW⟩
    case round =>
      clear HL1 HBW
      obtain ⟨j, hj, rfl, HL, HBW⟩ := hrel
      obtain ⟨ra, rc, hrv⟩ := HL.out.form
      rw [Bn.shL_len] at hrv
      subst hrv
      have hM := HM.out.step HBW.out
      have m0 := hM.1
      have m1 := hM.2.1
      have HMr := Lib.hid hM
      clear hM
      have hzw := HBW.out.size
      by_cases hjl : j < N
      · have hq : (j : Int) + 1 ≤ (N : Int) := by omega
        by_cases hja : j + 1 = a
        · have HL2 : Hid (RowI w1.heap.size 3 wr (.slice ra (Bn.shN a j) rc) (Bn.shL a (j + 1))) := Lib.hid (by rw [Bn.shL_same hja]; exact HL.out)
          have hji : (a : Int) = (j : Int) + 1 := by omega
          rw [hji]
          go_wp2
          exact ⟨⟨j + 1, by omega, by first | rfl | go_num, HL2, HBW⟩, by simp [intOf]; omega⟩
        · have HS2 := Lib.hid (Bn.shL_more ha1 hja)
          have hji : ¬ ((j : Int) + 1 = (a : Int)) := by omega
          have HLL := Lib.hid (Bn.shL_len a j)
          have hnj : Bn.shN a j ≤ j + 1 := by unfold Bn.shN; split <;> omega
          have HLen : Hid ((Bn.shL a j).length + [((j : Int) + 1)].length ≤ 1048576) := Lib.hid (by rw [HLL.out]; simp; omega)
          have HWT := Lib.hid (fun (o : Obj) => (HL.out.step ((Below.refl _ _).alloc (Nat.le_refl _) o)))
          have HN1 := Lib.hid (SeesI.one wr ((j : Int) + 1) 3)
          clear HL
          generalize Bn.shL a j = l at *
          go_wp2_with (at_builtin; refine wpList_append_int rfl _ _ 42 rfl 3 i0 Try.underlying42 hi0 hz0 hz1 hz2 _ _ l [((j : Int) + 1)] rfl rfl w1.heap.size (HWT.out _) HN1.out HLen.out (by simp; omega) ?_; intro a5 p5 w5 hr5 hg5 ho5; have hb5 := RowI.belowOwn (C := w1.heap.size) (HWT.out _) hg5 (by simp; omega) (Nat.le_refl _); have HR5 := Lib.hid hr5; have HB5 := Lib.hid ((HBW.out.alloc hzw _).trans hb5); clear hr5 hg5 ho5 hb5)
          exact ⟨⟨j + 1, by omega, by first | rfl | go_num, by rw [HS2.out]; exact HR5, HB5⟩, by simp [intOf]; omega⟩
      · obtain rfl : j = N := by omega
        have HSe := Lib.hid HL.out.sees
        have HB2 := Lib.hid (HB1.out.trans (HBW.out.mono HB1.out.size))
        have HR2 := Lib.hid (HR1.out.step HBW.out)
        have hgw := HR1.out.1
        have hgr : w.heap.size + 1 < wr.heap.size := by omega
        clear HL HR1 HB1 HBW
        go_wp2_with fail
        refine ((CP wr g u _ HMr.out HU.out HSe.out).out).mono ?_
        rintro e w2 ⟨p, q, rfl, hp1, hp2, hp3, hp4⟩
        have HB3 := Lib.hid (below_nxt HB2.out hp4)
        have HR3 := Lib.hid (HR2.out.step hp4)
        have HP2 := Lib.hid hp2
        have HP3 := Lib.hid hp3
        clear hp2 hp3 hp4
        go_wp2_with fail
        refine ((CBo w2 p q HP2.out HP3.out).out).mono ?_
        rintro e w4 ⟨v4, rfl, hV4, hb4⟩
        obtain ⟨ao4, cap4, rfl⟩ := hV4.form
        have HB4 := Lib.hid (below_nxt HB3.out hb4)
        have HR4 := Lib.hid (HR3.out.step hb4)
        have hz3 := HR3.out.1
        have HF4 := Lib.hid hV4
        obtain ⟨k0, k1, k2, k3, k4⟩ := HR4.out
        clear hb4 hV4 CP CBo
        generalize Bn.bV (j - 1) (Bn.shM j R a) = q9 at *
        obtain ⟨q1, q2, q3⟩ := q9
        dsimp only at *
        go_wp2
        obtain ⟨RW, BW, VW⟩ := fin_val HR4.out HB4.out HF4.out hz3
        generalize ((w4.setCell ⟨w.heap.size + 1, 0, none⟩ (.int .i64 q1)).setCell ⟨w.heap.size + 1, 1, none⟩ (.slice ao4 q2.length cap4)) = W2 at *
        obtain ⟨-, t1, t2, -, -⟩ := RW
        exact bodyPost_ret (v := .tuple #[.agg #[.int .i64 q1, .slice ao4 q2.length cap4], .int .i64 q3]) (by simp [results, Try.results27, go_sem, t1, t2]) rfl ⟨_, rfl, VW, BW⟩
  · have hv : Bn.shiV n R i = (0, [], Bn.cwE n R 1 [i]) := if_neg h1
    rw [hv]
    clear hv
    go_enter Try.func27, Try.ntmps27
    go_wp2_with fail
    rw [← hX]
    try rw [hsz]
    refine (CW.out).mono ?_
    rintro e w1 ⟨p, rfl, hp, -, hb1⟩
    obtain rfl := hp h1
    have HB1 := Lib.hid (below_nxt HLX.out hb1)
    have HR1 := Lib.hid (HRX.out.step hb1)
    obtain ⟨r0, r1, r2, r3, r4⟩ := HR1.out
    clear hb1 HRX HLX hp
    go_wp2
    obtain ⟨RW, BW, VW⟩ := fin_nil HR1.out HB1.out
    generalize ((w1.setCell ⟨w.heap.size + 1, 0, none⟩ (.int .i64 0)).setCell ⟨w.heap.size + 1, 1, none⟩ (.slice none 0 0)) = W2 at *
    obtain ⟨-, t1, t2, -, -⟩ := RW
    exact bodyPost_ret (v := .tuple #[.agg #[.int .i64 0, .slice none 0 0], .int .i64 (Bn.cwE n R 1 [i])]) (by simp [results, Try.results27, go_sem, t1, t2]) rfl ⟨_, rfl, VW, BW⟩
end Go.Proofs.Ytkemicfaiipidaa

