/- Leq of the reference. -/
import Derived.Test.YtcdidncffdfnnaaBMa
namespace Go.Proofs.Ytcdidncffdfnnaa
open Go.RowKit
set_option maxHeartbeats 8000000 in
set_option maxRecDepth 100000 in
theorem rLeq_any (n m : Int) (v u : Value) (R S : List (List Int)) (w : World) (hs : SeesR w v R) (hu : SeesR w u S) :
    Calls Try.prog 30 #[.agg #[.int .i64 n, v], .agg #[.int .i64 m, u]] w fun e w' => e = .returned (.tuple #[.bool (Bn.leqV n R m S).1, .int .i64 (Bn.leqV n R m S).2]) ∧ Below w.heap.size w w' := by
  have CB := fun W (h : SeesR W v R) (h2 : SeesR W u S) => Lib.hid (rBoth_any n m v u R S W h h2)
  have HS := Lib.hid hs
  have HU := Lib.hid hu
  obtain ⟨ao, cap, rfl, hcap1, hcap2, -⟩ := hs
  obtain ⟨bo, cbp, rfl, hcbp1, hcbp2, -⟩ := hu
  obtain ⟨X, hX, hBX, hEX, hLX⟩ := pro22 w n m (.slice ao R.length cap) (.slice bo S.length cbp)
  have HEX := Lib.hid hEX
  have HBX := Lib.hid hBX
  have HLX := Lib.hid hLX
  obtain ⟨x0, x1, x2⟩ := hBX
  obtain ⟨y0, y1, y2⟩ := hEX
  rw [hX] at x0 x1 x2 y0 y1 y2
  clear hLX
  by_cases h1 : Bn.twE n R m S = 0
  · obtain ⟨h2, h3, rfl⟩ := Bn.twE_ok h1
    obtain ⟨N, rfl, hN, hSh, hR⟩ := Bn.chk_ok h2
    obtain ⟨N', hNe, -, hSh2, -⟩ := Bn.chk_ok h3
    obtain rfl : N = N' := by omega
    have hv : Bn.leqV N R N S = (if Bn.ok N (Bn.mx R) then Bn.leqB N (Bn.cl N R) S else true, 0) := by unfold Bn.leqV; rw [if_pos h1, Int.toNat_natCast]
    have CPo := fun W (h : SeesR W (.slice ao R.length cap) R) => Lib.hid (rPoss_any N _ R W hSh hR h)
    rw [h1] at CB
    cases hok : Bn.ok N (Bn.mx R) <;> rw [hok] at CPo hv
    · rw [hv]
      simp only [Bool.false_eq_true, if_false]
      clear hv h1 h2 h3 hNe hSh hR hSh2 hok
      go_enter Try.func30, Try.ntmps30
      go_wp2_with fail
      rw [← hX]
      clear x0 x1 x2 y0 y1 y2
      refine ((CB X (HS.out.step HLX.out) (HU.out.step HLX.out)).out).mono ?_
      rintro e w1 ⟨rfl, hb1⟩
      have HB1 := Lib.hid (below_nxt HLX.out hb1)
      obtain ⟨x0, x1, x2⟩ := HBX.out.step hb1
      clear hb1
      go_wp2_with fail
      clear x0 x1 x2
      refine ((CPo w1 (HS.out.step HB1.out)).out).mono ?_
      rintro e w2 ⟨rfl, hb2⟩
      have HB2 := Lib.hid (below_nxt HB1.out hb2)
      clear hb2
      go_wp2
      exact bodyPost_ret (v := .tuple #[.bool true, .int .i64 0]) (by simp [results, Try.results30, go_sem]) rfl ⟨rfl, HB2.out⟩
    · have CP := fun W (h : SeesR W (.slice ao R.length cap) R) => Lib.hid (rPaths_any N _ R W hSh hR h)
      have hcl := fun i j (hi : i ≤ N) (hj : j ≤ N) => Bn.pr_cl hR hok hi hj
      have HNo := Lib.hid (fun i j (hi : i ≤ N) (hj : j ≤ N) (h : Bn.less (Bn.mx S i j) (Bn.pr N (Bn.mx R) (N + 1) i j) = true) => show Bn.leqV N R N S = (false, 0) by
        rw [hv, if_pos rfl]
        have : Bn.leqB N (Bn.cl N R) S = false := by
          cases g : Bn.leqB N (Bn.cl N R) S with
          | false => rfl
          | true => have := Bn.leqB_iff.1 g i j hi hj; rw [← hcl i j hi hj, h] at this; cases this
        rw [this])
      have HYes := Lib.hid (fun (h : ∀ i j, i ≤ N → j ≤ N → Bn.less (Bn.mx S i j) (Bn.pr N (Bn.mx R) (N + 1) i j) = false) => show Bn.leqV N R N S = (true, 0) by
        rw [hv, if_pos rfl, Bn.leqB_iff.2 (fun i j hi hj => by rw [← hcl i j hi hj]; exact h i j hi hj)])
      have HSh := Lib.hid hSh
      have HSh2 := Lib.hid hSh2
      clear hv h1 h2 h3 hNe hSh hR hSh2 hok hcl
      generalize Bn.pr N (Bn.mx R) (N + 1) = P at *
      generalize Bn.leqV N R N S = q at *
      go_enter Try.func30, Try.ntmps30
      go_wp2_with fail
      rw [← hX]
      clear x0 x1 x2 y0 y1 y2
      refine ((CB X (HS.out.step HLX.out) (HU.out.step HLX.out)).out).mono ?_
      rintro e w1 ⟨rfl, hb1⟩
      have HB1 := Lib.hid (below_nxt HLX.out hb1)
      have HX1 := Lib.hid (HBX.out.step hb1)
      have HE1 := Lib.hid (HEX.out.step hb1)
      obtain ⟨x0, x1, x2⟩ := HX1.out
      clear hb1 HBX HEX CB
      go_wp2_with fail
      clear x0 x1 x2
      refine ((CPo w1 (HS.out.step HB1.out)).out).mono ?_
      rintro e w2 ⟨rfl, hb2⟩
      have HB2 := Lib.hid (below_nxt HB1.out hb2)
      have HX2 := Lib.hid (HX1.out.step hb2)
      have HE2 := Lib.hid (HE1.out.step hb2)
      obtain ⟨x0, x1, x2⟩ := HX2.out
      clear hb2 CPo HX1 HE1
      go_wp2_with fail
      clear x0 x1 x2
      refine ((CP w2 (HS.out.step HB2.out)).out).mono ?_
      rintro e w3 ⟨v3, rfl, ⟨A, cp, f, c, rfl, hcp1, hcp2, hG⟩, hb3⟩
      have L4 : Below w3.heap.size w3 (w3.alloc (.cells #[.int .i64 (N : Int), .slice (some ⟨A, 0, none⟩) (N + 1) cp] 24)) := (Below.refl _ _).alloc (Nat.le_refl _) _
      have HO4 := Lib.hid (resI_new w3 (N : Int) (.slice (some ⟨A, 0, none⟩) (N + 1) cp) 24)
      have HX4 := Lib.hid ((HX2.out.step hb3).step L4)
      have HE4 := Lib.hid ((HE2.out.step hb3).step L4)
      have HB4 := Lib.hid (below_nxt (below_nxt HB2.out hb3) L4)
      have HG4 := Lib.hid (hG.step L4)
      clear hb3 hG L4 HX2 HE2 CP
      go_wp2
      generalize w3.alloc (.cells #[.int .i64 (N : Int), .slice (some ⟨A, 0, none⟩) (N + 1) cp] 24) = X4 at *
      generalize w3.heap.size = nb at *
      go_loopw [8] (fun s8 wr => ∃ i : Nat, i ≤ N + 1 ∧ s8 = .int .i64 (i : Int) ∧ Hid (Below X4.heap.size X4 wr) ∧ Hid (∀ a b, a < i → b ≤ N → Bn.less (Bn.mx S a b) (P a b) = false)) (fun s8 _ => N + 1 - (intOf s8).toNat)
      case atStart => exact ⟨0, Nat.zero_le _, rfl, Lib.hid (Below.refl _ _), Lib.hid (fun a b h => by omega)⟩
      case round =>
        obtain ⟨i, hi, rfl, HBW, HJ⟩ := hrel
        obtain ⟨b0, b1, b2⟩ := HX4.out.step HBW.out
        by_cases hil : i < N + 1
        · have hqi : (i : Int) ≤ (N : Int) := by omega
          obtain ⟨wo, rfl⟩ : ∃ wo, wo = wr := ⟨_, rfl⟩
          go_wp2
          go_loopw [9] (fun s9 wr => ∃ j : Nat, j ≤ N + 1 ∧ s9 = .int .i64 (j : Int) ∧ Hid (Below X4.heap.size X4 wr) ∧ Hid (∀ b, b < j → Bn.less (Bn.mx S i b) (P i b) = false)) (fun s9 _ => N + 1 - (intOf s9).toNat)
          case atStart => exact ⟨0, Nat.zero_le _, rfl, HBW, Lib.hid (fun b h => by omega)⟩
          case round =>
            clear HBW b0 b1 b2
            obtain ⟨j, hj, rfl, HBW, HK⟩ := hrel
            obtain ⟨b0, b1, b2⟩ := HX4.out.step HBW.out
            by_cases hjl : j < N + 1
            · have hqj : (j : Int) ≤ (N : Int) := by omega
              obtain ⟨e0, e1, e2⟩ := HE4.out.step HBW.out
              obtain ⟨o0, o1, o2, o3, o4⟩ := HO4.out.step HBW.out
              obtain ⟨g1, g2, g3⟩ := (HG4.out.step HBW.out).at hil hjl
              obtain ⟨cb, coff, ccp, cd, co2, ccr, hce, hcb, c1, hcd, c2⟩ := HU.out.get (below_nxt HB4.out HBW.out) (i := i) (j := j) (by rw [HSh2.out.1]; exact hil) (by rw [HSh2.out.2 i (by omega)]; exact hjl)
              simp only [Value.slice.injEq] at hce
              obtain ⟨rfl, -, rfl⟩ := hce
              rw [HSh2.out.2 i (by omega)] at c1
              have zS : i < S.length := by rw [HSh2.out.1]; exact hil
              have CL := fun W => Lib.hid (rLess_any (Bn.mx S i j) (P i j) W)
              have HN := Lib.hid (HNo.out i j (by omega) (by omega))
              have HK2 := Lib.hid (fun (h : Bn.less (Bn.mx S i j) (P i j) = false) b (hb : b < j + 1) => show Bn.less (Bn.mx S i b) (P i b) = false by
                by_cases e : b = j
                · rw [e]; exact h
                · exact HK.out b (by omega))
              clear HNo HYes HK
              generalize Bn.less (Bn.mx S i j) (P i j) = bb at *
              generalize Bn.mx S i j = y2 at *
              generalize P i j = y1 at *
              go_wp2
              cases bb
              · have HK3 := Lib.hid (HK2.out rfl)
                go_quiet (first | (go_at_call 76; exact Calls.quiet_of_same ((CL _).out)))
                go_wp2
                exact ⟨⟨j + 1, by omega, by first | rfl | go_num, Lib.hid (HBW.out.trans (below_drewN _ _)), HK3⟩, by simp [intOf]; omega⟩
              · have hq := HN.out rfl
                clear HN HK2
                subst hq
                go_quiet (first | (go_at_call 76; exact Calls.quiet_of_same ((CL _).out)))
                go_wp2
                exact bodyPost_ret (v := .tuple #[.bool false, .int .i64 0]) (by simp [results, Try.results30, go_sem]) rfl ⟨rfl, (below_nxt HB4.out HBW.out).trans (below_drewN _ _)⟩
            · have hjj : j = N + 1 := by omega
              subst j
              rw [show ((N + 1 : Nat) : Int) = (N : Int) + 1 from rfl]
              have HJ2 : Hid (∀ a b, a < i + 1 → b ≤ N → Bn.less (Bn.mx S a b) (P a b) = false) := Lib.hid (fun a b ha hb => by
                by_cases e : a = i
                · rw [e]; exact HK.out b (by omega)
                · exact HJ.out a b (by omega) hb)
              clear HJ HK
              go_wp2
              exact ⟨⟨i + 1, by omega, by first | rfl | go_num, HBW, HJ2⟩, by simp [intOf]; omega⟩
        · have hii : i = N + 1 := by omega
          subst i
          rw [show ((N + 1 : Nat) : Int) = (N : Int) + 1 from rfl]
          have hq := HYes.out (fun a b ha hb => HJ.out a b (by omega) hb)
          clear HYes HNo HJ
          subst hq
          go_wp2
          exact bodyPost_ret (v := .tuple #[.bool true, .int .i64 0]) (by simp [results, Try.results30, go_sem]) rfl ⟨rfl, below_nxt HB4.out HBW.out⟩
  · have hv : Bn.leqV n R m S = (false, Bn.twE n R m S) := if_neg h1
    rw [hv]
    clear hv
    go_enter Try.func30, Try.ntmps30
    go_wp2_with fail
    rw [← hX]
    clear x0 x1 x2 y0 y1 y2
    refine ((CB X (HS.out.step HLX.out) (HU.out.step HLX.out)).out).mono ?_
    rintro e w1 ⟨rfl, hb1⟩
    have HB1 := Lib.hid (below_nxt HLX.out hb1)
    clear hb1
    go_wp2
    exact bodyPost_ret (v := .tuple #[.bool false, .int .i64 (Bn.twE n R m S)]) (by simp [results, Try.results30, go_sem]) rfl ⟨rfl, HB1.out⟩
end Go.Proofs.Ytcdidncffdfnnaa
