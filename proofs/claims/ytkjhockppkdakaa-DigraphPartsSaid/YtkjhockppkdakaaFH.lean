/- Condense of the reference, of right graphs. -/
import Derived.Test.YtkjhockppkdakaaFG
import Derived.Test.YtkjhockppkdakaaDE
namespace Go.Proofs.Ytkjhockppkdakaa
open Go.RowKit Go.Shelf

theorem ArrI.other {W : World} {g k o : Nat} {ls : List Int} (h : ArrI W g ls) (hk : k ≠ g) (x : Value) : ArrI (W.setCell ⟨k, o, none⟩ x) g ls :=
  ⟨by simpa [World.setCell] using h.1, fun i hi => ⟨by rw [World.cell?_setCell_far _ _ _ _ hk]; exact (h.2 i hi).1, by rw [World.frozen?_setCell]; exact (h.2 i hi).2⟩⟩

set_option maxHeartbeats 4000000 in
set_option maxRecDepth 100000 in
theorem rCond_ok (m : Nat) (es : List (Nat × Nat)) (v : Value) (w : World) (hE : Dg.Ok m es) (hm : m ≤ 256) (hl : es.length ≤ 4096) (hv : SeesE w v (Dg.cst es)) :
    Calls Try.prog 34 #[.agg #[.int .i64 m, v]] w fun e w' => ∃ u t, e = .returned (.tuple #[.agg #[.int .i64 (Dg.cnt (Dg.isL m es) m : Nat), u], t, .int .i64 0]) ∧ SeesE w' u (Dg.cst (Dg.ces m es)) ∧ SeesI w' t (Dg.ci (Dg.nums m es m)) ∧ Below w.heap.size w w' := by
  obtain ⟨i0, hi0, hz0, hz1, hz2⟩ := info_edge
  have CK := fun W h => Lib.hid (rChk_any m v (Dg.cst es) W h)
  rw [Dg.ok_chk hm hl hE] at CK
  have CP := fun W h => Lib.hid (rParts_ok m es v W hE hm hl h)
  have hmk := run_make_row' (P := Try.prog) 27 3 (.int .i64 0) 8 Try.underlying27 (by kernel_rfl) rfl .i64 .i64 m (by omega) (by omega)
  have BX := fun (W : World) (o : Obj) => (Below.refl W.heap.size W).alloc (Nat.le_refl _) o
  have HV := Lib.hid hv
  have hCE0 : ∃ ao cap, v = .slice ao (Dg.cst es).length cap ∧ CellsE w ao (Dg.cst es) := by
    obtain ⟨ao', cap', h1, _, _, h4⟩ := hv
    exact ⟨ao', cap', h1, h4⟩
  obtain ⟨ao, cap, rfl, hCE⟩ := hCE0
  rw [Dg.cst_len] at *
  obtain ⟨P0, L0, z0⟩ := gph_new w m (.slice ao es.length cap) 24
  have R0 := gphW_new (w.alloc (.cells #[.int .i64 m, .slice ao es.length cap] 24)) 0 (.slice none 0 0) 24
  rw [z0] at R0
  have P1 := P0.step (BX _ (.cells #[.int .i64 0, .slice none 0 0] 24))
  have L1 := below_nxt L0 (BX _ (.cells #[.int .i64 0, .slice none 0 0] 24))
  generalize hX : (w.alloc (.cells #[.int .i64 m, .slice ao es.length cap] 24)).alloc (.cells #[.int .i64 0, .slice none 0 0] 24) = X at *
  obtain ⟨-, p1, p2⟩ := id P1
  have HL := Lib.hid L1
  have HR0 := Lib.hid R0
  have HE := Lib.hid hE
  have HPN := Lib.hid (Dg.pL_len m es m)
  have HPL := Lib.hid (fun i j (hi : i < Dg.cnt (Dg.isL m es) m) hj => Dg.pL_at hE hi (j := j) hj)
  have HFA := Lib.hid (fun L (h : Dg.Fil m es (Dg.cnt (Dg.isL m es) m) 0 L) => h.all hE)
  have HCS := Lib.hid (Dg.prs_ces hE)
  have HNM := Lib.hid (fun x (hx : x < m) => Dg.nums_at m es hx)
  have hMm := Dg.cnt_le_n (Dg.isL m es) m
  have hOK := Lib.hid (fun (i : Nat) (hi : i < es.length) => hE _ (Dg.getD_mem (d := (0, 0)) hi))
  have HPZ := Lib.hid (Dg.prs_zero (Dg.cnt (Dg.isL m es) m) (fun p => decide (p ∈ Dg.cE m es)))
  have HPS := Lib.hid (fun a b => Dg.prs_succ (Dg.cnt (Dg.isL m es) m) (fun p => decide (p ∈ Dg.cE m es)) a b)
  have HPX := Lib.hid (fun a => Dg.prs_next (Dg.cnt (Dg.isL m es) m) (fun p => decide (p ∈ Dg.cE m es)) a)
  have HPB := Lib.hid (fun a b (hb : b ≤ Dg.cnt (Dg.isL m es) m) => Dg.prs_len (Dg.cnt (Dg.isL m es) m) (fun p => decide (p ∈ Dg.cE m es)) a b hb)
  generalize hMe : Dg.cnt (Dg.isL m es) m = M at *
  generalize Dg.ces m es = Ce at *
  clear hv L0 z0 L1 P0 R0 hE hMe
  go_enter Try.func34, Try.ntmps34
  go_wp2_with fail
  refine ((CK _ (HV.out.step HL.out)).out).mono ?_
  rintro e w1 ⟨rfl, hb⟩
  have HB1 := Lib.hid (below_nxt HL.out hb)
  have P2 := P1.step hb
  have HR1 := Lib.hid (HR0.out.step hb)
  obtain ⟨-, q1, q2⟩ := id P2
  clear hb p1 p2 P1 hX HR0 CK
  go_wp2_with fail
  refine ((CP _ (HV.out.step HB1.out)).out).mono ?_
  rintro e w2 ⟨up, rfl, hs, hb⟩
  have HB2 := Lib.hid (below_nxt HB1.out hb)
  have P3 := P2.step hb
  have HR2 := Lib.hid (HR1.out.step hb)
  obtain ⟨hp0, r1, r2⟩ := id P3
  have HP3 := Lib.hid P3
  obtain ⟨ax, cx, rfl, hcx1, hcx2, hXL⟩ := hs.opened
  simp only [HPN.out] at hcx1 ⊢
  have HA0 := Lib.hid (ArrI.new w2 m 3)
  have HB3 := Lib.hid (BX w2 (.cells (madeCells #[.int .i64 0] m) 3))
  have hC2 := hCE.step (HB2.out.mono (Nat.le_refl _))
  have hsz : w.heap.size + 1 < w2.heap.size := HR2.out.1
  clear hb hs q1 q2 P2 P3 CP HR1 hCE
  go_wp2
  go_loopw [8] (fun s8 wr => ∃ (i : Nat) (L : List Int), i ≤ M ∧ s8 = .int .i64 i ∧ ArrI wr w2.heap.size L ∧ Dg.Fil m es i 0 L ∧ Hid (Below w2.heap.size w2 wr)) (fun s8 _ => M - (intOf s8).toNat)
  case atStart => exact ⟨0, _, Nat.zero_le _, rfl, HA0.out, Dg.Fil.start m es, HB3⟩
  case round =>
    clear HA0 HB3 r1 r2 hmk
    obtain ⟨i, L, hi, rfl, hA, hF, HB⟩ := hrel
    have HA := Lib.hid hA
    have HF := Lib.hid hF
    by_cases hiM : i < M
    · have HPLi := Lib.hid (fun j hj => HPL.out i j hiM hj)
      have HFN := Lib.hid (fun L (h : Dg.Fil m es i ((Dg.pL m es m).getD i []).length L) => h.next HE.out)
      clear hA hF
      go_wp2
      go_loopw [9] (fun s9 wr => ∃ (k : Nat) (L : List Int), k ≤ ((Dg.pL m es m).getD i []).length ∧ s9 = .int .i64 k ∧ ArrI wr w2.heap.size L ∧ Dg.Fil m es i k L ∧ Hid (Below w2.heap.size w2 wr)) (fun s9 _ => ((Dg.pL m es m).getD i []).length - (intOf s9).toNat)
      case atStart => exact ⟨0, L, Nat.zero_le _, rfl, HA.out, HF.out, HB⟩
      case round =>
        clear HA HF HB L
        obtain ⟨k, L, hk, rfl, hA, hF, HB⟩ := hrel
        have HA := Lib.hid hA
        have HF := Lib.hid hF
        obtain ⟨N, ur, rfl, n1, hsr⟩ := hXL.at HB.out (i := i) (by rw [HPN.out]; exact hiM)
        obtain ⟨ap, cp, rfl, hcp1, hcp2, hCp⟩ := hsr.opened
        by_cases hkl : k < ((Dg.pL m es m).getD i []).length
        · obtain ⟨b, off, rfl, hb, c1⟩ := hCp.at (Below.refl _ _) hkl
          obtain ⟨V, hV, hVm, hVn⟩ := HPLi.out k hkl
          have HFP := Lib.hid (hF.put hkl hV hVm hVn)
          rw [hV] at c1
          have hLl := hF.1
          obtain ⟨a1, a2⟩ := hA.2 V (by rw [hLl]; exact hVm)
          have HA2 := Lib.hid (hA.put (i := V) (by rw [hLl]; exact hVm) (i : Int))
          have HB4 := Lib.hid (HB.out.setCell (p := ⟨w2.heap.size, V, none⟩) (Nat.le_refl _) (.int .i64 (i : Int)))
          clear hA hF hsr hV
          generalize ((Dg.pL m es m).getD i []).length = pl at *
          go_wp2
          exact ⟨⟨k + 1, _, by omega, by first | rfl | go_num, HA2.out, HFP.out, HB4⟩, by simp [intOf]; omega⟩
        · obtain rfl : k = ((Dg.pL m es m).getD i []).length := by omega
          have HFX := Lib.hid (HFN.out L hF)
          clear hA hF hsr
          generalize ((Dg.pL m es m).getD i []).length = pl at *
          go_wp2
          exact ⟨⟨i + 1, L, by omega, by first | rfl | go_num, HA.out, HFX.out, HB⟩, by simp [intOf]; omega⟩
    · obtain rfl : i = M := by omega
      obtain rfl := HFA.out L hF
      obtain ⟨wo, hwo⟩ : ∃ wo, wo = wr := ⟨_, rfl⟩
      subst hwo
      have HBo := Lib.hid (HB2.out.trans (HB.out.mono HB2.out.size))
      have hoz := HB.out.size
      obtain ⟨hp4, s1, s2⟩ := HP3.out.step HB.out
      have P4 := Lib.hid (HP3.out.step HB.out)
      have R4 := Lib.hid (HR2.out.step HB.out)
      have hC4 := hC2.step HB.out
      have G0 := gphW_new wo i (.slice none 0 0) 24
      have B0 := Lib.hid (BX wo (.cells #[.int .i64 i, .slice none 0 0] 24))
      clear hA hF HF HPL HPN HFA hXL hC2 HP3 HR2
      go_wp2
      go_loopw [11] (fun s11 wr => ∃ a : Nat, a ≤ i ∧ s11 = .int .i64 a ∧ (∃ ua uk uc, GphW wr wo.heap.size i (.slice ua uk uc) ∧ RowE (wo.heap.size + 1) 60 wr (.slice ua uk uc) (Dg.cst (Dg.prs i (fun p => decide (p ∈ Dg.cE m es)) a 0))) ∧ Hid (Below wo.heap.size wo wr)) (fun s11 _ => i - (intOf s11).toNat)
      case atStart => exact ⟨0, Nat.zero_le _, rfl, ⟨_, _, _, G0, by rw [HPZ.out]; simpa [Dg.cst] using RowE.nil _ _ _⟩, B0⟩
      case round =>
        clear G0 B0 s1 s2
        obtain ⟨a, ha, rfl, ⟨ua, uk, uc, hG, hrow⟩, HB5⟩ := hrel
        have HG := Lib.hid hG
        have RW := Lib.hid hrow
        obtain ⟨g0, g1, g2, g3, g4⟩ := hG
        by_cases hai : a < i
        · clear hrow
          go_wp2
          go_loopw [12] (fun s12 wr => ∃ b : Nat, b ≤ i ∧ s12 = .int .i64 b ∧ (∃ ua uk uc, GphW wr wo.heap.size i (.slice ua uk uc) ∧ RowE (wo.heap.size + 1) 60 wr (.slice ua uk uc) (Dg.cst (Dg.prs i (fun p => decide (p ∈ Dg.cE m es)) a b))) ∧ Hid (Below wo.heap.size wo wr)) (fun s12 _ => i - (intOf s12).toNat)
          case atStart => exact ⟨0, Nat.zero_le _, rfl, ⟨_, _, _, HG.out, RW.out⟩, HB5⟩
          case round =>
            clear HG RW g0 g1 g2 g3 g4 HB5
            clear ua uk uc
            obtain ⟨b, hb, rfl, ⟨ua, uk, uc, hG, hrow⟩, HB5⟩ := hrel
            have HG := Lib.hid hG
            have RW := Lib.hid hrow
            obtain ⟨g0, g1, g2, g3, g4⟩ := hG
            by_cases hbi : b < i
            · obtain ⟨w5, hw5⟩ : ∃ w5, w5 = wr := ⟨_, rfl⟩
              subst hw5
              have HFZ := Lib.hid (Dg.fo_zero m es a b)
              have HFS := Lib.hid (fun j (hj : j < es.length) => Dg.fo_succ (n := m) a b hj)
              have HFL := Lib.hid (Dg.fo_all m es a b)
              have HPab := Lib.hid (HPS.out a b)
              have hln := HPB.out a b hb
              clear hrow
              go_wp2
              go_loopw [13, 14] (fun s13 s14 wr => ∃ j : Nat, j ≤ es.length ∧ s14 = .int .i64 j ∧ s13 = .bool (Dg.fo m es a b j) ∧ Hid (Below w5.heap.size w5 wr)) (fun _ s14 _ => es.length - (intOf s14).toNat)
              case atStart => exact ⟨0, Nat.zero_le _, rfl, by rw [HFZ.out], Lib.hid (Below.refl _ _)⟩
              case round =>
                clear g0 g1 g2 g3 g4
                obtain ⟨j, hj, rfl, rfl, HB6⟩ := hrel
                have HB7 := Lib.hid (HB5.out.trans (HB6.out.mono HB5.out.size))
                obtain ⟨-, t1, t2⟩ := P4.out.step HB7.out
                by_cases hjl : j < es.length
                · obtain ⟨g, off, rfl, hg, c1, c2⟩ := hC4.at HB7.out (i := j) (by rw [Dg.cst_len]; exact hjl)
                  rw [Dg.cst_at] at c1 c2
                  obtain ⟨o1, o2⟩ := hOK.out j hjl
                  have HSU := Lib.hid (HFS.out j hjl)
                  have hAr := HA.out.step HB7.out
                  have k1 := (hAr.2 (es.getD j (0, 0)).1 (by rw [Dg.ci_len, Dg.nums_len]; exact o1)).1
                  have k2 := (hAr.2 (es.getD j (0, 0)).2 (by rw [Dg.ci_len, Dg.nums_len]; exact o2)).1
                  rw [Dg.ci_at, HNM.out _ o1] at k1
                  rw [Dg.ci_at, HNM.out _ o2] at k2
                  generalize es.getD j (0, 0) = y at *
                  generalize Dg.num m es y.1 = n1 at *
                  generalize Dg.num m es y.2 = n2 at *
                  clear hAr HFS
                  cases hf : Dg.fo m es a b j
                  · rw [hf, Bool.false_or] at HSU
                    clear hf
                    by_cases e1 : n1 = a
                    · have d1 : ((n1 : Int) == (a : Int)) = true := by simp [e1]
                      by_cases e2 : n2 = b
                      · have d2 : ((n2 : Int) == (b : Int)) = true := by simp [e2]
                        have HFF : Hid (Dg.fo m es a b (j + 1) = true) := Lib.hid (by rw [HSU.out, e1, e2]; simp)
                        clear e1 e2 HSU
                        go_wp2
                        exact ⟨⟨j + 1, by omega, by first | rfl | go_num, by rw [HFF.out], HB6⟩, by simp [intOf]; omega⟩
                      · have d2 : ((n2 : Int) == (b : Int)) = false := by simp; omega
                        have HFF : Hid (Dg.fo m es a b (j + 1) = false) := Lib.hid (by rw [HSU.out, e1]; simp [e2])
                        clear e1 e2 HSU
                        go_wp2
                        exact ⟨⟨j + 1, by omega, by first | rfl | go_num, by rw [HFF.out], HB6⟩, by simp [intOf]; omega⟩
                    · have d1 : ((n1 : Int) == (a : Int)) = false := by simp; omega
                      have HFF : Hid (Dg.fo m es a b (j + 1) = false) := Lib.hid (by rw [HSU.out]; simp [e1])
                      clear e1 HSU
                      go_wp2
                      exact ⟨⟨j + 1, by omega, by first | rfl | go_num, by rw [HFF.out], HB6⟩, by simp [intOf]; omega⟩
                  · rw [hf, Bool.true_or] at HSU
                    clear hf
                    go_wp2
                    exact ⟨⟨j + 1, by omega, by first | rfl | go_num, by rw [HSU.out], HB6⟩, by simp [intOf]; omega⟩
                · obtain rfl : j = es.length := by omega
                  have hG6 := HG.out.step HB6.out
                  have HG6 := Lib.hid hG6
                  have RW6 := Lib.hid (RW.out.step HB6.out)
                  obtain ⟨g0, g1, g2, g3, g4⟩ := hG6
                  have hwz := HB7.out.size
                  have hqq : (Dg.cst (Dg.prs i (fun p => decide (p ∈ Dg.cE m es)) a b)).length ≤ 1048576 := by
                    rw [Dg.cst_len]
                    have h1 : (a + 1) * i ≤ 256 * 256 := Nat.mul_le_mul (by omega) (by omega)
                    omega
                  cases hf : Dg.fo m es a b es.length
                  · have HPn : Hid (Dg.prs i (fun p => decide (p ∈ Dg.cE m es)) a (b + 1) = Dg.prs i (fun p => decide (p ∈ Dg.cE m es)) a b) := Lib.hid (by
                      rw [HPab.out]
                      have h1 := HFL.out
                      rw [hf, Bool.false_and] at h1
                      simp only [← h1]; rfl)
                    clear hf HFL HFS
                    go_wp2
                    exact ⟨⟨b + 1, by omega, by first | rfl | go_num, ⟨_, _, _, HG6.out, by rw [HPn.out]; exact RW6.out⟩, HB7⟩, by simp [intOf]; omega⟩
                  · by_cases hab : a = b
                    · have d1 : ((a : Int) != (b : Int)) = false := by simp [hab]
                      have HPn : Hid (Dg.prs i (fun p => decide (p ∈ Dg.cE m es)) a (b + 1) = Dg.prs i (fun p => decide (p ∈ Dg.cE m es)) a b) := Lib.hid (by
                        rw [HPab.out]
                        have h1 := HFL.out
                        rw [hf, Bool.true_and, show decide (a ≠ b) = false by simp [hab]] at h1
                        simp only [← h1]; rfl)
                      clear hf HFL HFS hab
                      go_wp2
                      exact ⟨⟨b + 1, by omega, by first | rfl | go_num, ⟨_, _, _, HG6.out, by rw [HPn.out]; exact RW6.out⟩, HB7⟩, by simp [intOf]; omega⟩
                    · have d1 : ((a : Int) != (b : Int)) = true := by simp only [bne_iff_ne, ne_eq]; omega
                      have HPn : Hid (Dg.cst (Dg.prs i (fun p => decide (p ∈ Dg.cE m es)) a (b + 1)) = Dg.cst (Dg.prs i (fun p => decide (p ∈ Dg.cE m es)) a b) ++ [((a : Int), (b : Int))]) := Lib.hid (by
                        rw [HPab.out]
                        have h1 := HFL.out
                        rw [hf, Bool.true_and, show decide (a ≠ b) = true by simp [hab]] at h1
                        simp only [← h1]
                        simp [Dg.cst])
                      clear hf HFL HFS hab HPab
                      generalize hqe : Dg.cst (Dg.prs i (fun p => decide (p ∈ Dg.cE m es)) a b) = q at *
                      clear hqe
                      go_wp2_with (at_builtin; refine wpList_append_edge rfl _ _ 22 rfl 60 i0 Try.underlying22 hi0 hz0 hz1 hz2 _ q ((a : Int), (b : Int)) wr.heap.size rfl rfl (wo.heap.size + 1) (RW6.out.step (BX _ _)) (by simp) (by simp) (by omega) (by simp; omega) ?_; intro a5 p5 w6 hr5 hb5; have G5 := (HG6.out.step (BX _ _)).below (Nat.lt_succ_self _) hb5; have HG5 := Lib.hid G5; have HB8 := Lib.hid (HB7.out.trans (((BX wr (.cells #[.int .i64 (a : Int), .int .i64 (b : Int)] 60)).mono hwz).trans (hb5.mono (Nat.le_succ _)))); have HRW5 := Lib.hid hr5; clear hr5 hb5; obtain ⟨k0, k1, k2, k3, k4⟩ := G5)
                      exact ⟨⟨b + 1, by omega, by first | rfl | go_num, ⟨_, _, _, HG5.out.put _, by rw [HPn.out]; exact ownsRow_setCell_below HRW5.out (by simp) _⟩, Lib.hid (HB8.out.setCell (by simp) _)⟩, by simp [intOf]; omega⟩
            · obtain rfl : b = i := by omega
              rw [← HPX.out a] at RW
              clear hrow
              go_wp2
              exact ⟨⟨a + 1, by omega, by first | rfl | go_num, ⟨_, _, _, HG.out, RW.out⟩, HB5⟩, by simp [intOf]; omega⟩
        · obtain rfl : a = i := by omega
          rw [HCS.out] at RW
          have R5 := R4.out.step HB5.out
          have HR5 := Lib.hid R5
          obtain ⟨y0, y1, y2, y3, y4⟩ := R5
          have HAE := Lib.hid (HA.out.step HB5.out)
          clear hrow
          go_wp2
          obtain ⟨-, e0, e1, -, -⟩ := (HR5.out.put0 a).put (.slice ua uk uc)
          have HBE := Lib.hid (((below_nxt HBo.out HB5.out).setCell (p := ⟨w.heap.size + 1, 0, none⟩) (by simp) (.int .i64 a)).setCell (p := ⟨w.heap.size + 1, 1, none⟩) (by simp) (.slice ua uk uc))
          have HRE := Lib.hid (ownsRow_setCell_below (ownsRow_setCell_below RW.out (a := ⟨w.heap.size + 1, 0, none⟩) (by simp; omega) (.int .i64 a)) (a := ⟨w.heap.size + 1, 1, none⟩) (by simp; omega) (.slice ua uk uc))
          have HAX : Hid (SeesI ((wr.setCell ⟨w.heap.size + 1, 0, none⟩ (.int .i64 a)).setCell ⟨w.heap.size + 1, 1, none⟩ (.slice ua uk uc)) (.slice (some ⟨w2.heap.size, 0, none⟩) m m) (Dg.ci (Dg.nums m es m))) := Lib.hid (by
            have h := ((HAE.out.other (k := w.heap.size + 1) (by omega) (o := 0) (.int .i64 a)).other (k := w.heap.size + 1) (by omega) (o := 1) (.slice ua uk uc)).sees (cap := m) (by rw [Dg.ci_len, Dg.nums_len]; exact Nat.le_refl _) (by unfold maxLen; omega)
            rw [Dg.ci_len, Dg.nums_len] at h
            exact h)
          exact bodyPost_ret (v := .tuple #[.agg #[.int .i64 a, .slice ua uk uc], .slice (some ⟨w2.heap.size, 0, none⟩) m m, .int .i64 0]) (by simp [results, Try.results34, go_sem, e0, e1]) rfl ⟨_, _, rfl, RowE.sees HRE.out, HAX.out, HBE.out⟩
end Go.Proofs.Ytkjhockppkdakaa
