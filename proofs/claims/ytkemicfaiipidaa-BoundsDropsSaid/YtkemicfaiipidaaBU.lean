/- Forget of package bounds. -/
import Derived.Test.YtkemicfaiipidaaBD
namespace Bn
def fgF (N a : Nat) (u : Mx) : Mx := fun x y => if x ≤ N ∧ y ≤ N ∧ x ≠ y ∧ (x = a ∨ y = a) then -1099511627776 else u x y
theorem fgF_col {N a : Nat} {u : Mx} (x y : Nat) (h : N < y) : fgF N a u x y = u x y := if_neg (by omega)
theorem fgF_row {N a : Nat} {u : Mx} (x y : Nat) (h : N < x) : fgF N a u x y = u x y := if_neg (by omega)
theorem fgF_congr {N a : Nat} {u u' : Mx} (h : ∀ i j, i ≤ N → j ≤ N → u i j = u' i j) (i j : Nat) (hi : i ≤ N) (hj : j ≤ N) : fgF N a u i j = fgF N a u' i j := by
  unfold fgF
  rw [h i j hi hj]
/-- What Forget returns. -/
def forV (n : Int) (R : List (List Int)) (i : Int) : Int × List (List Int) × Int := if cwE n R 1 [i] = 0 then Go.Proofs.Ytkemicfaiipidaa.Bn.bV n.toNat (fgF n.toNat i.toNat (cl n R)) else (0, [], cwE n R 1 [i])
end Bn
namespace Go.Proofs.Ytkemicfaiipidaa
open Go.RowKit
set_option maxHeartbeats 2000000 in
set_option maxRecDepth 100000 in
theorem bFgt1_any (i j a g ib mb : Nat) (n : Int) (m : Bn.Mx) (W : World) (hi : i < 13) (hj : j < 13) (hM : MtxI W g n m) (hI : BoxV W ib (.int .i64 (a : Int))) (hm : BoxV W mb (.pointer (some ⟨g, 0, none⟩))) :
    Calls Try.prog 61 #[.int .i64 i, .int .i64 j, .pointer (some ⟨ib, 0, none⟩), .pointer (some ⟨mb, 0, none⟩)] W fun e w' => e = .returned (.tuple #[]) ∧ W.grownBy w' (some g) ∧ MtxI w' g n (if i ≠ j ∧ (i = a ∨ j = a) then Bn.up m i j (-1099511627776) else m) := by
  have HM := Lib.hid hM
  obtain ⟨m0, m1, m2⟩ := hM
  obtain ⟨m3, m4⟩ := m2 i j hi hj
  obtain ⟨v0, v1⟩ := hm
  obtain ⟨i0, i1⟩ := hI
  clear m2
  by_cases h : i = j
  · subst h
    rw [if_neg (by simp)]
    go_enter Try.func61, Try.ntmps61
    go_wp2
    all_goals (go_end0; exact ⟨rfl, grown_refl _ _, HM.out⟩)
  · have h' : ¬ ((i : Int) = (j : Int)) := by omega
    by_cases ha : i = a
    · subst ha
      rw [if_pos ⟨h, .inl rfl⟩]
      go_enter Try.func61, Try.ntmps61
      go_wp2
      all_goals (go_end0; exact ⟨rfl, grown_set (grown_refl _ _), HM.out.put hi hj _⟩)
    · have ha' : ¬ ((i : Int) = (a : Int)) := by omega
      by_cases hb : j = a
      · subst hb
        rw [if_pos ⟨h, .inr rfl⟩]
        go_enter Try.func61, Try.ntmps61
        go_wp2
        all_goals (go_end0; exact ⟨rfl, grown_set (grown_refl _ _), HM.out.put hi hj _⟩)
      · have hb' : ¬ ((j : Int) = (a : Int)) := by omega
        rw [if_neg (by simp [ha, hb])]
        go_enter Try.func61, Try.ntmps61
        go_wp2
        all_goals first | (go_end0; exact ⟨rfl, grown_refl _ _, HM.out⟩) | (exfalso; grind)
/-- The loop over all pairs. -/
theorem fgt_each (N a g ib mb q h : Nat) (u : Bn.Mx) (x : Int) (y : Value) (w X : World) (hN : N ≤ 12) (hM : MtxI X g N u) (hI : BoxV X ib (.int .i64 (a : Int))) (hm : BoxV X mb (.pointer (some ⟨g, 0, none⟩))) (hR : ResI X q x y) (hB : Below h w X) (hg : h ≤ g) (h1 : ib ≠ g) (h2 : mb ≠ g) (h3 : q ≠ g) :
    Calls Try.prog 45 #[.pointer (some ⟨g, 0, none⟩), .func (.func 61) #[] #[.pointer (some ⟨ib, 0, none⟩), .pointer (some ⟨mb, 0, none⟩)]] X fun e w' => e = .returned (.tuple #[]) ∧ MtxI w' g N (Bn.fgF N a u) ∧ BoxV w' mb (.pointer (some ⟨g, 0, none⟩)) ∧ ResI w' q x y ∧ Below h w w' := by
  refine (each_forget (.pointer (some ⟨ib, 0, none⟩)) (.pointer (some ⟨mb, 0, none⟩)) g N (fun i j W => MtxI W g N (Bn.fil (Bn.fgF N a u) u i j) ∧ BoxV W ib (.int .i64 (a : Int)) ∧ BoxV W mb (.pointer (some ⟨g, 0, none⟩)) ∧ ResI W q x y ∧ Below h w W) X hN
    ⟨hM.congr (fun a b _ _ => (Bn.fil_zero _ _ a b).symm), hI, hm, hR, hB⟩ (fun i j X h => h.1.2.1) ?_ ?_).mono ?_
  · rintro i j Y hi hj ⟨p1, p2, p3, p4, p5⟩
    refine (bFgt1_any i j a g ib mb N _ Y (by omega) (by omega) p1 p2 p3).mono ?_
    rintro e w1 ⟨rfl, hg1, hm1⟩
    refine ⟨rfl, hm1.congr (fun b c _ _ => ?_), p2.grown hg1 h1, p3.grown hg1 h2, p4.grown hg1 h3, p5.trans (below_grown hg1 (by have := p1.1; omega) (by omega))⟩
    by_cases hc : i ≠ j ∧ (i = a ∨ j = a)
    · rw [if_pos hc]
      have := Bn.fil_next (Bn.fgF N a u) u i j b c
      rw [show Bn.fgF N a u i j = -1099511627776 from if_pos ⟨hi, hj, hc⟩] at this
      exact this
    · rw [if_neg hc]
      exact Bn.fil_same (show Bn.fgF N a u i j = u i j from if_neg (fun g => hc ⟨g.2.2.1, g.2.2.2⟩)) b c
  · rintro i Y hi ⟨p1, p2, p3, p4, p5⟩
    exact ⟨p1.congr (fun b c _ _ => Bn.fil_row Bn.fgF_col b c), p2, p3, p4, p5⟩
  · rintro e w1 ⟨rfl, p1, p2, p3, p4, p5⟩
    exact ⟨rfl, p1.congr (fun b c _ _ => Bn.fil_end Bn.fgF_row b c), p3, p4, p5⟩
/-- A result that is stored, in any box. -/
theorem fin_valG {w W : World} {h q B k cap : Nat} {q1 a : Int} {b : Value} {ao : Option Addr} {R : List (List Int)} (hR : ResI W q a b) (hB : Below h w W) (hq : h ≤ q) (hF : ValF B W (.agg #[.int .i64 q1, .slice ao k cap]) q1 R) (hb : q < B) :
    ResI ((W.setCell ⟨q, 0, none⟩ (.int .i64 q1)).setCell ⟨q, 1, none⟩ (.slice ao k cap)) q q1 (.slice ao k cap) ∧
    Below h w ((W.setCell ⟨q, 0, none⟩ (.int .i64 q1)).setCell ⟨q, 1, none⟩ (.slice ao k cap)) ∧ ValB ((W.setCell ⟨q, 0, none⟩ (.int .i64 q1)).setCell ⟨q, 1, none⟩ (.slice ao k cap)) (.agg #[.int .i64 q1, .slice ao k cap]) q1 R :=
  ⟨hR.put _ _, (hB.setCell (p := ⟨q, 0, none⟩) hq _).setCell (p := ⟨q, 1, none⟩) hq _, hF.2 _ q hb (grown_set (grown_set (grown_refl _ _)))⟩
theorem fin_nilG {w W : World} {h q : Nat} {a : Int} {b : Value} (hR : ResI W q a b) (hB : Below h w W) (hq : h ≤ q) :
    ResI ((W.setCell ⟨q, 0, none⟩ (.int .i64 0)).setCell ⟨q, 1, none⟩ (.slice none 0 0)) q 0 (.slice none 0 0) ∧
    Below h w ((W.setCell ⟨q, 0, none⟩ (.int .i64 0)).setCell ⟨q, 1, none⟩ (.slice none 0 0)) ∧ ValB ((W.setCell ⟨q, 0, none⟩ (.int .i64 0)).setCell ⟨q, 1, none⟩ (.slice none 0 0)) (.agg #[.int .i64 0, .slice none 0 0]) 0 [] :=
  ⟨hR.put _ _, (hB.setCell (p := ⟨q, 0, none⟩) hq _).setCell (p := ⟨q, 1, none⟩) hq _, ValB.nil _⟩
/-- The boxes of two arguments and the variable of a result. -/
theorem pro3 (w : World) (n i : Int) (v : Value) : ∃ X, X = (((w.alloc (.cells #[.int .i64 n, v] 24)).alloc (.cells #[.int .i64 i] 3)).alloc (.cells #[.int .i64 0, .slice none 0 0] 24)) ∧ BoxB X w.heap.size n v ∧ BoxV X (w.heap.size + 1) (.int .i64 i) ∧ ResI X (w.heap.size + 1 + 1) 0 (.slice none 0 0) ∧ Below w.heap.size w X ∧ w.heap.size + 1 + 1 + 1 ≤ X.heap.size := by
  refine ⟨_, rfl, ?_⟩
  obtain ⟨B0, L0⟩ := boxB_new w n v 24
  have e0 : (w.alloc (.cells #[.int .i64 n, v] 24)).heap.size = w.heap.size + 1 := by simp
  generalize w.alloc (.cells #[.int .i64 n, v] 24) = Y at *
  have V1 := boxV_new Y (.int .i64 i) 3
  have L1 : Below Y.heap.size Y (Y.alloc (.cells #[.int .i64 i] 3)) := (Below.refl _ _).alloc (Nat.le_refl _) _
  have e1 : (Y.alloc (.cells #[.int .i64 i] 3)).heap.size = w.heap.size + 1 + 1 := by simp [e0]
  rw [e0] at V1
  have B1 := B0.step L1
  have LL1 := below_nxt L0 L1
  generalize Y.alloc (.cells #[.int .i64 i] 3) = Z at *
  have R1 := resI_new Z 0 (.slice none 0 0) 24
  have L2 : Below Z.heap.size Z (Z.alloc (.cells #[.int .i64 0, .slice none 0 0] 24)) := (Below.refl _ _).alloc (Nat.le_refl _) _
  rw [e1] at R1
  exact ⟨B1.step L2, V1.step L2, R1, below_nxt LL1 L2, by simp [e1]⟩

set_option maxHeartbeats 4000000 in
set_option maxRecDepth 100000 in
theorem bFgt_any (n i : Int) (v : Value) (R : List (List Int)) (w : World) (hs : SeesR w v R) :
    Calls Try.prog 26 #[.agg #[.int .i64 n, v], .int .i64 i] w (RetB (Bn.forV n R i) w) := by
  have HS := Lib.hid hs
  obtain ⟨ao, cap, rfl, hcap1, hcap2, -⟩ := hs
  obtain ⟨X, hX, hBX, hVX, hRX, hLX, hZX⟩ := pro3 w n i (.slice ao R.length cap)
  have LA : Below X.heap.size X (X.alloc (.cells #[.int .i64 i] 3)) := (Below.refl _ _).alloc (Nat.le_refl _) _
  have hSI := SeeI.one X i 3
  have HVX := Lib.hid (hVX.step LA)
  have HRX := Lib.hid (hRX.step LA)
  have HLX := Lib.hid (below_nxt hLX LA)
  have CW := Lib.hid (bCW_any n 1 _ _ R [i] _ (HS.out.step HLX.out) hSI)
  obtain ⟨x0, x1, x2⟩ := hBX
  obtain ⟨y0, y1⟩ := hVX
  rw [hX] at x0 x1 x2 y0 y1
  have hsz : (((w.alloc (.cells #[.int .i64 n, .slice ao R.length cap] 24)).alloc (.cells #[.int .i64 i] 3)).alloc (.cells #[.int .i64 0, .slice none 0 0] 24)).heap.size = X.heap.size := by rw [hX]
  clear hRX hLX LA hSI
  by_cases h1 : Bn.cwE n R 1 [i] = 0
  · obtain ⟨h2, h3⟩ := Bn.cwE_ok h1
    obtain ⟨h4, h5⟩ := Bn.cix_chk h2
    have h6 : Bn.idx 1 n i = true := by simpa using h5
    obtain ⟨h7, h8⟩ := Bn.idx_iff.1 h6
    obtain ⟨N, rfl, hN, hSh, hR⟩ := Bn.chk_ok h4
    obtain ⟨a, rfl⟩ := Int.eq_ofNat_of_zero_le (show 0 ≤ i by omega)
    have hv : Bn.forV N R a = Bn.bV N (Bn.fgF N a (Bn.cl N R)) := by unfold Bn.forV; rw [if_pos h1]; simp
    rw [hv]
    have CBo := fun W g u (h : MtxI W g N (Bn.fgF N a u)) (hu : ∀ i j, i ≤ N → j ≤ N → u i j = Bn.cl N R i j) => Lib.hid (show Calls Try.prog 34 #[.pointer (some ⟨g, 0, none⟩)] W fun e w' => ∃ v, e = .returned (.tuple #[v, .int .i64 (Bn.bV N (Bn.fgF N a (Bn.cl N R))).2.2]) ∧ ValF W.heap.size w' v (Bn.bV N (Bn.fgF N a (Bn.cl N R))).1 (Bn.bV N (Bn.fgF N a (Bn.cl N R))).2.1 ∧ Below W.heap.size W w' by
      have := bBnds_any N g _ W hN h
      rw [Bn.bV_congr (Bn.fgF_congr hu)] at this
      exact this)
    clear hv h2 h3 h4 h5 h6 hSh hR
    go_enter Try.func26, Try.ntmps26
    go_wp2_with fail
    rw [← hX]
    try rw [hsz]
    refine (CW.out).mono ?_
    rintro e w1 ⟨p, rfl, -, hp, hb1⟩
    obtain ⟨g, u, rfl, hg1, hM, hu⟩ := hp h1
    rw [h1]
    have hgX : X.heap.size < g := by simp at hg1; omega
    have HB1 := Lib.hid (below_nxt HLX.out hb1)
    have HR1 := Lib.hid (HRX.out.step hb1)
    have HV1 := Lib.hid (HVX.out.step hb1)
    have HM := Lib.hid hM
    have HU := Lib.hid (fun x y (hx : x ≤ N) (hy : y ≤ N) => hu x y (by simpa using hx) (by simpa using hy))
    clear hb1 hM hu hp CW HRX HLX HVX x0 x1 x2 y0 y1
    have L2 : Below w1.heap.size w1 (w1.alloc (.cells #[.pointer (some ⟨g, 0, none⟩)] 62)) := (Below.refl _ _).alloc (Nat.le_refl _) _
    have HV2 := Lib.hid (HV1.out.step L2)
    have HR2 := Lib.hid (HR1.out.step L2)
    have HB2 := Lib.hid (below_nxt HB1.out L2)
    have HM2 := Lib.hid (HM.out.step L2)
    have HP2 := Lib.hid (boxV_new w1 (.pointer (some ⟨g, 0, none⟩)) 62)
    have hgw := HM.out.1
    clear L2 HV1 HR1 HB1 HM
    go_wp2_with fail
    generalize w1.alloc (.cells #[.pointer (some ⟨g, 0, none⟩)] 62) = X2 at *
    refine (fgt_each N a g (w.heap.size + 1) w1.heap.size (w.heap.size + 1 + 1) w.heap.size u _ _ w X2 hN HM2.out HV2.out HP2.out HR2.out HB2.out (by omega) (by omega) (by omega) (by omega)).mono ?_
    rintro e w3 ⟨rfl, hm3, hp3, hr3, hb3⟩
    have HM3 := Lib.hid hm3
    have HR3 := Lib.hid hr3
    have HB3 := Lib.hid hb3
    obtain ⟨z0, z1⟩ := hp3
    clear hm3 hr3 hb3 HV2 HP2 HR2 HB2 HM2
    go_wp2_with fail
    refine ((CBo w3 g u HM3.out HU.out).out).mono ?_
    rintro e w4 ⟨v4, rfl, hV4, hb4⟩
    obtain ⟨ao4, cap4, rfl⟩ := hV4.form
    have HB4 := Lib.hid (below_nxt HB3.out hb4)
    have HR4 := Lib.hid (HR3.out.step hb4)
    have hz3 := HR3.out.1
    have HF4 := Lib.hid hV4
    obtain ⟨k0, k1, k2, k3, k4⟩ := HR4.out
    clear hb4 hV4 CBo
    generalize Bn.bV N (Bn.fgF N a (Bn.cl N R)) = q9 at *
    obtain ⟨q1, q2, q3⟩ := q9
    dsimp only at *
    go_wp2
    obtain ⟨RW, BW, VW⟩ := fin_valG HR4.out HB4.out (by omega) HF4.out hz3
    generalize ((w4.setCell ⟨w.heap.size + 1 + 1, 0, none⟩ (.int .i64 q1)).setCell ⟨w.heap.size + 1 + 1, 1, none⟩ (.slice ao4 q2.length cap4)) = W2 at *
    obtain ⟨-, t1, t2, -, -⟩ := RW
    exact bodyPost_ret (v := .tuple #[.agg #[.int .i64 q1, .slice ao4 q2.length cap4], .int .i64 q3]) (by simp [results, Try.results26, go_sem, t1, t2]) rfl ⟨_, rfl, VW, BW⟩
  · have hv : Bn.forV n R i = (0, [], Bn.cwE n R 1 [i]) := if_neg h1
    rw [hv]
    clear hv
    go_enter Try.func26, Try.ntmps26
    go_wp2_with fail
    rw [← hX]
    try rw [hsz]
    refine (CW.out).mono ?_
    rintro e w1 ⟨p, rfl, hp, -, hb1⟩
    obtain rfl := hp h1
    have HB1 := Lib.hid (below_nxt HLX.out hb1)
    have HR1 := Lib.hid (HRX.out.step hb1)
    obtain ⟨r0, r1, r2, r3, r4⟩ := HR1.out
    clear hb1 HRX HLX hp
    go_wp2
    obtain ⟨RW, BW, VW⟩ := fin_nilG HR1.out HB1.out (by omega)
    generalize ((w1.setCell ⟨w.heap.size + 1 + 1, 0, none⟩ (.int .i64 0)).setCell ⟨w.heap.size + 1 + 1, 1, none⟩ (.slice none 0 0)) = W2 at *
    have L2 : Below W2.heap.size W2 (W2.alloc (.cells #[.pointer none] 62)) := (Below.refl _ _).alloc (Nat.le_refl _) _
    have RW2 := RW.step L2
    have VW2 := VW.step L2
    have BW2 := below_nxt BW L2
    generalize W2.alloc (.cells #[.pointer none] 62) = W3 at *
    obtain ⟨-, t1, t2, -, -⟩ := RW2
    exact bodyPost_ret (v := .tuple #[.agg #[.int .i64 0, .slice none 0 0], .int .i64 (Bn.cwE n R 1 [i])]) (by simp [results, Try.results26, go_sem, t1, t2]) rfl ⟨_, rfl, VW2, BW2⟩
end Go.Proofs.Ytkemicfaiipidaa

