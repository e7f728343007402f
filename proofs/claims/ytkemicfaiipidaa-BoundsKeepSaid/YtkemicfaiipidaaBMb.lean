/- Meet of package bounds. -/
import Derived.Test.YtkemicfaiipidaaBMa
import Derived.StillTailTactics
namespace Go.Proofs.Ytkemicfaiipidaa
open Go.RowKit
set_option maxHeartbeats 2000000 in
set_option maxRecDepth 100000 in
theorem bMet1_any (i j g bb mb : Nat) (n k : Int) (m : Bn.Mx) (v : Value) (S : List (List Int)) (W : World) (hi : i < 13) (hj : j < 13) (hM : MtxI W g n m) (hB : BoxB W bb k v) (hm : BoxV W mb (.pointer (some ⟨g, 0, none⟩))) (hS : SeesR W v S) (hil : i < S.length) (hjl : j < (S.getD i []).length) :
    Calls Try.prog 59 #[.int .i64 i, .int .i64 j, .pointer (some ⟨mb, 0, none⟩), .pointer (some ⟨bb, 0, none⟩)] W fun e w' => e = .returned (.tuple #[]) ∧ W.grownBy w' (some g) ∧ MtxI w' g n (Bn.up m i j (Bn.mn (m i j) (Bn.mx S i j))) := by
  obtain ⟨b, off, cap, d, o2, cr, rfl, hb, c1, hd, c2⟩ := hS.get (Below.refl _ _) hil hjl
  have HM := Lib.hid hM
  have CL := fun W (h : MtxI W g n m) => Lib.hid (bLower_any g i j n (Bn.mx S i j) m W hi hj h)
  generalize Bn.mx S i j = x at *
  generalize Bn.up m i j (Bn.mn (m i j) x) = Q at *
  obtain ⟨b0, b1, b2⟩ := hB
  obtain ⟨v0, v1⟩ := hm
  have zi : (i : Int) < (S.length : Int) := by omega
  have zj : (j : Int) < ((S.getD i []).length : Int) := by omega
  clear hS hM
  generalize (S.getD i []).length = lr at *
  go_enter Try.func59, Try.ntmps59
  go_wp2
  go_region_with (go_at_call 39; refine ((CL W.drew HM.out.drew).out).mono ?_; rintro e w1 ⟨rfl, hg1, hm1⟩; have HG1 := Lib.hid hg1; have HM1 := Lib.hid hm1; clear hg1 hm1)
  all_goals (go_end0; exact ⟨rfl, grown_drew0 HG1.out, HM1.out⟩)
/-- The loop over all pairs. -/
theorem met_each (N g bb mb q : Nat) (u : Bn.Mx) (k x : Int) (y v : Value) (S : List (List Int)) (w X : World) (hN : N ≤ 12) (hM : MtxI X g N u) (hB : BoxB X bb k v) (hm : BoxV X mb (.pointer (some ⟨g, 0, none⟩))) (hR : ResI X q x y) (hBW : Below w.heap.size w X) (hg : w.heap.size ≤ g) (h1 : bb ≠ g) (h2 : mb ≠ g) (h3 : q ≠ g) (hS : SeesR w v S) (hSh : Bn.Shp N S) :
    Calls Try.prog 45 #[.pointer (some ⟨g, 0, none⟩), .func (.func 59) #[] #[.pointer (some ⟨mb, 0, none⟩), .pointer (some ⟨bb, 0, none⟩)]] X fun e w' => e = .returned (.tuple #[]) ∧ MtxI w' g N (Bn.sq N (fun i j => Bn.mn (u i j) (Bn.mx S i j)) u) ∧ BoxV w' mb (.pointer (some ⟨g, 0, none⟩)) ∧ ResI w' q x y ∧ Below w.heap.size w w' := by
  refine (each_meet (.pointer (some ⟨mb, 0, none⟩)) (.pointer (some ⟨bb, 0, none⟩)) g N (fun i j W => MtxI W g N (Bn.fil (Bn.sq N (fun i j => Bn.mn (u i j) (Bn.mx S i j)) u) u i j) ∧ BoxB W bb k v ∧ BoxV W mb (.pointer (some ⟨g, 0, none⟩)) ∧ ResI W q x y ∧ Below w.heap.size w W) X hN
    ⟨hM.congr (fun a b _ _ => (Bn.fil_zero _ _ a b).symm), hB, hm, hR, hBW⟩ (fun i j X h => h.1.2.1) ?_ ?_).mono ?_
  · rintro i j Y hi hj ⟨p1, p2, p3, p4, p5⟩
    refine (bMet1_any i j g bb mb N k _ v S Y (by omega) (by omega) p1 p2 p3 (hS.step p5) (by rw [hSh.1]; omega) (by rw [hSh.2 i hi]; omega)).mono ?_
    rintro e w1 ⟨rfl, hg1, hm1⟩
    refine ⟨rfl, hm1.congr (fun b c _ _ => ?_), p2.grown hg1 h1, p3.grown hg1 h2, p4.grown hg1 h3, p5.trans (below_grown hg1 (by have := p1.1; omega) (by omega))⟩
    have := Bn.fil_next (Bn.sq N (fun i j => Bn.mn (u i j) (Bn.mx S i j)) u) u i j b c
    rw [Bn.sq_in hi hj] at this
    rw [show Bn.fil (Bn.sq N (fun i j => Bn.mn (u i j) (Bn.mx S i j)) u) u i j i j = u i j by unfold Bn.fil; rw [if_neg (by omega)]]
    exact this
  · rintro i Y hi ⟨p1, p2, p3, p4, p5⟩
    exact ⟨p1.congr (fun b c _ _ => Bn.fil_row Bn.sq_col b c), p2, p3, p4, p5⟩
  · rintro e w1 ⟨rfl, p1, p2, p3, p4, p5⟩
    exact ⟨rfl, p1.congr (fun b c _ _ => Bn.fil_end Bn.sq_row b c), p3, p4, p5⟩

set_option maxHeartbeats 4000000 in
set_option maxRecDepth 100000 in
theorem bMet_any (n m : Int) (v u : Value) (R S : List (List Int)) (w : World) (hs : SeesR w v R) (hu : SeesR w u S) :
    Calls Try.prog 24 #[.agg #[.int .i64 n, v], .agg #[.int .i64 m, u]] w (RetB (Bn.meeV n R m S) w) := by
  have CB := fun W (h : SeesR W v R) (h2 : SeesR W u S) => Lib.hid (bBoth_any n m v u R S W h h2)
  have HS := Lib.hid hs
  have HU := Lib.hid hu
  obtain ⟨ao, cap, rfl, hcap1, hcap2, -⟩ := hs
  obtain ⟨bo, cbp, rfl, hcbp1, hcbp2, -⟩ := hu
  obtain ⟨X, hX, hBX, hEX, hRX, hLX⟩ := pro32 w n m (.slice ao R.length cap) (.slice bo S.length cbp)
  have HEX := Lib.hid hEX
  have HBX := Lib.hid hBX
  have HRX := Lib.hid hRX
  have HLX := Lib.hid hLX
  obtain ⟨x0, x1, x2⟩ := hBX
  obtain ⟨y0, y1, y2⟩ := hEX
  rw [hX] at x0 x1 x2 y0 y1 y2
  clear hLX hRX
  by_cases h1 : Bn.twE n R m S = 0
  · obtain ⟨h2, h3, rfl⟩ := Bn.twE_ok h1
    obtain ⟨N, rfl, hN, hSh, hR⟩ := Bn.chk_ok h2
    obtain ⟨N', hNe, -, hSh2, hR2⟩ := Bn.chk_ok h3
    obtain rfl : N = N' := by omega
    have hv : Bn.meeV N R N S = Bn.bV N (Bn.metM R S) := by
      unfold Bn.meeV
      rw [if_pos h1]
      unfold Bn.bV
      rw [if_pos (Bn.metM_allB hR hR2), Int.toNat_natCast]
    rw [hv]
    have CO := fun W (h : SeesR W (.slice ao R.length cap) R) => Lib.hid (bOf_any N _ R W hN hSh h)
    have CBo := fun W g (h : MtxI W g N (Bn.sq N (fun i j => Bn.mn (Bn.sq N (Bn.mx R) Bn.zer i j) (Bn.mx S i j)) (Bn.sq N (Bn.mx R) Bn.zer))) => Lib.hid (show Calls Try.prog 34 #[.pointer (some ⟨g, 0, none⟩)] W fun e w' => ∃ v, e = .returned (.tuple #[v, .int .i64 (Bn.bV N (Bn.metM R S)).2.2]) ∧ ValF W.heap.size w' v (Bn.bV N (Bn.metM R S)).1 (Bn.bV N (Bn.metM R S)).2.1 ∧ Below W.heap.size W w' by
      have := bBnds_any N g _ W hN h
      rw [Bn.bV_congr (m' := Bn.metM R S) (fun i j hi hj => by rw [Bn.sq_in hi hj, Bn.sq_in hi hj]; rfl)] at this
      exact this)
    rw [h1] at CB
    clear hv h1 h2 h3 hNe hR hR2
    have HSh2 := Lib.hid hSh2
    clear hSh hSh2
    go_enter Try.func24, Try.ntmps24
    go_wp2_with fail
    rw [← hX]
    clear x0 x1 x2 y0 y1 y2
    refine ((CB X (HS.out.step HLX.out) (HU.out.step HLX.out)).out).mono ?_
    rintro e w1 ⟨rfl, hb1⟩
    have HB1 := Lib.hid (below_nxt HLX.out hb1)
    have HR1 := Lib.hid (HRX.out.step hb1)
    have HX1 := Lib.hid (HBX.out.step hb1)
    have HE1 := Lib.hid (HEX.out.step hb1)
    obtain ⟨x0, x1, x2⟩ := HX1.out
    clear hb1 HRX HBX HEX CB
    go_wp2_with fail
    clear x0 x1 x2
    refine ((CO w1 (HS.out.step HB1.out)).out).mono ?_
    rintro e w2 ⟨g, rfl, hg1, hM, hb2⟩
    have HE2 := Lib.hid (HE1.out.step hb2)
    have HR2 := Lib.hid (HR1.out.step hb2)
    have HB2 := Lib.hid (below_nxt HB1.out hb2)
    have L3 : Below w2.heap.size w2 (w2.alloc (.cells #[.pointer (some ⟨g, 0, none⟩)] 62)) := (Below.refl _ _).alloc (Nat.le_refl _) _
    have HE3 := Lib.hid (HE2.out.step L3)
    have HR3 := Lib.hid (HR2.out.step L3)
    have HB3 := Lib.hid (below_nxt HB2.out L3)
    have HM3 := Lib.hid (hM.step L3)
    have HP3 := Lib.hid (boxV_new w2 (.pointer (some ⟨g, 0, none⟩)) 62)
    have hgw := hM.1
    have hr1 := HR1.out.1
    clear hb2 hM L3 HE2 HR2 HB2 HX1
    go_wp2_with fail
    generalize w2.alloc (.cells #[.pointer (some ⟨g, 0, none⟩)] 62) = X3 at *
    refine (met_each N g (w.heap.size + 1) w2.heap.size (w.heap.size + 1 + 1) _ _ _ _ _ S w X3 hN HM3.out HE3.out HP3.out HR3.out HB3.out (by omega) (by omega) (by omega) (by omega) HU.out HSh2.out).mono ?_
    rintro e w3 ⟨rfl, hm4, hp4, hr4, hb4⟩
    have HM4 := Lib.hid hm4
    have HR4 := Lib.hid hr4
    have HB4 := Lib.hid hb4
    obtain ⟨z0, z1⟩ := hp4
    clear hm4 hr4 hb4 HE3 HP3 HR3 HB3 HM3
    go_wp2_with fail
    refine ((CBo w3 g HM4.out).out).mono ?_
    rintro e w4 ⟨v4, rfl, hV4, hb4⟩
    obtain ⟨ao4, cap4, rfl⟩ := hV4.form
    have HB5 := Lib.hid (below_nxt HB4.out hb4)
    have HR5 := Lib.hid (HR4.out.step hb4)
    have hz3 := HR4.out.1
    have HF5 := Lib.hid hV4
    obtain ⟨k0, k1, k2, k3, k4⟩ := HR5.out
    clear hb4 hV4 CBo
    generalize Bn.bV N (Bn.metM R S) = q9 at *
    obtain ⟨q1, q2, q3⟩ := q9
    dsimp only at *
    go_wp2
    obtain ⟨RW, BW, VW⟩ := fin_valG HR5.out HB5.out (by omega) HF5.out hz3
    generalize ((w4.setCell ⟨w.heap.size + 1 + 1, 0, none⟩ (.int .i64 q1)).setCell ⟨w.heap.size + 1 + 1, 1, none⟩ (.slice ao4 q2.length cap4)) = W2 at *
    obtain ⟨-, t1, t2, -, -⟩ := RW
    exact bodyPost_ret (v := .tuple #[.agg #[.int .i64 q1, .slice ao4 q2.length cap4], .int .i64 q3]) (by simp [results, Try.results24, go_sem, t1, t2]) rfl ⟨_, rfl, VW, BW⟩
  · have hv : Bn.meeV n R m S = (0, [], Bn.twE n R m S) := if_neg h1
    rw [hv]
    clear hv
    go_enter Try.func24, Try.ntmps24
    go_wp2_with fail
    rw [← hX]
    clear x0 x1 x2 y0 y1 y2
    refine ((CB X (HS.out.step HLX.out) (HU.out.step HLX.out)).out).mono ?_
    rintro e w1 ⟨rfl, hb1⟩
    have HB1 := Lib.hid (below_nxt HLX.out hb1)
    have HR1 := Lib.hid (HRX.out.step hb1)
    obtain ⟨r0, r1, r2, r3, r4⟩ := HR1.out
    clear hb1
    go_wp2
    obtain ⟨RW, BW, VW⟩ := fin_nilG HR1.out HB1.out (by omega)
    generalize ((w1.setCell ⟨w.heap.size + 1 + 1, 0, none⟩ (.int .i64 0)).setCell ⟨w.heap.size + 1 + 1, 1, none⟩ (.slice none 0 0)) = W2 at *
    obtain ⟨-, t1, t2, -, -⟩ := RW
    exact bodyPost_ret (v := .tuple #[.agg #[.int .i64 0, .slice none 0 0], .int .i64 (Bn.twE n R m S)]) (by simp [results, Try.results24, go_sem, t1, t2]) rfl ⟨_, rfl, VW, BW⟩
end Go.Proofs.Ytkemicfaiipidaa

