/- Add and Verify of package bounds. -/
import Derived.Test.YtkemicfaiipidaaBn
namespace Bn
def addM (R : List (List Int)) (i j : Nat) (most : Int) : Mx := up (mx R) i j (mn (mx R i j) most)
/-- What Add returns. -/
def addV (n : Int) (R : List (List Int)) (i j most : Int) : Int × List (List Int) × Int :=
  if cix n R 0 [i, j] = 0 then (if i = j then (0, [], 1) else (if num most then Go.Proofs.Ytkemicfaiipidaa.Bn.bV n.toNat (addM R i.toNat j.toNat most) else (0, [], 2))) else (0, [], cix n R 0 [i, j])
/-- The bound behind the index at a place, from the one before. -/
def edg (R : List (List Int)) (l : List Int) (k : Nat) : Int := mx R (if k = 0 then l.getD (l.length - 1) 0 else l.getD (k - 1) 0).toNat (l.getD k 0).toNat
def noE (R : List (List Int)) (l : List Int) (k : Nat) : Bool := (List.range k).all fun q => edg R l q != -1099511627776
def totE (R : List (List Int)) (l : List Int) : Nat → Int
  | 0 => 0
  | k + 1 => totE R l k + edg R l k
def prvs (R : List (List Int)) (l : List Int) : Bool := noE R l l.length && decide (totE R l l.length < 0)
/-- What Verify returns. -/
def verV (n : Int) (R : List (List Int)) (l : List Int) : Bool × Int := if cix n R 0 l = 0 then (if l = [] then (false, 13) else (prvs R l, 0)) else (false, cix n R 0 l)
end Bn
namespace Go.Proofs.Ytkemicfaiipidaa
open Go.RowKit

theorem ValF.form {B : Nat} {w : World} {v : Value} {n : Int} {R : List (List Int)} (h : ValF B w v n R) : ∃ ao cap, v = .agg #[.int .i64 n, .slice ao R.length cap] := by
  obtain ⟨⟨u, rfl, ao, cap, rfl, _⟩, _⟩ := h
  exact ⟨ao, cap, rfl⟩
/-- A result that is stored. -/
theorem fin_val {w W : World} {h B k cap : Nat} {q1 a : Int} {b : Value} {ao : Option Addr} {R : List (List Int)} (hR : ResI W (h + 1) a b) (hB : Below h w W) (hF : ValF B W (.agg #[.int .i64 q1, .slice ao k cap]) q1 R) (hb : h + 1 < B) :
    ResI ((W.setCell ⟨h + 1, 0, none⟩ (.int .i64 q1)).setCell ⟨h + 1, 1, none⟩ (.slice ao k cap)) (h + 1) q1 (.slice ao k cap) ∧
    Below h w ((W.setCell ⟨h + 1, 0, none⟩ (.int .i64 q1)).setCell ⟨h + 1, 1, none⟩ (.slice ao k cap)) ∧ ValB ((W.setCell ⟨h + 1, 0, none⟩ (.int .i64 q1)).setCell ⟨h + 1, 1, none⟩ (.slice ao k cap)) (.agg #[.int .i64 q1, .slice ao k cap]) q1 R :=
  ⟨hR.put _ _, (hB.setCell (p := ⟨h + 1, 0, none⟩) (by simp) _).setCell (p := ⟨h + 1, 1, none⟩) (by simp) _, hF.2 _ (h + 1) hb (grown_set (grown_set (grown_refl _ _)))⟩
theorem fin_nil {w W : World} {h : Nat} {a : Int} {b : Value} (hR : ResI W (h + 1) a b) (hB : Below h w W) :
    ResI ((W.setCell ⟨h + 1, 0, none⟩ (.int .i64 0)).setCell ⟨h + 1, 1, none⟩ (.slice none 0 0)) (h + 1) 0 (.slice none 0 0) ∧
    Below h w ((W.setCell ⟨h + 1, 0, none⟩ (.int .i64 0)).setCell ⟨h + 1, 1, none⟩ (.slice none 0 0)) ∧ ValB ((W.setCell ⟨h + 1, 0, none⟩ (.int .i64 0)).setCell ⟨h + 1, 1, none⟩ (.slice none 0 0)) (.agg #[.int .i64 0, .slice none 0 0]) 0 [] :=
  ⟨hR.put _ _, (hB.setCell (p := ⟨h + 1, 0, none⟩) (by simp) _).setCell (p := ⟨h + 1, 1, none⟩) (by simp) _, ValB.nil _⟩
/-- What a function leaves that returns bounds and an error. -/
def RetB (q : Int × List (List Int) × Int) (w : World) (e : Ending) (w' : World) : Prop := ∃ v, e = .returned (.tuple #[v, .int .i64 q.2.2]) ∧ ValB w' v q.1 q.2.1 ∧ Below w.heap.size w w'

set_option maxHeartbeats 4000000 in
set_option maxRecDepth 100000 in
theorem bAdd_any (n i j most : Int) (v : Value) (R : List (List Int)) (w : World) (hs : SeesR w v R) :
    Calls Try.prog 11 #[.agg #[.int .i64 n, v], .int .i64 i, .int .i64 j, .int .i64 most] w (RetB (Bn.addV n R i j most) w) := by
  have CC := fun W il (h : SeesR W v R) (h2 : SeeI W il [i, j]) => Lib.hid (bCix_any n 0 v il R [i, j] W h h2)
  have CN := fun W => Lib.hid (bNum_any most W)
  have HS := Lib.hid hs
  obtain ⟨ao, cap, rfl, hcap1, hcap2, -⟩ := hs
  obtain ⟨X, hX, hBX, hRX, hLX, hZX⟩ := pro2 w n (.slice ao R.length cap)
  have LA : Below X.heap.size X (X.alloc (.cells #[.int .i64 i, .int .i64 j] 3)) := (Below.refl _ _).alloc (Nat.le_refl _) _
  have HSI := Lib.hid (SeeI.two X i j 3)
  have HBX := Lib.hid (hBX.step LA)
  have HRX := Lib.hid (hRX.step LA)
  have HLX := Lib.hid (below_nxt hLX LA)
  obtain ⟨x0, x1, x2⟩ := hBX
  rw [hX] at x0 x1 x2
  have hsz : ((w.alloc (.cells #[.int .i64 n, .slice ao R.length cap] 24)).alloc (.cells #[.int .i64 0, .slice none 0 0] 24)).heap.size = X.heap.size := by rw [hX]
  clear hRX hLX LA
  by_cases h1 : Bn.cix n R 0 [i, j] = 0
  · obtain ⟨h2, h3⟩ := Bn.cix_chk h1
    obtain ⟨N, rfl, hN, hSh, hR⟩ := Bn.chk_ok h2
    have hii : Bn.idx 0 N i = true ∧ Bn.idx 0 N j = true := by simpa using h3
    obtain ⟨hi1, hi2⟩ := Bn.idx_iff.1 hii.1
    obtain ⟨hj1, hj2⟩ := Bn.idx_iff.1 hii.2
    obtain ⟨a, rfl⟩ := Int.eq_ofNat_of_zero_le hi1
    obtain ⟨b, rfl⟩ := Int.eq_ofNat_of_zero_le hj1
    have hv : Bn.addV N R a b most = if ((a : Int) = (b : Int)) then (0, [], 1) else (if Bn.num most then Bn.bV N (Bn.addM R a b most) else (0, [], 2)) := by unfold Bn.addV; rw [if_pos h1]; simp
    have CO := fun W (h : SeesR W (.slice ao R.length cap) R) => Lib.hid (bOf_any N _ R W hN hSh h)
    have CL := fun W g (h : MtxI W g N (Bn.sq N (Bn.mx R) Bn.zer)) => Lib.hid (show Calls Try.prog 39 #[.pointer (some ⟨g, 0, none⟩), .int .i64 (a : Int), .int .i64 (b : Int), .int .i64 most] W fun e w' => e = .returned (.tuple #[]) ∧ W.grownBy w' (some g) ∧ ∃ u, MtxI w' g N u ∧ ∀ x y, x ≤ N → y ≤ N → u x y = Bn.addM R a b most x y by
      refine (bLower_any g a b N most _ W (by omega) (by omega) h).mono ?_
      rintro e w' ⟨rfl, h1, h2⟩
      refine ⟨rfl, h1, _, h2, fun x y hx hy => ?_⟩
      rw [Bn.sq_in (show a ≤ N by omega) (show b ≤ N by omega)]
      unfold Bn.addM Bn.up
      split
      · rfl
      · exact Bn.sq_in hx hy)
    have CBo := fun W g u (h : MtxI W g N u) (hu : ∀ i j, i ≤ N → j ≤ N → u i j = Bn.addM R a b most i j) => Lib.hid (show Calls Try.prog 34 #[.pointer (some ⟨g, 0, none⟩)] W fun e w' => ∃ v, e = .returned (.tuple #[v, .int .i64 (Bn.bV N (Bn.addM R a b most)).2.2]) ∧ ValF W.heap.size w' v (Bn.bV N (Bn.addM R a b most)).1 (Bn.bV N (Bn.addM R a b most)).2.1 ∧ Below W.heap.size W w' by
      have := bBnds_any N g u W hN h
      rw [Bn.bV_congr hu] at this
      exact this)
    rw [h1] at CC
    rw [hv]
    clear h1 h2 h3 hii hv hi1 hi2 hj1 hj2
    by_cases hab : (a : Int) = (b : Int)
    · obtain rfl : a = b := by omega
      rw [if_pos rfl]
      clear hab
      go_enter Try.func11, Try.ntmps11
      go_wp2_with fail
      rw [← hX]
      try rw [hsz]
      refine ((CC _ _ (HS.out.step HLX.out) HSI.out).out).mono ?_
      rintro e w1 ⟨rfl, hb1⟩
      have HB1 := Lib.hid (below_nxt HLX.out hb1)
      have HR1 := Lib.hid (HRX.out.step hb1)
      have HBx1 := Lib.hid (HBX.out.step hb1)
      obtain ⟨r0, r1, r2, r3, r4⟩ := HR1.out
      clear hb1 HRX HBX HLX
      go_wp2
      obtain ⟨RW, BW, VW⟩ := fin_nil HR1.out HB1.out
      generalize ((w1.setCell ⟨w.heap.size + 1, 0, none⟩ (.int .i64 0)).setCell ⟨w.heap.size + 1, 1, none⟩ (.slice none 0 0)) = W2 at *
      obtain ⟨-, t1, t2, -, -⟩ := RW
      exact bodyPost_ret (v := .tuple #[.agg #[.int .i64 0, .slice none 0 0], .int .i64 1]) (by simp [results, Try.results11, go_sem, t1, t2]) rfl ⟨_, rfl, VW, BW⟩
    · rw [if_neg hab]
      have hab2 : ¬ a = b := fun e => hab (by rw [e])
      cases hnm : Bn.num most <;> rw [hnm] at CN
      · rw [if_neg (by simp)]
        go_enter Try.func11, Try.ntmps11
        go_wp2_with fail
        rw [← hX]
        try rw [hsz]
        refine ((CC _ _ (HS.out.step HLX.out) HSI.out).out).mono ?_
        rintro e w1 ⟨rfl, hb1⟩
        have HB1 := Lib.hid (below_nxt HLX.out hb1)
        have HR1 := Lib.hid (HRX.out.step hb1)
        have HBx1 := Lib.hid (HBX.out.step hb1)
        obtain ⟨r0, r1, r2, r3, r4⟩ := HR1.out
        clear hb1 HRX HBX HLX
        go_wp2_with (go_at_call 37; refine ((CN _).out).mono ?_; rintro e w9 ⟨rfl, h9⟩; rw [h9]; clear h9)
        obtain ⟨RW, BW, VW⟩ := fin_nil HR1.out HB1.out
        generalize ((w1.setCell ⟨w.heap.size + 1, 0, none⟩ (.int .i64 0)).setCell ⟨w.heap.size + 1, 1, none⟩ (.slice none 0 0)) = W2 at *
        obtain ⟨-, t1, t2, -, -⟩ := RW
        exact bodyPost_ret (v := .tuple #[.agg #[.int .i64 0, .slice none 0 0], .int .i64 2]) (by simp [results, Try.results11, go_sem, t1, t2]) rfl ⟨_, rfl, VW, BW⟩
      · rw [if_pos rfl]
        go_enter Try.func11, Try.ntmps11
        go_wp2_with fail
        rw [← hX]
        try rw [hsz]
        refine ((CC _ _ (HS.out.step HLX.out) HSI.out).out).mono ?_
        rintro e w1 ⟨rfl, hb1⟩
        have HB1 := Lib.hid (below_nxt HLX.out hb1)
        have HR1 := Lib.hid (HRX.out.step hb1)
        have HBx1 := Lib.hid (HBX.out.step hb1)
        obtain ⟨r0, r1, r2, r3, r4⟩ := HR1.out
        clear hb1 HRX HBX HLX
        obtain ⟨c0, c1, c2⟩ := HBx1.out
        go_wp2_with (first
          | (go_at_call 37; refine ((CN _).out).mono ?_; rintro e w9 ⟨rfl, h9⟩; rw [h9]; clear h9)
          | (go_at_call 38; refine ((CO w1 (HS.out.step HB1.out)).out).mono ?_; rintro e w2 ⟨g, rfl, hg1, hg2, hb2⟩; have HB2 := Lib.hid (below_nxt HB1.out hb2); have HG2 := Lib.hid hg2; have HR2 := Lib.hid (HR1.out.step hb2); clear hb2 hg2)
          | (go_at_call 39; refine ((CL w2 g HG2.out).out).mono ?_; rintro e w3 ⟨rfl, hg3, u, hm3, hu3⟩; have HB3 := Lib.hid (HB2.out.trans (below_grown hg3 HB2.out.size (by omega))); have HR3 := Lib.hid (HR2.out.grown hg3 (by omega)); have HM3 := Lib.hid hm3; have HU3 := Lib.hid hu3; clear hg3 hm3 hu3))
        refine ((CBo w3 g u HM3.out HU3.out).out).mono ?_
        rintro e w4 ⟨v4, rfl, hV4, hb4⟩
        obtain ⟨ao4, cap4, rfl⟩ := hV4.form
        have HB4 := Lib.hid (below_nxt HB3.out hb4)
        have HR4 := Lib.hid (HR3.out.step hb4)
        have hz3 := HR3.out.1
        have HF4 := Lib.hid hV4
        obtain ⟨k0, k1, k2, k3, k4⟩ := HR4.out
        clear hb4 hV4 CC CO CL CBo
        generalize Bn.bV N (Bn.addM R a b most) = q at *
        obtain ⟨q1, q2, q3⟩ := q
        dsimp only at *
        go_wp2
        obtain ⟨RW, BW, VW⟩ := fin_val HR4.out HB4.out HF4.out hz3
        generalize ((w4.setCell ⟨w.heap.size + 1, 0, none⟩ (.int .i64 q1)).setCell ⟨w.heap.size + 1, 1, none⟩ (.slice ao4 q2.length cap4)) = W2 at *
        obtain ⟨-, t1, t2, -, -⟩ := RW
        exact bodyPost_ret (v := .tuple #[.agg #[.int .i64 q1, .slice ao4 q2.length cap4], .int .i64 q3]) (by simp [results, Try.results11, go_sem, t1, t2]) rfl ⟨_, rfl, VW, BW⟩
  · have hv : Bn.addV n R i j most = (0, [], Bn.cix n R 0 [i, j]) := if_neg h1
    rw [hv]
    clear hv
    go_enter Try.func11, Try.ntmps11
    go_wp2_with fail
    rw [← hX]
    try rw [hsz]
    refine ((CC _ _ (HS.out.step HLX.out) HSI.out).out).mono ?_
    rintro e w1 ⟨rfl, hb1⟩
    have HB1 := Lib.hid (below_nxt HLX.out hb1)
    have HR1 := Lib.hid (HRX.out.step hb1)
    have HBx1 := Lib.hid (HBX.out.step hb1)
    obtain ⟨r0, r1, r2, r3, r4⟩ := HR1.out
    clear hb1 HRX HBX HLX
    go_wp2
    obtain ⟨RW, BW, VW⟩ := fin_nil HR1.out HB1.out
    generalize ((w1.setCell ⟨w.heap.size + 1, 0, none⟩ (.int .i64 0)).setCell ⟨w.heap.size + 1, 1, none⟩ (.slice none 0 0)) = W2 at *
    obtain ⟨-, t1, t2, -, -⟩ := RW
    exact bodyPost_ret (v := .tuple #[.agg #[.int .i64 0, .slice none 0 0], .int .i64 (Bn.cix n R 0 [i, j])]) (by simp [results, Try.results11, go_sem, t1, t2]) rfl ⟨_, rfl, VW, BW⟩
end Go.Proofs.Ytkemicfaiipidaa

