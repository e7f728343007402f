/- Close of package bounds. -/
import Derived.Test.YtkemicfaiipidaaBm
namespace Bn
def cloB (n : Int) (R : List (List Int)) : Int × List (List Int) × Int := Go.Proofs.Ytkemicfaiipidaa.Bn.bV n.toNat (cl n R)
/-- What Close returns but for the cycle: N, the rows, possible, the error. -/
def closV (n : Int) (R : List (List Int)) : Int × List (List Int) × Bool × Int :=
  if chk n R = 0 then (if ok n.toNat (mx R) then ((cloB n R).1, (cloB n R).2.1, (cloB n R).2.2 == 0, (cloB n R).2.2) else (0, [], false, 0)) else (0, [], false, chk n R)
end Bn
namespace Go.Proofs.Ytkemicfaiipidaa
open Go.RowKit

theorem Bn.bV_congr {N : Nat} {m m' : Bn.Mx} (h : ∀ i j, i ≤ N → j ≤ N → m i j = m' i j) : Bn.bV N m = Bn.bV N m' := by
  unfold Bn.bV
  have e : Bn.allB N m = Bn.allB N m' := by
    apply Bn.bool_eq
    rw [Bn.allB_iff, Bn.allB_iff]
    exact ⟨fun g i j hi hj => by rw [← h i j hi hj]; exact g i j hi hj, fun g i j hi hj => by rw [h i j hi hj]; exact g i j hi hj⟩
  rw [e, Bn.rws_congr h]
/-- The box of an argument and the variable of a result. -/
theorem pro2 (w : World) (n : Int) (v : Value) : ∃ X, X = ((w.alloc (.cells #[.int .i64 n, v] 24)).alloc (.cells #[.int .i64 0, .slice none 0 0] 24)) ∧ BoxB X w.heap.size n v ∧ ResI X (w.heap.size + 1) 0 (.slice none 0 0) ∧ Below w.heap.size w X ∧ w.heap.size + 1 + 1 ≤ X.heap.size := by
  refine ⟨_, rfl, ?_⟩
  obtain ⟨B0, L0⟩ := boxB_new w n v 24
  have e0 : (w.alloc (.cells #[.int .i64 n, v] 24)).heap.size = w.heap.size + 1 := by simp
  generalize w.alloc (.cells #[.int .i64 n, v] 24) = Y at *
  have R1 := resI_new Y 0 (.slice none 0 0) 24
  have L1 : Below Y.heap.size Y (Y.alloc (.cells #[.int .i64 0, .slice none 0 0] 24)) := (Below.refl _ _).alloc (Nat.le_refl _) _
  rw [e0] at R1
  exact ⟨B0.step L1, R1, below_nxt L0 L1, by simp [e0]⟩
theorem ValB.nil (w : World) : ValB w (.agg #[.int .i64 0, .slice none 0 0]) 0 [] := ⟨_, rfl, none, 0, rfl, Nat.le_refl _, by omega, fun h => by simp at h⟩
theorem ValB.step {w w' : World} {v : Value} {n : Int} {R : List (List Int)} (h : ValB w v n R) (hb : Below w.heap.size w w') : ValB w' v n R := by
  obtain ⟨u, rfl, hs⟩ := h
  exact ⟨u, rfl, hs.step hb⟩
theorem SeesI.grown {W W' : World} {A : Nat} {v : Value} {l : List Int} (h : SeesI W v l) (hg : W.grownBy W' (some A)) (hne : v.ownBlock ≠ some A) : SeesI W' v l := by
  rcases h with h | ⟨b, off, cap, rfl, h1, h2, h3, h4⟩
  · exact .inl h
  · have hb : b ≠ A := fun e => hne (by rw [e]; rfl)
    exact .inr ⟨b, off, cap, rfl, h1, h2, Nat.lt_of_lt_of_le h3 hg.size, fun i hi => hg.cell (h4 i hi) (by simpa using hb)⟩
/-- What Close leaves. -/
def CloP (n : Int) (R : List (List Int)) (w : World) (e : Ending) (w' : World) : Prop := ∃ v cy l, e = .returned (.tuple #[v, cy, .bool (Bn.closV n R).2.2.1, .int .i64 (Bn.closV n R).2.2.2]) ∧ ValB w' v (Bn.closV n R).1 (Bn.closV n R).2.1 ∧ SeesI w' cy l ∧
  (Bn.chk n R = 0 → Bn.ok n.toNat (Bn.mx R) = false → Bn.Prv n.toNat (Bn.mx R) l) ∧ ((Bn.chk n R ≠ 0 ∨ Bn.ok n.toNat (Bn.mx R) = true) → l = []) ∧ Below w.heap.size w w'

set_option maxHeartbeats 4000000 in
set_option maxRecDepth 100000 in
theorem bClo_any (n : Int) (v : Value) (R : List (List Int)) (w : World) (hs : SeesR w v R) :
    Calls Try.prog 21 #[.agg #[.int .i64 n, v]] w (CloP n R w) := by
  have CC := fun W (h : SeesR W v R) => Lib.hid (bChk_any n v R W h)
  have HS := Lib.hid hs
  obtain ⟨ao, cap, rfl, hcap1, hcap2, -⟩ := hs
  obtain ⟨X, hX, hBX, hRX, hLX, hZX⟩ := pro2 w n (.slice ao R.length cap)
  have HBX := Lib.hid hBX
  have HRX := Lib.hid hRX
  have HLX := Lib.hid hLX
  have HSX := Lib.hid (HS.out.step hLX)
  clear hBX hRX hLX
  by_cases h1 : Bn.chk n R = 0
  · obtain ⟨N, rfl, hN, hSh, hR⟩ := Bn.chk_ok h1
    have hz : (N : Int).toNat = N := by simp
    have CO := fun W (h : SeesR W (.slice ao R.length cap) R) => Lib.hid (bOf_any N _ R W hN hSh h)
    have CCl := fun W g (h : MtxI W g N (Bn.sq N (Bn.mx R) Bn.zer)) => Lib.hid (bClose_any N g (Bn.mx R) _ W hR h (fun i j hi hj => Bn.sq_in hi hj))
    have h1c := h1
    rw [h1] at CC
    cases hok : Bn.ok N (Bn.mx R) <;> rw [hok] at CCl
    · have CCy := fun W g (h : MtxI W g N (Bn.sq N (Bn.mx R) Bn.zer)) => Lib.hid (bCycle_any N g (Bn.mx R) _ W hR hok h (fun i j hi hj => Bn.sq_in hi hj))
      have hv : Bn.closV N R = (0, [], false, 0) := by unfold Bn.closV; rw [if_pos h1c, hz, hok]; rfl
      have HV := Lib.hid hv
      have HOK := Lib.hid hok
      have H1 := Lib.hid h1c
      clear hv hok h1 h1c hz
      go_enter Try.func21, Try.ntmps21
      go_wp2_with fail
      rw [← hX]
      clear hX
      refine ((CC _ HSX.out).out).mono ?_
      rintro e w1 ⟨rfl, hb1⟩
      have HB1 := Lib.hid (below_nxt HLX.out hb1)
      have HS1 := Lib.hid (HSX.out.step hb1)
      have HR1 := Lib.hid (HRX.out.step hb1)
      have HBx := Lib.hid (HBX.out.step hb1)
      have hz1 := hb1.size
      obtain ⟨b0, b1, b2⟩ := HBx.out
      clear hb1 HSX HRX HBX HLX
      go_wp2_with fail
      refine ((CO w1 (HS.out.step HB1.out)).out).mono ?_
      rintro e w2 ⟨g, rfl, hg1, hg2, hb2⟩
      have HB2 := Lib.hid (below_nxt HB1.out hb2)
      have HG2 := Lib.hid hg2
      have HR2 := Lib.hid (HR1.out.step hb2)
      have HBx2 := Lib.hid (HBx.out.step hb2)
      have hg3 := hg2.1
      have hgw : w.heap.size + 1 < g := by have := HR1.out.1; omega
      clear hb2 hg2
      go_wp2_with fail
      refine ((CCl w2 _ HG2.out).out).mono ?_
      rintro e w3 ⟨rfl, -, hc2⟩
      have HB3 := Lib.hid (HB2.out.trans (below_grown hc2 HB2.out.size (by omega)))
      have HR3 := Lib.hid (HR2.out.grown hc2 (by omega))
      have HBx3 := Lib.hid (HBx2.out.grown hc2 (by omega))
      obtain ⟨c0, c1, c2⟩ := HBx3.out
      clear hc2 b0 b1 b2
      go_wp2_with fail
      refine ((CO w3 (HS.out.step HB3.out)).out).mono ?_
      rintro e w4 ⟨g4, rfl, hg41, hg42, hb4⟩
      have HB4 := Lib.hid (below_nxt HB3.out hb4)
      have HG4 := Lib.hid hg42
      have HR4 := Lib.hid (HR3.out.step hb4)
      clear hb4 hg42 c0 c1 c2
      go_wp2_with fail
      refine ((CCy w4 _ HG4.out).out).mono ?_
      rintro e w5 ⟨cv, l, rfl, hsl, hob, hpr, hb5⟩
      have HB5 := Lib.hid (below_nxt HB4.out hb5)
      have HR5 := Lib.hid (HR4.out.step hb5)
      have HSL := Lib.hid hsl
      have HPR := Lib.hid hpr
      have HOB := Lib.hid hob
      have hz4 := HR4.out.1
      obtain ⟨r0, r1, r2, r3, r4⟩ := HR5.out
      clear hb5 hsl hpr hob
      go_wp2
      have RW := HR5.out.put 0 (.slice none 0 0)
      have BW : Below w.heap.size w ((w5.setCell ⟨w.heap.size + 1, 0, none⟩ (.int .i64 0)).setCell ⟨w.heap.size + 1, 1, none⟩ (.slice none 0 0)) := (HB5.out.setCell (p := ⟨w.heap.size + 1, 0, none⟩) (by simp) _).setCell (p := ⟨w.heap.size + 1, 1, none⟩) (by simp) _
      have GW : w5.grownBy ((w5.setCell ⟨w.heap.size + 1, 0, none⟩ (.int .i64 0)).setCell ⟨w.heap.size + 1, 1, none⟩ (.slice none 0 0)) (some (w.heap.size + 1)) := grown_set (grown_set (grown_refl _ _))
      have SW := HSL.out.grown GW (fun e => by have := HOB.out _ e; omega)
      generalize ((w5.setCell ⟨w.heap.size + 1, 0, none⟩ (.int .i64 0)).setCell ⟨w.heap.size + 1, 1, none⟩ (.slice none 0 0)) = W2 at *
      obtain ⟨-, t1, t2, -, -⟩ := RW
      exact bodyPost_ret (v := .tuple #[.agg #[.int .i64 0, .slice none 0 0], cv, .bool false, .int .i64 0]) (by simp [results, Try.results21, go_sem, t1, t2]) rfl ⟨_, _, l, by rw [HV.out], by rw [HV.out]; exact ValB.nil _, SW, fun _ _ => HPR.out, fun h => (by
        rcases h with h | h
        · exact absurd H1.out h
        · have := HOK.out; rw [Int.toNat_natCast, this] at h; cases h), BW⟩
    · have CBo := fun W g u (h : MtxI W g N u) (hu : ∀ i j, i ≤ N → j ≤ N → u i j = Bn.clo N (Bn.mx R) i j) => Lib.hid (show Calls Try.prog 34 #[.pointer (some ⟨g, 0, none⟩)] W fun e w' => ∃ v, e = .returned (.tuple #[v, .int .i64 (Bn.cloB N R).2.2]) ∧ ValF W.heap.size w' v (Bn.cloB N R).1 (Bn.cloB N R).2.1 ∧ Below W.heap.size W w' by
        have := bBnds_any N g u W hN h
        rw [Bn.bV_congr hu] at this
        exact this)
      have hv : Bn.closV N R = ((Bn.cloB N R).1, (Bn.cloB N R).2.1, (Bn.cloB N R).2.2 == 0, (Bn.cloB N R).2.2) := by unfold Bn.closV; rw [if_pos h1c, hz, hok]; rfl
      have HV := Lib.hid hv
      have HOK := Lib.hid hok
      have H1 := Lib.hid h1c
      clear hv hok h1 h1c hz
      go_enter Try.func21, Try.ntmps21
      go_wp2_with fail
      rw [← hX]
      clear hX
      refine ((CC _ HSX.out).out).mono ?_
      rintro e w1 ⟨rfl, hb1⟩
      have HB1 := Lib.hid (below_nxt HLX.out hb1)
      have HR1 := Lib.hid (HRX.out.step hb1)
      have HBx := Lib.hid (HBX.out.step hb1)
      have hz1 := hb1.size
      obtain ⟨b0, b1, b2⟩ := HBx.out
      clear hb1 HSX HRX HBX HLX
      go_wp2_with fail
      refine ((CO w1 (HS.out.step HB1.out)).out).mono ?_
      rintro e w2 ⟨g, rfl, hg1, hg2, hb2⟩
      have HB2 := Lib.hid (below_nxt HB1.out hb2)
      have HG2 := Lib.hid hg2
      have HR2 := Lib.hid (HR1.out.step hb2)
      have hg3 := hg2.1
      have hgw : w.heap.size + 1 < g := by have := HR1.out.1; omega
      clear hb2 hg2 b0 b1 b2
      go_wp2_with fail
      refine ((CCl w2 _ HG2.out).out).mono ?_
      rintro e w3 ⟨rfl, hc1, hc2⟩
      obtain ⟨u', hm3, hu3⟩ := hc1 trivial
      have HB3 := Lib.hid (HB2.out.trans (below_grown hc2 HB2.out.size (by omega)))
      have HR3 := Lib.hid (HR2.out.grown hc2 (by omega))
      have HM3 := Lib.hid hm3
      have HU3 := Lib.hid hu3
      clear hc1 hc2 hm3 hu3
      go_wp2_with fail
      refine ((CBo w3 g u' HM3.out HU3.out).out).mono ?_
      rintro e w4 ⟨v4, rfl, ⟨⟨u4, rfl, hs4⟩, hF4⟩, hb4⟩
      have HB4 := Lib.hid (below_nxt HB3.out hb4)
      have HR4 := Lib.hid (HR3.out.step hb4)
      have hz3 := HR3.out.1
      obtain ⟨ao4, cap4, rfl, -⟩ := hs4
      have HF4 := Lib.hid hF4
      clear hb4 hF4 CC CO CCl CBo
      generalize Bn.cloB N R = q at *
      obtain ⟨q1, q2, q3⟩ := q
      dsimp only at *
      obtain ⟨r0, r1, r2, r3, r4⟩ := HR4.out
      go_wp2
      have RW := (HR4.out.put q1 (.slice ao4 q2.length cap4)).step ((Below.refl _ _).alloc (Nat.le_refl _) (.cells #[.int .i64 q1, .slice ao4 q2.length cap4] 24))
      have BW : Below w.heap.size w (((w4.setCell ⟨w.heap.size + 1, 0, none⟩ (.int .i64 q1)).setCell ⟨w.heap.size + 1, 1, none⟩ (.slice ao4 q2.length cap4)).alloc (.cells #[.int .i64 q1, .slice ao4 q2.length cap4] 24)) := Below.alloc ((HB4.out.setCell (p := ⟨w.heap.size + 1, 0, none⟩) (by simp) _).setCell (p := ⟨w.heap.size + 1, 1, none⟩) (by simp) _) (by simpa [World.setCell] using HB4.out.size) _
      have GW : w4.grownBy (((w4.setCell ⟨w.heap.size + 1, 0, none⟩ (.int .i64 q1)).setCell ⟨w.heap.size + 1, 1, none⟩ (.slice ao4 q2.length cap4)).alloc (.cells #[.int .i64 q1, .slice ao4 q2.length cap4] 24)) (some (w.heap.size + 1)) := grown_alloc (grown_set (grown_set (grown_refl _ _))) _
      have VW := HF4.out _ (w.heap.size + 1) hz3 GW
      generalize (((w4.setCell ⟨w.heap.size + 1, 0, none⟩ (.int .i64 q1)).setCell ⟨w.heap.size + 1, 1, none⟩ (.slice ao4 q2.length cap4)).alloc (.cells #[.int .i64 q1, .slice ao4 q2.length cap4] 24)) = W2 at *
      obtain ⟨-, t1, t2, -, -⟩ := RW
      exact bodyPost_ret (v := .tuple #[.agg #[.int .i64 q1, .slice ao4 q2.length cap4], .slice none 0 0, .bool (q3 == 0), .int .i64 q3]) (by simp [results, Try.results21, go_sem, t1, t2]) rfl ⟨_, _, [], by rw [HV.out], by rw [HV.out]; exact VW, SeesI.nil _, fun _ h => (by
        have := HOK.out; rw [Int.toNat_natCast, this] at h; cases h), fun _ => rfl, BW⟩
  · have hv : Bn.closV n R = (0, [], false, Bn.chk n R) := if_neg h1
    have HV := Lib.hid hv
    have H1 := Lib.hid h1
    clear hv
    go_enter Try.func21, Try.ntmps21
    go_wp2_with fail
    rw [← hX]
    clear hX
    refine ((CC _ HSX.out).out).mono ?_
    rintro e w1 ⟨rfl, hb1⟩
    have HB1 := Lib.hid (below_nxt HLX.out hb1)
    have HR1 := Lib.hid (HRX.out.step hb1)
    obtain ⟨r0, r1, r2, r3, r4⟩ := HR1.out
    clear hb1 HSX HRX HBX HLX
    go_wp2
    have RW := HR1.out.put 0 (.slice none 0 0)
    have BW : Below w.heap.size w ((w1.setCell ⟨w.heap.size + 1, 0, none⟩ (.int .i64 0)).setCell ⟨w.heap.size + 1, 1, none⟩ (.slice none 0 0)) := (HB1.out.setCell (p := ⟨w.heap.size + 1, 0, none⟩) (by simp) _).setCell (p := ⟨w.heap.size + 1, 1, none⟩) (by simp) _
    generalize ((w1.setCell ⟨w.heap.size + 1, 0, none⟩ (.int .i64 0)).setCell ⟨w.heap.size + 1, 1, none⟩ (.slice none 0 0)) = W2 at *
    obtain ⟨-, t1, t2, -, -⟩ := RW
    exact bodyPost_ret (v := .tuple #[.agg #[.int .i64 0, .slice none 0 0], .slice none 0 0, .bool false, .int .i64 (Bn.chk n R)]) (by simp [results, Try.results21, go_sem, t1, t2]) rfl ⟨_, _, [], by rw [HV.out], by rw [HV.out]; exact ValB.nil _, SeesI.nil _, fun h => absurd h H1.out, fun _ => rfl, BW⟩
end Go.Proofs.Ytkemicfaiipidaa

