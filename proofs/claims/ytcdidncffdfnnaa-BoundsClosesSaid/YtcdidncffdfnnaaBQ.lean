/- Closed of the reference. -/
import Derived.Test.YtcdidncffdfnnaaBP
namespace Go.Proofs.Ytcdidncffdfnnaa
open Go.RowKit
/-- What Closed leaves. -/
def CldP (n : Int) (R : List (List Int)) (w : World) (e : Ending) (w' : World) : Prop := ∃ v, e = .returned (.tuple #[v, .bool (Bn.closV n R).2.2.1, .int .i64 (Bn.closV n R).2.2.2]) ∧ ValB w' v (Bn.closV n R).1 (Bn.closV n R).2.1 ∧ Below w.heap.size w w'
set_option maxHeartbeats 8000000 in
set_option maxRecDepth 100000 in
theorem rCld_any (n : Int) (v : Value) (R : List (List Int)) (w : World) (hs : SeesR w v R) :
    Calls Try.prog 32 #[.agg #[.int .i64 n, v]] w (CldP n R w) := by
  have CC := fun W (h : SeesR W v R) => Lib.hid (rChk_any n v R W h)
  have HS := Lib.hid hs
  obtain ⟨ao, cap, rfl, hcap1, hcap2, -⟩ := hs
  obtain ⟨X, hX, hBX, hRX, hLX, hZX⟩ := pro2 w n (.slice ao R.length cap)
  have HBX := Lib.hid hBX
  have HRX := Lib.hid hRX
  have HLX := Lib.hid hLX
  obtain ⟨x0, x1, x2⟩ := hBX
  rw [hX] at x0 x1 x2
  clear hRX hLX
  by_cases h1 : Bn.chk n R = 0
  · obtain ⟨N, rfl, hN, hSh, hR⟩ := Bn.chk_ok h1
    have CPo := fun W (h : SeesR W (.slice ao R.length cap) R) => Lib.hid (rPoss_any N _ R W hSh hR h)
    rw [h1] at CC
    cases hok : Bn.ok N (Bn.mx R) <;> rw [hok] at CPo
    · have hv : Bn.closV N R = (0, [], false, 0) := by unfold Bn.closV; rw [if_pos h1]; simp [hok]
      unfold CldP
      rw [hv]
      clear hv h1 hok
      go_enter Try.func32, Try.ntmps32
      go_wp2_with fail
      rw [← hX]
      clear x0 x1 x2
      refine ((CC X (HS.out.step HLX.out)).out).mono ?_
      rintro e w1 ⟨rfl, hb1⟩
      have HB1 := Lib.hid (below_nxt HLX.out hb1)
      have HR1 := Lib.hid (HRX.out.step hb1)
      have HX1 := Lib.hid (HBX.out.step hb1)
      obtain ⟨x0, x1, x2⟩ := HX1.out
      clear hb1
      go_wp2_with fail
      clear x0 x1 x2
      refine ((CPo w1 (HS.out.step HB1.out)).out).mono ?_
      rintro e w2 ⟨rfl, hb2⟩
      have HB2 := Lib.hid (below_nxt HB1.out hb2)
      have HR2 := Lib.hid (HR1.out.step hb2)
      obtain ⟨r0, r1, r2, r3, r4⟩ := HR2.out
      clear hb2
      go_wp2
      obtain ⟨RW, BW, VW⟩ := fin_nil HR2.out HB2.out
      generalize ((w2.setCell ⟨w.heap.size + 1, 0, none⟩ (.int .i64 0)).setCell ⟨w.heap.size + 1, 1, none⟩ (.slice none 0 0)) = W2 at *
      obtain ⟨-, t1, t2, -, -⟩ := RW
      exact bodyPost_ret (v := .tuple #[.agg #[.int .i64 0, .slice none 0 0], .bool false, .int .i64 0]) (by simp [results, Try.results32, go_sem, t1, t2]) rfl ⟨_, rfl, VW, BW⟩
    · have CP := fun W (h : SeesR W (.slice ao R.length cap) R) => Lib.hid (rPaths_any N _ R W hSh hR h)
      have CK := fun W v (h : OwnB X.heap.size W v N (Bn.pr N (Bn.mx R) (N + 1))) => Lib.hid (show Calls Try.prog 78 #[v] W fun e w' => ∃ u, e = .returned (.tuple #[u, .int .i64 (Bn.closV N R).2.2.2]) ∧ ValF X.heap.size w' u (Bn.closV N R).1 (Bn.closV N R).2.1 ∧ Below W.heap.size W w' by
        have hv : Bn.closV N R = ((Bn.cloB N R).1, (Bn.cloB N R).2.1, (Bn.cloB N R).2.2 == 0, (Bn.cloB N R).2.2) := by unfold Bn.closV; rw [if_pos h1]; simp [hok]
        have he : Bn.cloB N R = Bn.bV N (Bn.pr N (Bn.mx R) (N + 1)) := by
          unfold Bn.cloB
          rw [Int.toNat_natCast]
          exact Bn.bV_congr fun i j hi hj => (Bn.pr_cl hR hok hi hj).symm
        rw [hv, he]
        have hs2 : ∃ u, v = .agg #[.int .i64 (N : Int), u] ∧ SeesR W u (Bn.rws N (Bn.pr N (Bn.mx R) (N + 1))) := h.val
        obtain ⟨u, rfl, hs3⟩ := hs2
        exact (rCkd_any N u _ W hs3).mono fun e w' hp => hp.val h)
      have hq : (Bn.closV N R).2.2.1 = ((Bn.closV N R).2.2.2 == 0) := by unfold Bn.closV; rw [if_pos h1]; simp [hok]
      unfold CldP
      clear h1 hok
      generalize Bn.closV N R = q at *
      obtain ⟨q1, q2, q3, q4⟩ := q
      dsimp only at *
      subst hq
      go_enter Try.func32, Try.ntmps32
      go_wp2_with fail
      rw [← hX]
      clear x0 x1 x2
      refine ((CC X (HS.out.step HLX.out)).out).mono ?_
      rintro e w1 ⟨rfl, hb1⟩
      have HB1 := Lib.hid (below_nxt HLX.out hb1)
      have HR1 := Lib.hid (HRX.out.step hb1)
      have HX1 := Lib.hid (HBX.out.step hb1)
      have hs1 := hb1.size
      obtain ⟨x0, x1, x2⟩ := HX1.out
      clear hb1
      go_wp2_with fail
      clear x0 x1 x2
      refine ((CPo w1 (HS.out.step HB1.out)).out).mono ?_
      rintro e w2 ⟨rfl, hb2⟩
      have HB2 := Lib.hid (below_nxt HB1.out hb2)
      have HR2 := Lib.hid (HR1.out.step hb2)
      have HX2 := Lib.hid (HX1.out.step hb2)
      have hs2 := hb2.size
      obtain ⟨x0, x1, x2⟩ := HX2.out
      clear hb2
      go_wp2_with fail
      clear x0 x1 x2
      refine ((CP w2 (HS.out.step HB2.out)).out).mono ?_
      rintro e w3 ⟨v3, rfl, hO, hb3⟩
      have HB3 := Lib.hid (below_nxt HB2.out hb3)
      have HR3 := Lib.hid (HR2.out.step hb3)
      have HO : Hid (OwnB X.heap.size w3 v3 N (Bn.pr N (Bn.mx R) (N + 1))) := Lib.hid (by
        obtain ⟨A, cp, f, c, h2, h3, h4, h5⟩ := hO
        exact ⟨A, cp, f, c, h2, h3, h4, h5.mono (by omega)⟩)
      clear hb3 hO
      go_wp2_with fail
      refine ((CK w3 v3 HO.out).out).mono ?_
      rintro e w4 ⟨v4, rfl, hV4, hb4⟩
      obtain ⟨ao4, cap4, rfl⟩ := hV4.form
      have HB4 := Lib.hid (below_nxt HB3.out hb4)
      have HR4 := Lib.hid (HR3.out.step hb4)
      have HF4 := Lib.hid hV4
      obtain ⟨r0, r1, r2, r3, r4⟩ := HR4.out
      clear hb4 hV4
      go_wp2
      obtain ⟨RW, BW, VW⟩ := fin_val HR4.out HB4.out HF4.out (by omega)
      generalize ((w4.setCell ⟨w.heap.size + 1, 0, none⟩ (.int .i64 q1)).setCell ⟨w.heap.size + 1, 1, none⟩ (.slice ao4 q2.length cap4)) = W2 at *
      have L2 : Below W2.heap.size W2 (W2.alloc (.cells #[.int .i64 q1, .slice ao4 q2.length cap4] 24)) := (Below.refl _ _).alloc (Nat.le_refl _) _
      have RW2 := RW.step L2
      have VW2 := VW.step L2
      have BW2 := below_nxt BW L2
      generalize W2.alloc (.cells #[.int .i64 q1, .slice ao4 q2.length cap4] 24) = W3 at *
      obtain ⟨-, t1, t2, -, -⟩ := RW2
      exact bodyPost_ret (v := .tuple #[.agg #[.int .i64 q1, .slice ao4 q2.length cap4], .bool (q4 == 0), .int .i64 q4]) (by simp [results, Try.results32, go_sem, t1, t2]) rfl ⟨_, rfl, VW2, BW2⟩
  · have hv : Bn.closV n R = (0, [], false, Bn.chk n R) := by unfold Bn.closV; rw [if_neg h1]
    unfold CldP
    rw [hv]
    clear hv
    go_enter Try.func32, Try.ntmps32
    go_wp2_with fail
    rw [← hX]
    clear x0 x1 x2
    refine ((CC X (HS.out.step HLX.out)).out).mono ?_
    rintro e w1 ⟨rfl, hb1⟩
    have HB1 := Lib.hid (below_nxt HLX.out hb1)
    have HR1 := Lib.hid (HRX.out.step hb1)
    obtain ⟨r0, r1, r2, r3, r4⟩ := HR1.out
    clear hb1
    go_wp2
    obtain ⟨RW, BW, VW⟩ := fin_nil HR1.out HB1.out
    generalize ((w1.setCell ⟨w.heap.size + 1, 0, none⟩ (.int .i64 0)).setCell ⟨w.heap.size + 1, 1, none⟩ (.slice none 0 0)) = W2 at *
    obtain ⟨-, t1, t2, -, -⟩ := RW
    exact bodyPost_ret (v := .tuple #[.agg #[.int .i64 0, .slice none 0 0], .bool false, .int .i64 (Bn.chk n R)]) (by simp [results, Try.results32, go_sem, t1, t2]) rfl ⟨_, rfl, VW, BW⟩
end Go.Proofs.Ytcdidncffdfnnaa
