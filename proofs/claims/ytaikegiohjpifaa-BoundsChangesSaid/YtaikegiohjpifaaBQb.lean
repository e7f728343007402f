/- With and Add of the reference. -/
import Derived.Test.YtaikegiohjpifaaBQa
import Derived.Test.YtaikegiohjpifaaBs
namespace Bn
theorem addM_isB {N : Nat} {R : List (List Int)} (hR : Rt N (mx R)) {i j : Nat} {most : Int} (hm : num most = true) : Go.Proofs.Ytaikegiohjpifaa.Bn.bV N (addM R i j most) = ((N : Int), rws N (addM R i j most), 0) := by
  unfold Go.Proofs.Ytaikegiohjpifaa.Bn.bV
  rw [if_pos (allB_iff.2 fun a b ha hb => by
    have hb0 : ∀ x y, x ≤ N → y ≤ N → isB (mx R x y) = true := fun x y hx hy => by
      rcases hR.bd x y hx hy with h | h
      · rw [h]; rfl
      · exact num_isB (by unfold num; rw [decide_eq_true h.1, decide_eq_true h.2]; rfl)
    unfold addM up
    split
    · rename_i h
      obtain ⟨rfl, rfl⟩ := h
      exact isB_mn (hb0 _ _ ha hb) (num_isB hm)
    · exact hb0 _ _ ha hb)]
end Bn
namespace Go.Proofs.Ytaikegiohjpifaa
open Go.RowKit
set_option maxHeartbeats 8000000 in
set_option maxRecDepth 100000 in
theorem rWith_any (N i j : Nat) (most : Int) (v : Value) (R : List (List Int)) (w : World) (hN : N ≤ 12) (hS : Bn.Shp N R) (hi : i ≤ N) (hj : j ≤ N) (hs : SeesR w v R) :
    Calls Try.prog 42 #[.agg #[.int .i64 (N : Int), v], .int .i64 (i : Int), .int .i64 (j : Int), .int .i64 most] w fun e w' => ∃ v, e = .returned v ∧ OwnB w.heap.size w' v N (Bn.addM R i j most) ∧ Below w.heap.size w w' := by
  have HS := Lib.hid hs
  obtain ⟨ao, cap, rfl, hcap1, hcap2, -⟩ := hs
  have CO := fun W (h : SeesR W (.slice ao R.length cap) R) => Lib.hid (rCopied_any N _ R W hN hS h)
  obtain ⟨X, hX, hBX, hRX, hLX, hZX⟩ := pro2 w (N : Int) (.slice ao R.length cap)
  have HBX := Lib.hid hBX
  have HRX := Lib.hid hRX
  have HLX := Lib.hid hLX
  obtain ⟨x0, x1, x2⟩ := hBX
  rw [hX] at x0 x1 x2
  clear hRX hLX
  go_enter Try.func42, Try.ntmps42
  go_wp2_with fail
  rw [← hX]
  clear x0 x1 x2
  refine ((CO X (HS.out.step HLX.out)).out).mono ?_
  rintro e w3 ⟨v3, rfl, ⟨A, cp, f, c, rfl, hcp1, hcp2, hG⟩, hb3⟩
  have HR3 := Lib.hid (HRX.out.step hb3)
  have HB3 := Lib.hid (below_nxt HLX.out hb3)
  have L4 : Below w3.heap.size w3 (w3.alloc (.cells #[.int .i64 (N : Int), .slice (some ⟨A, 0, none⟩) (N + 1) cp] 24)) := (Below.refl _ _).alloc (Nat.le_refl _) _
  have HO4 := Lib.hid (resI_new w3 (N : Int) (.slice (some ⟨A, 0, none⟩) (N + 1) cp) 24)
  have HR4 := Lib.hid (HR3.out.step L4)
  have HB4 := Lib.hid (below_nxt HB3.out L4)
  have HG4 := Lib.hid (hG.step L4)
  have hA := hG.ge
  have hFB := fun i hi => (hG.blk i hi).2.1
  have HFB := Lib.hid hFB
  have hfl := (hG.blk i (by omega)).1
  have hal := hG.lt
  clear hb3 hG L4 HR3 HB3 CO hFB
  go_wp2
  generalize w3.alloc (.cells #[.int .i64 (N : Int), .slice (some ⟨A, 0, none⟩) (N + 1) cp] 24) = X4 at *
  generalize w3.heap.size = nb at *
  have hil : i < N + 1 := by omega
  have hjl : j < N + 1 := by omega
  obtain ⟨o0, o1, o2, o3, o4⟩ := HO4.out
  obtain ⟨g1, g2, g3⟩ := HG4.out.at hil hjl
  have CL := fun W => Lib.hid (rLesser_any (Bn.mx R i j) most W)
  have HPut := Lib.hid (show Grd X.heap.size (X4.setCell ⟨f i, j, none⟩ (.int .i64 (Bn.mn (Bn.mx R i j) most))) A (N + 1) (N + 1) f c (Bn.addM R i j most) from HG4.out.put hil hjl _)
  have GP := Lib.hid (grown_drew (grown_set (i := j) (v := .int .i64 (Bn.mn (Bn.mx R i j) most)) (grown_refl X4 (some (f i)))))
  have hfi := HFB.out i hil
  generalize hMM : Bn.addM R i j most = M at *
  generalize Bn.mn (Bn.mx R i j) most = z at *
  generalize Bn.mx R i j = y1 at *
  have zi : (i : Int) < (N : Int) + 1 := by omega
  have zj : (j : Int) < (N : Int) + 1 := by omega
  refine wp_region_still_tail 17 (by kernel_rfl) (by kernel_rfl) ?_
  simp only [List.take_succ_cons, List.take_zero, List.drop_succ_cons, List.drop_zero]
  repeat still_step
  still_call ((CL X4.drew).out)
  repeat still_step
  change wpList _ _ _ _ _ X4.drew
  have HR5 := Lib.hid (HR4.out.grown GP.out (by omega))
  have HO5 := Lib.hid (HO4.out.grown GP.out (by omega))
  obtain ⟨r0, r1, r2, r3, r4⟩ := HR5.out
  obtain ⟨q0, q1, q2, q3, q4⟩ := HO5.out
  obtain ⟨s0, s1, s2, s3, s4⟩ := HR4.out
  go_wp2
  have HW := HPut.out
  have HRW := HR4.out.grown (grown_set (i := j) (v := .int .i64 z) (grown_refl X4 (some (f i)))) (by omega)
  have HBW := HB4.out.trans (below_grown (grown_set (i := j) (v := .int .i64 z) (grown_refl X4 (some (f i)))) HB4.out.size (by omega))
  generalize X4.setCell ⟨f i, j, none⟩ (.int .i64 z) = X5 at *
  have hRP := (HRW.put (N : Int) (.slice (some ⟨A, 0, none⟩) (N + 1) cp)).step (Below.refl _ _).drew
  obtain ⟨-, t1, t2, -, -⟩ := hRP
  have hG6 := ((HW.other (g := w.heap.size + 1) (grown_set (i := 0) (v := .int .i64 (N : Int)) (grown_refl _ _)) (by omega) (fun q hq => by have := HFB.out q hq; omega)).other (g := w.heap.size + 1) (grown_set (i := 1) (v := .slice (some ⟨A, 0, none⟩) (N + 1) cp) (grown_refl _ _)) (by omega) (fun q hq => by have := HFB.out q hq; omega)).drew
  exact bodyPost_ret (v := .agg #[.int .i64 (N : Int), .slice (some ⟨A, 0, none⟩) (N + 1) cp]) (by simp [results, Try.f42, go_sem, t1, t2]) rfl ⟨_, rfl, ⟨A, cp, f, c, rfl, hcp1, hcp2, by rw [hMM]; exact hG6.mono (show w.heap.size ≤ X.heap.size by omega)⟩, ((HBW.setCell (p := ⟨w.heap.size + 1, 0, none⟩) (by simp) _).setCell (p := ⟨w.heap.size + 1, 1, none⟩) (by simp) _).drew⟩
end Go.Proofs.Ytaikegiohjpifaa
