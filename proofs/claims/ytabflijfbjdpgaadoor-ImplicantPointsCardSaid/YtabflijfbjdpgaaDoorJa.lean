/- The call of ImplicantPoints. -/
import Derived.Test.YtabflijfbjdpgaaDoorIy
namespace Go.Proofs.YtabflijfbjdpgaaDoor
open Go.RowKit Go.Shelf

set_option linter.unusedSimpArgs false in
set_option maxHeartbeats 4000000 in
set_option maxRecDepth 100000 in
theorem lawPoints_any (n : Int) (c v : Nat) (p : Int) (w : World) (hst : St w) (hc : c < 2 ^ 64) (hv : v < 2 ^ 64) :
    Calls Tryd.prog 3 #[.int .i64 n, .agg #[.int .u64 c, .int .u64 v], .int .i64 p] w fun e w' => e = .returned (.bool true) ∧ Below w.heap.size w w' := by
  have C1 := fun W => Lib.hid (iCovers_any n c v p W hc hv)
  have C2 := fun W => Lib.hid (rcCovers_any n c v p W hc hv)
  have C3 := fun W h => Lib.hid (iTab_any n c v W hc hv h)
  have C4 := fun W => Lib.hid (rcTab_any n c v W hc hv)
  have K1 := fun W => Lib.hid (iCheck_any n c v W hc hv)
  have K2 := fun W => Lib.hid (rcCheck_any n c v W hc hv)
  have HST := Lib.hid hst
  clear hst hc hv
  generalize Ic.covV n c v p = cov at *
  generalize Ic.tabV n c v = tv at *
  generalize Ic.chk n c v = ck at *
  obtain ⟨cb, ce⟩ := cov
  obtain ⟨⟨tn, tb⟩, te⟩ := tv
  dsimp only at C1 C2 C3 C4
  obtain ⟨P0, L0, z0⟩ := cub1_new w c v 24
  generalize hX : w.alloc (.cells #[.int .u64 (c : Int), .int .u64 (v : Int)] 24) = X at *

  have HB := Lib.hid L0
  obtain ⟨a0, a1, a2, a3, a4⟩ := id P0
  have V := Lib.hid P0
  clear P0 L0
  go_enter Tryd.func3, Tryd.ntmps3
  go_wp2_with (first | (go_at_call 11; refine ((C1 _).out).mono ?_; rintro e w1 ⟨rfl, hb⟩; have HB1 := Lib.hid (below_nxt HB.out hb); have V1 := Lib.hid (V.out.step hb); clear hb a1 a2 a3 a4; obtain ⟨b0, a1, a2, a3, a4⟩ := id V1.out) | (go_at_call 12; refine ((C2 _).out).mono ?_; rintro e w2 ⟨rfl, hb⟩; have HB2 := Lib.hid (below_nxt HB1.out hb); have V2 := Lib.hid (V1.out.step hb); clear hb a1 a2 a3 a4; obtain ⟨c0, a1, a2, a3, a4⟩ := id V2.out) | (go_at_call 13; refine ((C3 _ (HST.out.next HB2.out)).out).mono ?_; rintro e w3 ⟨rfl, hb⟩; have HB3 := Lib.hid (below_nxt HB2.out hb); have V3 := Lib.hid (V2.out.step hb); clear hb a1 a2 a3 a4; obtain ⟨d0, a1, a2, a3, a4⟩ := id V3.out) | (go_at_call 14; refine ((C4 _).out).mono ?_; rintro e w4 ⟨rfl, hb⟩; have HB4 := Lib.hid (below_nxtb HB3.out hb); have V4 := Lib.hid (V3.out.box hb); have U4 := Lib.hid (tabI_box hb); clear hb a1 a2 a3 a4; obtain ⟨e0, a1, a2, a3, a4⟩ := id V4.out))
  obtain ⟨N2, M2, y2⟩ := tab1_new w4 tn tb 32
  have U := U4.out.step M2
  have D := V4.out.step M2
  have HBY := Lib.hid (below_nxt HB4.out M2)
  generalize w4.alloc (.cells #[.int .i64 tn, .int .u64 (tb : Int)] 32) = Y at *
  generalize w3.heap.size = g1 at *
  generalize w4.heap.size = g2 at *
  obtain ⟨d0, d1, d2, d3, d4⟩ := id D
  obtain ⟨t0, t1, t2, t3, t4⟩ := id U
  obtain ⟨u0, u1, u2, u3, u4⟩ := id N2
  have HD := Lib.hid ((Below.refl Y.heap.size Y).drew)
  clear a1 a2 a3 a4 D U N2 M2

  refine wp_region_noPanic ?_
  refine wp_region_held_drew (S := (fun W => ((W.cell? ⟨w.heap.size, 0, none⟩ = some (.int .u64 (c : Int)) ∧ W.cell? ⟨w.heap.size, 1, none⟩ = some (.int .u64 (v : Int))) ∧ (W.cell? ⟨g1, 0, none⟩ = some (.int .i64 tn) ∧ W.cell? ⟨g1, 1, none⟩ = some (.int .u64 (tb : Int))) ∧ (W.cell? ⟨g2, 0, none⟩ = some (.int .i64 tn) ∧ W.cell? ⟨g2, 1, none⟩ = some (.int .u64 (tb : Int)))) ∧ Hid (Below Y.heap.size Y W))) (by kernel_rfl) ?_ (fun hHeld => ?_)
  · exact ⟨⟨⟨d1, d2⟩, ⟨t1, t2⟩, ⟨u1, u2⟩⟩, HD⟩
  refine wpAnyH_take (i := 0) (v := ?_) rfl (by kernel_rfl) (by kernel_rfl) (by kernel_rfl) (fun _ _ _ h => h) (Or.inl ⟨by rfl, ?_⟩) (by assumption) ?_
  rotate_left 1
  · (intro w hSw; (try dsimp only at hSw); go_simp; (try with_reducible rfl))
  try simp only [Act.put, List.getElem_toArray, List.getElem_cons_succ, List.getElem_cons_zero, List.setIfInBounds_toArray, List.set_cons_zero, List.set_cons_succ]
  refine wpAnyH_take (i := 1) (v := ?_) rfl (by kernel_rfl) (by kernel_rfl) (by kernel_rfl) (fun _ _ _ h => h) (Or.inl ⟨by rfl, ?_⟩) (by assumption) ?_
  rotate_left 1
  · (intro w hSw; (try dsimp only at hSw); go_simp; (try with_reducible rfl))
  try simp only [Act.put, List.getElem_toArray, List.getElem_cons_succ, List.getElem_cons_zero, List.setIfInBounds_toArray, List.set_cons_zero, List.set_cons_succ]
  refine wpAnyH_take (i := 3) (v := ?_) rfl (by kernel_rfl) (by kernel_rfl) (by kernel_rfl) (fun _ _ _ h => h) (Or.inl ⟨by rfl, ?_⟩) (by assumption) ?_
  rotate_left 1
  · (intro w hSw; (try dsimp only at hSw); go_simp; (try with_reducible rfl))
  try simp only [Act.put, List.getElem_toArray, List.getElem_cons_succ, List.getElem_cons_zero, List.setIfInBounds_toArray, List.set_cons_zero, List.set_cons_succ]
  refine wpAnyH_take (i := 4) (v := ?_) rfl (by kernel_rfl) (by kernel_rfl) (by kernel_rfl) (fun _ _ _ h => h) (Or.inl ⟨by rfl, ?_⟩) (by assumption) ?_
  rotate_left 1
  · (intro w hSw; (try dsimp only at hSw); go_simp; (try with_reducible rfl))
  try simp only [Act.put, List.getElem_toArray, List.getElem_cons_succ, List.getElem_cons_zero, List.setIfInBounds_toArray, List.set_cons_zero, List.set_cons_succ]
  refine wpAnyH_ready (rs := [2]) (by kernel_rfl) (by simp) ?_
  refine AllReadyH.cons rfl (fun K hK => ?_) AllReadyH.nil
  go_simp
  (go_at_call 15; (with_reducible refine ((K1 _).out).mono ?_); rintro e w6 ⟨rfl, hw⟩; have hb := below_nxt HD.out hw; have HB6 := Lib.hid hb; have d60 := (hb.cell (p := ⟨w.heap.size, 0, none⟩) d0).trans d1; have d61 := (hb.cell (p := ⟨w.heap.size, 1, none⟩) d0).trans d2; have t60 := (hb.cell (p := ⟨g1, 0, none⟩) t0).trans t1; have t61 := (hb.cell (p := ⟨g1, 1, none⟩) t0).trans t2; have u60 := (hb.cell (p := ⟨g2, 0, none⟩) u0).trans u1; have u61 := (hb.cell (p := ⟨g2, 1, none⟩) u0).trans u2; clear hb hw)
  go_simp
  refine hK.out _ _ ?_ (fun hHeld => ?_)
  · exact ⟨⟨⟨d60, d61⟩, ⟨t60, t61⟩, ⟨u60, u61⟩⟩, HB6⟩
  clear hK K
  try simp only [Act.put, List.getElem_toArray, List.getElem_cons_succ, List.getElem_cons_zero, List.setIfInBounds_toArray, List.set_cons_zero, List.set_cons_succ]
  refine wpAnyH_ready (rs := [5]) (by kernel_rfl) (by simp) ?_
  refine AllReadyH.cons rfl (fun K hK => ?_) AllReadyH.nil
  go_simp
  (go_at_call 16; (with_reducible refine ((K2 _).out).mono ?_); rintro e w7 ⟨rfl, hw⟩; have hb := below_nxt HB6.out hw; have HB7 := Lib.hid hb; have d70 := (hb.cell (p := ⟨w.heap.size, 0, none⟩) d0).trans d1; have d71 := (hb.cell (p := ⟨w.heap.size, 1, none⟩) d0).trans d2; have t70 := (hb.cell (p := ⟨g1, 0, none⟩) t0).trans t1; have t71 := (hb.cell (p := ⟨g1, 1, none⟩) t0).trans t2; have u70 := (hb.cell (p := ⟨g2, 0, none⟩) u0).trans u1; have u71 := (hb.cell (p := ⟨g2, 1, none⟩) u0).trans u2; clear hb hw)
  go_simp
  refine hK.out _ _ ?_ (fun hHeld => ?_)
  · exact ⟨⟨⟨d70, d71⟩, ⟨t70, t71⟩, ⟨u70, u71⟩⟩, HB7⟩
  clear hK K
  try simp only [Act.put, List.getElem_toArray, List.getElem_cons_succ, List.getElem_cons_zero, List.setIfInBounds_toArray, List.set_cons_zero, List.set_cons_succ]
  refine wpAnyH_take (i := 6) (v := ?_) rfl (by kernel_rfl) (by kernel_rfl) (by kernel_rfl) (fun _ _ _ h => h) (Or.inl ⟨by rfl, ?_⟩) (by assumption) ?_
  rotate_left 1
  · (intro w hSw; (try dsimp only at hSw); go_simp; (try with_reducible rfl))
  try simp only [Act.put, List.getElem_toArray, List.getElem_cons_succ, List.getElem_cons_zero, List.setIfInBounds_toArray, List.set_cons_zero, List.set_cons_succ]
  refine wpAnyH_take (i := 7) (v := ?_) rfl (by kernel_rfl) (by kernel_rfl) (by kernel_rfl) (fun _ _ _ h => h) (Or.inl ⟨by rfl, ?_⟩) (by assumption) ?_
  rotate_left 1
  · (intro w hSw; (try dsimp only at hSw); go_simp; (try with_reducible rfl))
  try simp only [Act.put, List.getElem_toArray, List.getElem_cons_succ, List.getElem_cons_zero, List.setIfInBounds_toArray, List.set_cons_zero, List.set_cons_succ]
  refine wpAnyH_take (i := 8) (v := ?_) rfl (by kernel_rfl) (by kernel_rfl) (by kernel_rfl) (fun _ _ _ h => h) (Or.inl ⟨by rfl, ?_⟩) (by assumption) ?_
  rotate_left 1
  · (intro w hSw; (try dsimp only at hSw); go_simp; (try with_reducible rfl))
  try simp only [Act.put, List.getElem_toArray, List.getElem_cons_succ, List.getElem_cons_zero, List.setIfInBounds_toArray, List.set_cons_zero, List.set_cons_succ]
  refine wpAnyH_take (i := 9) (v := ?_) rfl (by kernel_rfl) (by kernel_rfl) (by kernel_rfl) (fun _ _ _ h => h) (Or.inl ⟨by rfl, ?_⟩) (by assumption) ?_
  rotate_left 1
  · (intro w hSw; (try dsimp only at hSw); go_simp; (try with_reducible rfl))
  try simp only [Act.put, List.getElem_toArray, List.getElem_cons_succ, List.getElem_cons_zero, List.setIfInBounds_toArray, List.set_cons_zero, List.set_cons_succ]
  refine wpAnyH_take (i := 10) (v := ?_) rfl (by kernel_rfl) (by kernel_rfl) (by kernel_rfl) (fun _ _ _ h => h) (Or.inl ⟨by rfl, ?_⟩) (by assumption) ?_
  rotate_left 1
  · (intro w hSw; (try dsimp only at hSw); go_simp; (try with_reducible rfl))
  try simp only [Act.put, List.getElem_toArray, List.getElem_cons_succ, List.getElem_cons_zero, List.setIfInBounds_toArray, List.set_cons_zero, List.set_cons_succ]
  refine wpAnyH_take (i := 11) (v := ?_) rfl (by kernel_rfl) (by kernel_rfl) (by kernel_rfl) (fun _ _ _ h => h) (Or.inl ⟨by rfl, ?_⟩) (by assumption) ?_
  rotate_left 1
  · (intro w hSw; (try dsimp only at hSw); go_simp; (try with_reducible rfl))
  try simp only [Act.put, List.getElem_toArray, List.getElem_cons_succ, List.getElem_cons_zero, List.setIfInBounds_toArray, List.set_cons_zero, List.set_cons_succ]
  refine wpAnyH_take (i := 12) (v := ?_) rfl (by kernel_rfl) (by kernel_rfl) (by kernel_rfl) (fun _ _ _ h => h) (Or.inl ⟨by rfl, ?_⟩) (by assumption) ?_
  rotate_left 1
  · (intro w hSw; (try dsimp only at hSw); go_simp; (try with_reducible rfl))
  try simp only [Act.put, List.getElem_toArray, List.getElem_cons_succ, List.getElem_cons_zero, List.setIfInBounds_toArray, List.set_cons_zero, List.set_cons_succ]
  refine wpAnyH_take (i := 13) (v := ?_) rfl (by kernel_rfl) (by kernel_rfl) (by kernel_rfl) (fun _ _ _ h => h) (Or.inl ⟨by rfl, ?_⟩) (by assumption) ?_
  rotate_left 1
  · (intro w hSw; (try dsimp only at hSw); go_simp; (try with_reducible rfl))
  try simp only [Act.put, List.getElem_toArray, List.getElem_cons_succ, List.getElem_cons_zero, List.setIfInBounds_toArray, List.set_cons_zero, List.set_cons_succ]
  refine wpAnyH_take (i := 14) (v := ?_) rfl (by kernel_rfl) (by kernel_rfl) (by kernel_rfl) (fun _ _ _ h => h) (Or.inl ⟨by rfl, ?_⟩) (by assumption) ?_
  rotate_left 1
  · (intro w hSw; (try dsimp only at hSw); go_simp; (try with_reducible rfl))
  try simp only [Act.put, List.getElem_toArray, List.getElem_cons_succ, List.getElem_cons_zero, List.setIfInBounds_toArray, List.set_cons_zero, List.set_cons_succ]
  refine wpAnyH_take (i := 15) (v := ?_) rfl (by kernel_rfl) (by kernel_rfl) (by kernel_rfl) (fun _ _ _ h => h) (Or.inl ⟨by rfl, ?_⟩) (by assumption) ?_
  rotate_left 1
  · (intro w hSw; (try dsimp only at hSw); go_simp; (try with_reducible rfl))
  try simp only [Act.put, List.getElem_toArray, List.getElem_cons_succ, List.getElem_cons_zero, List.setIfInBounds_toArray, List.set_cons_zero, List.set_cons_succ]
  refine wpAnyH_take (i := 16) (v := ?_) rfl (by kernel_rfl) (by kernel_rfl) (by kernel_rfl) (fun _ _ _ h => h) (Or.inl ⟨by rfl, ?_⟩) (by assumption) ?_
  rotate_left 1
  · (intro w hSw; (try dsimp only at hSw); go_simp; (try with_reducible rfl))
  try simp only [Act.put, List.getElem_toArray, List.getElem_cons_succ, List.getElem_cons_zero, List.setIfInBounds_toArray, List.set_cons_zero, List.set_cons_succ]
  refine wpAnyH_take (i := 17) (v := ?_) rfl (by kernel_rfl) (by kernel_rfl) (by kernel_rfl) (fun _ _ _ h => h) (Or.inl ⟨by rfl, ?_⟩) (by assumption) ?_
  rotate_left 1
  · (intro w hSw; (try dsimp only at hSw); go_simp; (try with_reducible rfl))
  try simp only [Act.put, List.getElem_toArray, List.getElem_cons_succ, List.getElem_cons_zero, List.setIfInBounds_toArray, List.set_cons_zero, List.set_cons_succ]
  refine wpAnyH_take (i := 18) (v := ?_) rfl (by kernel_rfl) (by kernel_rfl) (by kernel_rfl) (fun _ _ _ h => h) (Or.inl ⟨by rfl, ?_⟩) (by assumption) ?_
  rotate_left 1
  · (intro w hSw; (try dsimp only at hSw); go_simp; (try with_reducible rfl))
  try simp only [Act.put, List.getElem_toArray, List.getElem_cons_succ, List.getElem_cons_zero, List.setIfInBounds_toArray, List.set_cons_zero, List.set_cons_succ]
  refine wpAnyH_take (i := 19) (v := ?_) rfl (by kernel_rfl) (by kernel_rfl) (by kernel_rfl) (fun _ _ _ h => h) (Or.inl ⟨by rfl, ?_⟩) (by assumption) ?_
  rotate_left 1
  · (intro w hSw; (try dsimp only at hSw); go_simp; (try with_reducible rfl))
  try simp only [Act.put, List.getElem_toArray, List.getElem_cons_succ, List.getElem_cons_zero, List.setIfInBounds_toArray, List.set_cons_zero, List.set_cons_succ]
  refine wpAnyH_take (i := 20) (v := ?_) rfl (by kernel_rfl) (by kernel_rfl) (by kernel_rfl) (fun _ _ _ h => h) (Or.inl ⟨by rfl, ?_⟩) (by assumption) ?_
  rotate_left 1
  · (intro w hSw; (try dsimp only at hSw); go_simp; (try with_reducible rfl))
  try simp only [Act.put, List.getElem_toArray, List.getElem_cons_succ, List.getElem_cons_zero, List.setIfInBounds_toArray, List.set_cons_zero, List.set_cons_succ]
  refine wpAnyH_take (i := 21) (v := ?_) rfl (by kernel_rfl) (by kernel_rfl) (by kernel_rfl) (fun _ _ _ h => h) (Or.inl ⟨by rfl, ?_⟩) (by assumption) ?_
  rotate_left 1
  · (intro w hSw; (try dsimp only at hSw); go_simp; (try with_reducible rfl))
  try simp only [Act.put, List.getElem_toArray, List.getElem_cons_succ, List.getElem_cons_zero, List.setIfInBounds_toArray, List.set_cons_zero, List.set_cons_succ]
  refine wpAnyH_take (i := 22) (v := ?_) rfl (by kernel_rfl) (by kernel_rfl) (by kernel_rfl) (fun _ _ _ h => h) (Or.inl ⟨by rfl, ?_⟩) (by assumption) ?_
  rotate_left 1
  · (intro w hSw; (try dsimp only at hSw); go_simp; (try with_reducible rfl))
  try simp only [Act.put, List.getElem_toArray, List.getElem_cons_succ, List.getElem_cons_zero, List.setIfInBounds_toArray, List.set_cons_zero, List.set_cons_succ]
  refine wpAnyH_take (i := 23) (v := ?_) rfl (by kernel_rfl) (by kernel_rfl) (by kernel_rfl) (fun _ _ _ h => h) (Or.inl ⟨by rfl, ?_⟩) (by assumption) ?_
  rotate_left 1
  · (intro w hSw; (try dsimp only at hSw); go_simp; (try with_reducible rfl))
  try simp only [Act.put, List.getElem_toArray, List.getElem_cons_succ, List.getElem_cons_zero, List.setIfInBounds_toArray, List.set_cons_zero, List.set_cons_succ]
  refine wpAnyH_take (i := 24) (v := ?_) rfl (by kernel_rfl) (by kernel_rfl) (by kernel_rfl) (fun _ _ _ h => h) (Or.inl ⟨by rfl, ?_⟩) (by assumption) ?_
  rotate_left 1
  · (intro w hSw; (try dsimp only at hSw); go_simp; (try with_reducible rfl))
  try simp only [Act.put, List.getElem_toArray, List.getElem_cons_succ, List.getElem_cons_zero, List.setIfInBounds_toArray, List.set_cons_zero, List.set_cons_succ]
  refine wpAnyH_take (i := 25) (v := ?_) rfl (by kernel_rfl) (by kernel_rfl) (by kernel_rfl) (fun _ _ _ h => h) (Or.inl ⟨by rfl, ?_⟩) (by assumption) ?_
  rotate_left 1
  · (intro w hSw; (try dsimp only at hSw); go_simp; (try with_reducible rfl))
  try simp only [Act.put, List.getElem_toArray, List.getElem_cons_succ, List.getElem_cons_zero, List.setIfInBounds_toArray, List.set_cons_zero, List.set_cons_succ]
  refine wpAnyH_take (i := 26) (v := ?_) rfl (by kernel_rfl) (by kernel_rfl) (by kernel_rfl) (fun _ _ _ h => h) (Or.inl ⟨by rfl, ?_⟩) (by assumption) ?_
  rotate_left 1
  · (intro w hSw; (try dsimp only at hSw); go_simp; (try with_reducible rfl))
  try simp only [Act.put, List.getElem_toArray, List.getElem_cons_succ, List.getElem_cons_zero, List.setIfInBounds_toArray, List.set_cons_zero, List.set_cons_succ]
  refine wpAnyH_take (i := 27) (v := ?_) rfl (by kernel_rfl) (by kernel_rfl) (by kernel_rfl) (fun _ _ _ h => h) (Or.inl ⟨by rfl, ?_⟩) (by assumption) ?_
  rotate_left 1
  · (intro w hSw; (try dsimp only at hSw); go_simp; (try with_reducible rfl))
  try simp only [Act.put, List.getElem_toArray, List.getElem_cons_succ, List.getElem_cons_zero, List.setIfInBounds_toArray, List.set_cons_zero, List.set_cons_succ]
  refine wpAnyH_ready (rs := [28]) (by kernel_rfl) (by simp) ?_
  refine AllReadyH.cons rfl (fun K hK => ?_) AllReadyH.nil
  go_simp
  (go_at_call 17; (with_reducible refine (awake_any _ (HST.out.next (below_nxt HBY.out HB7.out))).mono ?_); rintro e w8 ⟨rfl, hw⟩; have hb := below_nxt HB7.out hw; have HB8 := Lib.hid hb; have d80 := (hb.cell (p := ⟨w.heap.size, 0, none⟩) d0).trans d1; have d81 := (hb.cell (p := ⟨w.heap.size, 1, none⟩) d0).trans d2; have t80 := (hb.cell (p := ⟨g1, 0, none⟩) t0).trans t1; have t81 := (hb.cell (p := ⟨g1, 1, none⟩) t0).trans t2; have u80 := (hb.cell (p := ⟨g2, 0, none⟩) u0).trans u1; have u81 := (hb.cell (p := ⟨g2, 1, none⟩) u0).trans u2; clear hb hw)
  go_simp
  refine hK.out _ _ ?_ (fun hHeld => ?_)
  · exact ⟨⟨⟨d80, d81⟩, ⟨t80, t81⟩, ⟨u80, u81⟩⟩, HB8⟩
  clear hK K
  try simp only [Act.put, List.getElem_toArray, List.getElem_cons_succ, List.getElem_cons_zero, List.setIfInBounds_toArray, List.set_cons_zero, List.set_cons_succ]
  refine wpAnyH_take (i := 29) (v := ?_) rfl (by kernel_rfl) (by kernel_rfl) (by kernel_rfl) (fun _ _ _ h => h) (Or.inl ⟨by rfl, ?_⟩) (by assumption) ?_
  rotate_left 1
  · (intro w hSw; (try dsimp only at hSw); go_simp; (try with_reducible rfl))
  try simp only [Act.put, List.getElem_toArray, List.getElem_cons_succ, List.getElem_cons_zero, List.setIfInBounds_toArray, List.set_cons_zero, List.set_cons_succ]
  refine wpAnyH_take (i := 30) (v := ?_) rfl (by kernel_rfl) (by kernel_rfl) (by kernel_rfl) (fun _ _ _ h => h) (Or.inl ⟨by rfl, ?_⟩) (by assumption) ?_
  rotate_left 1
  · (intro w hSw; (try dsimp only at hSw); go_simp; (try with_reducible rfl))
  try simp only [Act.put, List.getElem_toArray, List.getElem_cons_succ, List.getElem_cons_zero, List.setIfInBounds_toArray, List.set_cons_zero, List.set_cons_succ]
  refine wpAnyH_done (by kernel_rfl) ?_ _
  refine NoPanic.normal ?_
  go_wp2
  go_ret
  exact ⟨rfl, below_nxt HBY.out HB8.out⟩
theorem lawPoints_card (x0 x1 y1 x2 : Int) (W : World) (hst : St W) (_ : -9223372036854775808 ≤ x0) (_ : x0 ≤ 9223372036854775807) (h0 : 0 ≤ x1) (h1 : x1 ≤ 18446744073709551615) (h2 : 0 ≤ y1) (h3 : y1 ≤ 18446744073709551615) (_ : -9223372036854775808 ≤ x2) (_ : x2 ≤ 9223372036854775807) :
    Calls Tryd.prog 3 #[.int .i64 x0, .agg #[.int .u64 x1, .int .u64 y1], .int .i64 x2] W fun e w' => e = .returned (.bool true) ∧ Below W.heap.size W w' := by
  obtain ⟨c, rfl⟩ := Int.eq_ofNat_of_zero_le h0
  obtain ⟨v, rfl⟩ := Int.eq_ofNat_of_zero_le h2
  exact lawPoints_any x0 c v x2 W hst (by omega) (by omega)
end Go.Proofs.YtabflijfbjdpgaaDoor
