/- The call of ImplicantImplies. -/
import Derived.Test.YtabflijfbjdpgaaDoorIz
import Derived.Test.YtabflijfbjdpgaaDoorIw
namespace Go.Proofs.YtabflijfbjdpgaaDoor
open Go.RowKit Go.Shelf

set_option linter.unusedSimpArgs false in
set_option maxHeartbeats 4000000 in
set_option maxRecDepth 100000 in
theorem lawImplies_any (n : Int) (on : Nat) (m : Int) (fr c v : Nat) (w : World) (hst : St w) (ho : on < 2 ^ 64) (hf : fr < 2 ^ 64) (hc : c < 2 ^ 64) (hv : v < 2 ^ 64) :
    Calls Tryd.prog 6 #[.agg #[.int .i64 n, .int .u64 on, .int .i64 m, .int .u64 fr], .agg #[.int .u64 c, .int .u64 v]] w fun e w' => e = .returned (.bool true) ∧ Below w.heap.size w w' := by
  have C1 := fun W h => Lib.hid (iImplies_any n on m fr c v W ho hf hc hv h)
  have C2 := fun W => Lib.hid (rcImplies_any n on m fr c v W ho hf hc hv)
  have K1 := fun W => Lib.hid (iCheckTask_any n on m fr W ho hf)
  have K2 := fun W => Lib.hid (rcCheckTask_any n on m fr W ho hf)
  have HST := Lib.hid hst
  clear hst ho hf hc hv
  generalize Ic.impV n on m fr c v = iv at *
  generalize Ic.tchk n on m fr = ck at *
  obtain ⟨ib, ie⟩ := iv
  dsimp only at C1 C2
  obtain ⟨P0, L0, z0⟩ := task_new w n on m fr 58
  obtain ⟨P1, L1, z1⟩ := cub1_new (w.alloc (.cells #[.int .i64 n, .int .u64 (on : Int), .int .i64 m, .int .u64 (fr : Int)] 58)) c v 24
  replace P0 := P0.step L1
  replace L0 := below_nxt L0 L1
  rw [z0] at P1 z1
  clear L1 z0
  generalize hX : (w.alloc (.cells #[.int .i64 n, .int .u64 (on : Int), .int .i64 m, .int .u64 (fr : Int)] 58)).alloc (.cells #[.int .u64 (c : Int), .int .u64 (v : Int)] 24) = X at *
  have HB := Lib.hid L0
  have HP0 := Lib.hid P0
  have HP1 := Lib.hid P1
  obtain ⟨p0, p1, p2, p3, p4⟩ := P0
  obtain ⟨q0, q1, q2, q3, q4⟩ := P1
  clear L0
  go_enter Tryd.func6, Tryd.ntmps6
  go_wp2_with (first | (go_at_call 28; refine ((C1 _ (HST.out.next HB.out)).out).mono ?_; rintro e w1 ⟨rfl, hb⟩; have HB1 := Lib.hid (below_nxt HB.out hb); have V1 := Lib.hid (HP0.out.step hb); have U1 := Lib.hid (HP1.out.step hb); clear hb; obtain ⟨p0, p1, p2, p3, p4⟩ := V1.out; obtain ⟨q0, q1, q2, q3, q4⟩ := U1.out) | (go_at_call 29; refine ((C2 _).out).mono ?_; rintro e Y ⟨rfl, hb⟩; have HBY := Lib.hid (below_nxt HB1.out hb); have V2 := Lib.hid (V1.out.step hb); clear hb))
  obtain ⟨t0, t1, t2, t3, t4⟩ := V2.out
  have HD := Lib.hid ((Below.refl Y.heap.size Y).drew)
  clear p0 p1 p2 p3 p4 q0 q1 q2 q3 q4
  refine wp_region_noPanic ?_
  refine wp_region_held_drew (S := (fun W => (W.cell? ⟨w.heap.size, 0, none⟩ = some (.int .i64 n) ∧ W.cell? ⟨w.heap.size, 1, none⟩ = some (.int .u64 (on : Int)) ∧ W.cell? ⟨w.heap.size, 2, none⟩ = some (.int .i64 m) ∧ W.cell? ⟨w.heap.size, 3, none⟩ = some (.int .u64 (fr : Int))) ∧ Hid (Below Y.heap.size Y W))) (by kernel_rfl) ?_ (fun hHeld => ?_)
  · exact ⟨⟨t1, t2, t3, t4⟩, HD⟩
  refine wpAnyH_take (i := 0) (v := ?_) rfl (by kernel_rfl) (by kernel_rfl) (by kernel_rfl) (fun _ _ _ h => h) (Or.inl ⟨by rfl, ?_⟩) (by assumption) ?_
  rotate_left 1
  · (intro w hSw; (try dsimp only at hSw); go_simp; (try with_reducible rfl))
  try simp only [Act.put, List.getElem_toArray, List.getElem_cons_succ, List.getElem_cons_zero, List.setIfInBounds_toArray, List.set_cons_zero, List.set_cons_succ]
  refine wpAnyH_take (i := 2) (v := ?_) rfl (by kernel_rfl) (by kernel_rfl) (by kernel_rfl) (fun _ _ _ h => h) (Or.inl ⟨by rfl, ?_⟩) (by assumption) ?_
  rotate_left 1
  · (intro w hSw; (try dsimp only at hSw); go_simp; (try with_reducible rfl))
  try simp only [Act.put, List.getElem_toArray, List.getElem_cons_succ, List.getElem_cons_zero, List.setIfInBounds_toArray, List.set_cons_zero, List.set_cons_succ]
  refine wpAnyH_ready (rs := [1]) (by kernel_rfl) (by simp) ?_
  refine AllReadyH.cons rfl (fun K hK => ?_) AllReadyH.nil
  go_simp
  (go_at_call 30; (with_reducible refine ((K1 _).out).mono ?_); rintro e w6 ⟨rfl, hw⟩; have hb := below_nxt HD.out hw; have HB6 := Lib.hid hb; have t60 := (hb.cell (p := ⟨w.heap.size, 0, none⟩) t0).trans t1; have t61 := (hb.cell (p := ⟨w.heap.size, 1, none⟩) t0).trans t2; have t62 := (hb.cell (p := ⟨w.heap.size, 2, none⟩) t0).trans t3; have t63 := (hb.cell (p := ⟨w.heap.size, 3, none⟩) t0).trans t4; clear hb hw)
  go_simp
  refine hK.out _ _ ?_ (fun hHeld => ?_)
  · exact ⟨⟨t60, t61, t62, t63⟩, HB6⟩
  clear hK K
  try simp only [Act.put, List.getElem_toArray, List.getElem_cons_succ, List.getElem_cons_zero, List.setIfInBounds_toArray, List.set_cons_zero, List.set_cons_succ]
  refine wpAnyH_ready (rs := [3]) (by kernel_rfl) (by simp) ?_
  refine AllReadyH.cons rfl (fun K hK => ?_) AllReadyH.nil
  go_simp
  (go_at_call 31; (with_reducible refine ((K2 _).out).mono ?_); rintro e w7 ⟨rfl, hw⟩; have hb := below_nxt HB6.out hw; have HB7 := Lib.hid hb; have t70 := (hb.cell (p := ⟨w.heap.size, 0, none⟩) t0).trans t1; have t71 := (hb.cell (p := ⟨w.heap.size, 1, none⟩) t0).trans t2; have t72 := (hb.cell (p := ⟨w.heap.size, 2, none⟩) t0).trans t3; have t73 := (hb.cell (p := ⟨w.heap.size, 3, none⟩) t0).trans t4; clear hb hw)
  go_simp
  refine hK.out _ _ ?_ (fun hHeld => ?_)
  · exact ⟨⟨t70, t71, t72, t73⟩, HB7⟩
  clear hK K
  try simp only [Act.put, List.getElem_toArray, List.getElem_cons_succ, List.getElem_cons_zero, List.setIfInBounds_toArray, List.set_cons_zero, List.set_cons_succ]
  refine wpAnyH_take (i := 4) (v := ?_) rfl (by kernel_rfl) (by kernel_rfl) (by kernel_rfl) (fun _ _ _ h => h) (Or.inl ⟨by rfl, ?_⟩) (by assumption) ?_
  rotate_left 1
  · (intro w hSw; (try dsimp only at hSw); go_simp; (try with_reducible rfl))
  try simp only [Act.put, List.getElem_toArray, List.getElem_cons_succ, List.getElem_cons_zero, List.setIfInBounds_toArray, List.set_cons_zero, List.set_cons_succ]
  refine wpAnyH_take (i := 5) (v := ?_) rfl (by kernel_rfl) (by kernel_rfl) (by kernel_rfl) (fun _ _ _ h => h) (Or.inl ⟨by rfl, ?_⟩) (by assumption) ?_
  rotate_left 1
  · (intro w hSw; (try dsimp only at hSw); go_simp; (try with_reducible rfl))
  try simp only [Act.put, List.getElem_toArray, List.getElem_cons_succ, List.getElem_cons_zero, List.setIfInBounds_toArray, List.set_cons_zero, List.set_cons_succ]
  refine wpAnyH_take (i := 6) (v := ?_) rfl (by kernel_rfl) (by kernel_rfl) (by kernel_rfl) (fun _ _ _ h => h) (Or.inl ⟨by rfl, ?_⟩) (by assumption) ?_
  rotate_left 1
  · (intro w hSw; (try dsimp only at hSw); go_simp; (try with_reducible rfl))
  try simp only [Act.put, List.getElem_toArray, List.getElem_cons_succ, List.getElem_cons_zero, List.setIfInBounds_toArray, List.set_cons_zero, List.set_cons_succ]
  refine wpAnyH_take (i := 7) (v := ?_) rfl (by kernel_rfl) (by kernel_rfl) (by kernel_rfl) (fun _ _ _ h => h) (Or.inl ⟨by rfl, ?_⟩) (by assumption) ?_
  rotate_left 1
  · (intro w hSw; (try dsimp only at hSw); go_simp; (try with_reducible rfl))
  try simp only [Act.put, List.getElem_toArray, List.getElem_cons_succ, List.getElem_cons_zero, List.setIfInBounds_toArray, List.set_cons_zero, List.set_cons_succ]
  refine wpAnyH_take (i := 8) (v := ?_) rfl (by kernel_rfl) (by kernel_rfl) (by kernel_rfl) (fun _ _ _ h => h) (Or.inl ⟨by rfl, ?_⟩) (by assumption) ?_
  rotate_left 1
  · (intro w hSw; (try dsimp only at hSw); go_simp; (try with_reducible rfl))
  try simp only [Act.put, List.getElem_toArray, List.getElem_cons_succ, List.getElem_cons_zero, List.setIfInBounds_toArray, List.set_cons_zero, List.set_cons_succ]
  refine wpAnyH_take (i := 9) (v := ?_) rfl (by kernel_rfl) (by kernel_rfl) (by kernel_rfl) (fun _ _ _ h => h) (Or.inl ⟨by rfl, ?_⟩) (by assumption) ?_
  rotate_left 1
  · (intro w hSw; (try dsimp only at hSw); go_simp; (try with_reducible rfl))
  try simp only [Act.put, List.getElem_toArray, List.getElem_cons_succ, List.getElem_cons_zero, List.setIfInBounds_toArray, List.set_cons_zero, List.set_cons_succ]
  refine wpAnyH_take (i := 10) (v := ?_) rfl (by kernel_rfl) (by kernel_rfl) (by kernel_rfl) (fun _ _ _ h => h) (Or.inl ⟨by rfl, ?_⟩) (by assumption) ?_
  rotate_left 1
  · (intro w hSw; (try dsimp only at hSw); go_simp; (try with_reducible rfl))
  try simp only [Act.put, List.getElem_toArray, List.getElem_cons_succ, List.getElem_cons_zero, List.setIfInBounds_toArray, List.set_cons_zero, List.set_cons_succ]
  refine wpAnyH_take (i := 11) (v := ?_) rfl (by kernel_rfl) (by kernel_rfl) (by kernel_rfl) (fun _ _ _ h => h) (Or.inl ⟨by rfl, ?_⟩) (by assumption) ?_
  rotate_left 1
  · (intro w hSw; (try dsimp only at hSw); go_simp; (try with_reducible rfl))
  try simp only [Act.put, List.getElem_toArray, List.getElem_cons_succ, List.getElem_cons_zero, List.setIfInBounds_toArray, List.set_cons_zero, List.set_cons_succ]
  refine wpAnyH_take (i := 12) (v := ?_) rfl (by kernel_rfl) (by kernel_rfl) (by kernel_rfl) (fun _ _ _ h => h) (Or.inl ⟨by rfl, ?_⟩) (by assumption) ?_
  rotate_left 1
  · (intro w hSw; (try dsimp only at hSw); go_simp; (try with_reducible rfl))
  try simp only [Act.put, List.getElem_toArray, List.getElem_cons_succ, List.getElem_cons_zero, List.setIfInBounds_toArray, List.set_cons_zero, List.set_cons_succ]
  refine wpAnyH_take (i := 13) (v := ?_) rfl (by kernel_rfl) (by kernel_rfl) (by kernel_rfl) (fun _ _ _ h => h) (Or.inl ⟨by rfl, ?_⟩) (by assumption) ?_
  rotate_left 1
  · (intro w hSw; (try dsimp only at hSw); go_simp; (try with_reducible rfl))
  try simp only [Act.put, List.getElem_toArray, List.getElem_cons_succ, List.getElem_cons_zero, List.setIfInBounds_toArray, List.set_cons_zero, List.set_cons_succ]
  refine wpAnyH_take (i := 14) (v := ?_) rfl (by kernel_rfl) (by kernel_rfl) (by kernel_rfl) (fun _ _ _ h => h) (Or.inl ⟨by rfl, ?_⟩) (by assumption) ?_
  rotate_left 1
  · (intro w hSw; (try dsimp only at hSw); go_simp; (try with_reducible rfl))
  try simp only [Act.put, List.getElem_toArray, List.getElem_cons_succ, List.getElem_cons_zero, List.setIfInBounds_toArray, List.set_cons_zero, List.set_cons_succ]
  refine wpAnyH_take (i := 15) (v := ?_) rfl (by kernel_rfl) (by kernel_rfl) (by kernel_rfl) (fun _ _ _ h => h) (Or.inl ⟨by rfl, ?_⟩) (by assumption) ?_
  rotate_left 1
  · (intro w hSw; (try dsimp only at hSw); go_simp; (try with_reducible rfl))
  try simp only [Act.put, List.getElem_toArray, List.getElem_cons_succ, List.getElem_cons_zero, List.setIfInBounds_toArray, List.set_cons_zero, List.set_cons_succ]
  refine wpAnyH_ready (rs := [16]) (by kernel_rfl) (by simp) ?_
  refine AllReadyH.cons rfl (fun K hK => ?_) AllReadyH.nil
  go_simp
  (go_at_call 17; (with_reducible refine (awake_any _ (HST.out.next (below_nxt HBY.out HB7.out))).mono ?_); rintro e w8 ⟨rfl, hw⟩; have hb := below_nxt HB7.out hw; have HB8 := Lib.hid hb; have t80 := (hb.cell (p := ⟨w.heap.size, 0, none⟩) t0).trans t1; have t81 := (hb.cell (p := ⟨w.heap.size, 1, none⟩) t0).trans t2; have t82 := (hb.cell (p := ⟨w.heap.size, 2, none⟩) t0).trans t3; have t83 := (hb.cell (p := ⟨w.heap.size, 3, none⟩) t0).trans t4; clear hb hw)
  go_simp
  refine hK.out _ _ ?_ (fun hHeld => ?_)
  · exact ⟨⟨t80, t81, t82, t83⟩, HB8⟩
  clear hK K
  try simp only [Act.put, List.getElem_toArray, List.getElem_cons_succ, List.getElem_cons_zero, List.setIfInBounds_toArray, List.set_cons_zero, List.set_cons_succ]
  refine wpAnyH_take (i := 17) (v := ?_) rfl (by kernel_rfl) (by kernel_rfl) (by kernel_rfl) (fun _ _ _ h => h) (Or.inl ⟨by rfl, ?_⟩) (by assumption) ?_
  rotate_left 1
  · (intro w hSw; (try dsimp only at hSw); go_simp; (try with_reducible rfl))
  try simp only [Act.put, List.getElem_toArray, List.getElem_cons_succ, List.getElem_cons_zero, List.setIfInBounds_toArray, List.set_cons_zero, List.set_cons_succ]
  refine wpAnyH_take (i := 18) (v := ?_) rfl (by kernel_rfl) (by kernel_rfl) (by kernel_rfl) (fun _ _ _ h => h) (Or.inl ⟨by rfl, ?_⟩) (by assumption) ?_
  rotate_left 1
  · (intro w hSw; (try dsimp only at hSw); go_simp; (try with_reducible rfl))
  try simp only [Act.put, List.getElem_toArray, List.getElem_cons_succ, List.getElem_cons_zero, List.setIfInBounds_toArray, List.set_cons_zero, List.set_cons_succ]
  refine wpAnyH_done (by kernel_rfl) ?_ _
  refine NoPanic.normal ?_
  go_wp2
  go_ret
  exact ⟨rfl, below_nxt HBY.out HB8.out⟩
theorem lawImplies_card (x0 y0 z0 u0 x1 y1 : Int) (W : World) (hst : St W) (_ : -9223372036854775808 ≤ x0) (_ : x0 ≤ 9223372036854775807) (h0 : 0 ≤ y0) (h1 : y0 ≤ 18446744073709551615) (_ : -9223372036854775808 ≤ z0) (_ : z0 ≤ 9223372036854775807) (h2 : 0 ≤ u0) (h3 : u0 ≤ 18446744073709551615) (h4 : 0 ≤ x1) (h5 : x1 ≤ 18446744073709551615) (h6 : 0 ≤ y1) (h7 : y1 ≤ 18446744073709551615) :
    Calls Tryd.prog 6 #[.agg #[.int .i64 x0, .int .u64 y0, .int .i64 z0, .int .u64 u0], .agg #[.int .u64 x1, .int .u64 y1]] W fun e w' => e = .returned (.bool true) ∧ Below W.heap.size W w' := by
  obtain ⟨on, rfl⟩ := Int.eq_ofNat_of_zero_le h0
  obtain ⟨fr, rfl⟩ := Int.eq_ofNat_of_zero_le h2
  obtain ⟨c, rfl⟩ := Int.eq_ofNat_of_zero_le h4
  obtain ⟨v, rfl⟩ := Int.eq_ofNat_of_zero_le h6
  exact lawImplies_any x0 on z0 fr c v W hst (by omega) (by omega) (by omega) (by omega)
end Go.Proofs.YtabflijfbjdpgaaDoor
