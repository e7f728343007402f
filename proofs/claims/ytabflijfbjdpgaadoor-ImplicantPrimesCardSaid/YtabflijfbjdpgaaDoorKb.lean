/- grows of the reference. -/
import Derived.Test.YtabflijfbjdpgaaDoorKa
import Derived.Test.YtabflijfbjdpgaaDoorJe
namespace Go.Proofs.YtabflijfbjdpgaaDoor
open Go.RowKit Go.Shelf

theorem cells_one (w : World) (i : Nat) (T : TypeId) : Cells .i64 (w.alloc (.cells #[.int .i64 (i : Int)] T)) (some ⟨w.heap.size, 0, none⟩) [i] := by
  obtain ⟨ao, cap, hv, -, -, hC⟩ := (Row.one 0 .i64 T w (Nat.zero_le _) i _ rfl).sees.opened
  cases hv
  exact hC

set_option linter.unusedSimpArgs false in
set_option maxHeartbeats 4000000 in
set_option maxRecDepth 100000 in
theorem rcGrows_any (n on : Nat) (m : Int) (fr c v : Nat) (w : World) (hn : n ≤ 6) (ho : on < 2 ^ 64) (hf : fr < 2 ^ 64) (hc : c < 2 ^ 64) (hv : v < 2 ^ 64) :
    Calls Tryd.prog 93 #[.agg #[.int .i64 n, .int .u64 on, .int .i64 m, .int .u64 fr], .agg #[.int .u64 c, .int .u64 v]] w fun e w' => e = .returned (.bool (!Ic.tight n on fr c v n)) ∧ Below w.heap.size w w' := by
  have CJ := fun i (hi : i < 6) W ao (hC : Cells .i64 W ao [i]) => Lib.hid (rcJoin1_any c v c v i ao 1 W hc hv hc hv hi hC (by omega) (by omega))
  simp only [Nat.or_self] at CJ
  have CG := fun i W => Lib.hid (rcGood_any n on m fr (c &&& (18446744073709551615 - 2 ^ i)) (v &&& (18446744073709551615 - 2 ^ i)) W hn ho hf (Ic.clr_lt hc))
  have HT := Lib.hid (fun i => Ic.tight_succ n on fr c v i)
  have HI := Lib.hid (fun i => Ic.good_imp (c := c &&& (18446744073709551615 - 2 ^ i)) (v := v &&& (18446744073709551615 - 2 ^ i)) hn ho hf)
  have E1 := fun i q => Lib.hid (bit1 (b := c) i (q := q) hc)
  have HB := Lib.hid (fun i (hi : i < n) h => show Ic.tight n on fr c v n = false from Ic.all_bad (p := fun i => !(c.testBit i && Ic.imp n on fr (c &&& (18446744073709551615 - 2 ^ i)) (v &&& (18446744073709551615 - 2 ^ i)))) hi h)
  have HT0 : Hid (Ic.tight n on fr c v 0 = true) := Lib.hid rfl
  obtain ⟨P1, L1, z1⟩ := cub1_new (w.alloc (.cells #[.int .i64 n, .int .u64 (on : Int), .int .i64 m, .int .u64 (fr : Int)] 61)) c v 24
  obtain ⟨P0, L0, z0⟩ := task_new w n on m fr 61
  replace P0 := P0.step L1
  replace L0 := below_nxt L0 L1
  rw [z0] at P1 z1
  clear L1 z0
  generalize hX : (w.alloc (.cells #[.int .i64 n, .int .u64 (on : Int), .int .i64 m, .int .u64 (fr : Int)] 61)).alloc (.cells #[.int .u64 (c : Int), .int .u64 (v : Int)] 24) = X at *
  clear hc hv ho hf
  go_enter Tryd.func93, Tryd.ntmps93
  go_wp2
  go_loopw [5] (fun s5 wr => ∃ k : Nat, k ≤ n ∧ s5 = .int .i64 k ∧ TaskI wr w.heap.size n on m fr ∧ CubI wr (w.heap.size + 1) c v ∧ Hid (Below w.heap.size w wr) ∧ Hid (Ic.tight n on fr c v k = true)) (fun s5 _ => n - (intOf s5).toNat)
  case atStart => exact ⟨0, Nat.zero_le _, rfl, P0, P1, Lib.hid L0, HT0⟩
  case round =>
    clear P0 P1 L0
    obtain ⟨k, hk, rfl, R0, R1, HW, HA⟩ := hrel
    obtain ⟨r0, r1, r2, r3, r4⟩ := id R0
    obtain ⟨s0, s1, s2, s3, s4⟩ := id R1
    have H0 := Lib.hid R0
    have H1 := Lib.hid R1
    clear R0 R1
    by_cases hkn : k < n
    · have CJ := CJ k (by omega)
      have CG := CG k
      rw [HI.out k] at CG
      have HBk := Lib.hid (HB.out k hkn)
      have HTk := Lib.hid (HT.out k)
      have F1 := fun q => Lib.hid ((E1 k q).out)
      clear E1 HB HT HI
      generalize c &&& (18446744073709551615 - 2 ^ k) = c' at *
      generalize v &&& (18446744073709551615 - 2 ^ k) = v' at *
      cases h1 : c.testBit k
      · have e1 := (F1 false).out h1
        rw [if_neg (by simp)] at e1
        go_wp2
        go_quiet (fail)
        go_wp2
        have hD := below_drewN (B := wr.heap.size) wr nq
        exact ⟨⟨k + 1, by omega, rfl, H0.out.step hD, H1.out.step hD, Lib.hid (below_nxt HW.out hD), Lib.hid (by rw [HTk.out, HA.out, h1]; rfl)⟩, by simp [intOf]; omega⟩
      · have e1 := (F1 true).out h1
        rw [if_pos rfl] at e1
        cases h2 : Ic.imp n on fr c' v' with
        | true =>
          rw [h2] at CG
          have hfin := HBk.out (by rw [h1, h2]; rfl)
          clear HBk HTk h1 h2
          go_wp2
          have HD := Lib.hid ((Below.refl wr.heap.size wr).drew)
          obtain ⟨q0, q1, q2, q3, q4⟩ := H0.out.step HD.out
          obtain ⟨t0, t1, t2, t3, t4⟩ := H1.out.step HD.out
          clear r1 r2 r3 r4 s1 s2 s3 s4
          refine wp_region_noPanic ?_
          refine wp_region_held_drew (S := (fun W => ((w.heap.size < W.heap.size ∧ W.cell? ⟨w.heap.size, 0, none⟩ = some (.int .i64 n) ∧ W.cell? ⟨w.heap.size, 1, none⟩ = some (.int .u64 (on : Int)) ∧ W.cell? ⟨w.heap.size, 2, none⟩ = some (.int .i64 m) ∧ W.cell? ⟨w.heap.size, 3, none⟩ = some (.int .u64 (fr : Int))) ∧ (w.heap.size + 1 < W.heap.size ∧ W.cell? ⟨w.heap.size + 1, 0, none⟩ = some (.int .u64 (c : Int)) ∧ W.cell? ⟨w.heap.size + 1, 1, none⟩ = some (.int .u64 (v : Int)) ∧ W.frozen? ⟨w.heap.size + 1, 0, none⟩ = false ∧ W.frozen? ⟨w.heap.size + 1, 1, none⟩ = false) ∧ Hid (Below wr.heap.size wr W)))) (by kernel_rfl) ?_ (fun hHeld => ?_)
          · exact ⟨⟨q0, q1, q2, q3, q4⟩, ⟨t0, t1, t2, t3, t4⟩, HD⟩
          refine wpAnyH_take (i := 0) (v := ?_) rfl (by kernel_rfl) (by kernel_rfl) (by kernel_rfl) (fun _ _ _ h => h) (Or.inl ⟨by rfl, ?_⟩) (by assumption) ?_
          rotate_left 1
          · (intro w hSw; (try dsimp only at hSw); go_simp; (try with_reducible rfl))
          try simp only [Act.put, List.getElem_toArray, List.getElem_cons_succ, List.getElem_cons_zero, List.setIfInBounds_toArray, List.set_cons_zero, List.set_cons_succ]
          refine wpAnyH_take (i := 1) (v := ?_) rfl (by kernel_rfl) (by kernel_rfl) (by kernel_rfl) (fun _ _ _ h => h) (Or.inl ⟨by rfl, ?_⟩) (by assumption) ?_
          rotate_left 1
          · (intro w hSw; (try dsimp only at hSw); go_simp; (try with_reducible rfl))
          try simp only [Act.put, List.getElem_toArray, List.getElem_cons_succ, List.getElem_cons_zero, List.setIfInBounds_toArray, List.set_cons_zero, List.set_cons_succ]
          refine wpAnyH_take (i := 2) (v := ?_) rfl (by kernel_rfl) (by kernel_rfl) (by kernel_rfl) (fun _ _ _ h => h) (Or.inl ⟨by rfl, ?_⟩) (by assumption) ?_
          rotate_left 1
          · (intro w hSw; (try dsimp only at hSw); go_simp; (try with_reducible rfl))
          try simp only [Act.put, List.getElem_toArray, List.getElem_cons_succ, List.getElem_cons_zero, List.setIfInBounds_toArray, List.set_cons_zero, List.set_cons_succ]
          refine wpAnyH_take (i := 3) (v := ?_) rfl (by kernel_rfl) (by kernel_rfl) (by kernel_rfl) (fun _ _ _ h => h) (Or.inl ⟨by rfl, ?_⟩) (by assumption) ?_
          rotate_left 1
          · (intro w hSw; (try dsimp only at hSw); go_simp; (try with_reducible rfl))
          try simp only [Act.put, List.getElem_toArray, List.getElem_cons_succ, List.getElem_cons_zero, List.setIfInBounds_toArray, List.set_cons_zero, List.set_cons_succ]
          refine wpAnyH_take (i := 4) (v := ?_) rfl (by kernel_rfl) (by kernel_rfl) (by kernel_rfl) (fun _ _ _ h => h) (Or.inl ⟨by rfl, ?_⟩) (by assumption) ?_
          rotate_left 1
          · (intro w hSw; (try dsimp only at hSw); go_simp; (try with_reducible rfl))
          try simp only [Act.put, List.getElem_toArray, List.getElem_cons_succ, List.getElem_cons_zero, List.setIfInBounds_toArray, List.set_cons_zero, List.set_cons_succ]
          refine wpAnyH_take (i := 5) (v := ?_) rfl (by kernel_rfl) (by kernel_rfl) (by kernel_rfl) (fun _ _ _ h => h) (Or.inl ⟨by rfl, ?_⟩) (by assumption) ?_
          rotate_left 1
          · (intro w hSw; (try dsimp only at hSw); go_simp; (try with_reducible rfl))
          try simp only [Act.put, List.getElem_toArray, List.getElem_cons_succ, List.getElem_cons_zero, List.setIfInBounds_toArray, List.set_cons_zero, List.set_cons_succ]
          refine wpAnyH_take (i := 6) (v := ?_) rfl (by kernel_rfl) (by kernel_rfl) (by kernel_rfl) (fun _ _ _ h => h) (Or.inl ⟨by rfl, ?_⟩) (by assumption) ?_
          rotate_left 1
          · (intro w hSw; (try dsimp only at hSw); go_simp; (try with_reducible rfl))
          try simp only [Act.put, List.getElem_toArray, List.getElem_cons_succ, List.getElem_cons_zero, List.setIfInBounds_toArray, List.set_cons_zero, List.set_cons_succ]
          refine wpAnyH_take (i := 7) (v := ?_) rfl (by kernel_rfl) (by kernel_rfl) (by kernel_rfl) (fun _ _ _ h => h) (Or.inl ⟨by rfl, ?_⟩) (by assumption) ?_
          rotate_left 1
          · (intro w hSw; (try dsimp only at hSw); go_simp; (try with_reducible rfl))
          try simp only [Act.put, List.getElem_toArray, List.getElem_cons_succ, List.getElem_cons_zero, List.setIfInBounds_toArray, List.set_cons_zero, List.set_cons_succ]
          refine wpAnyH_take (i := 8) (v := ?_) rfl (by kernel_rfl) (by kernel_rfl) (by kernel_rfl) (fun _ _ _ h => h) (Or.inl ⟨by rfl, ?_⟩) (by assumption) ?_
          rotate_left 1
          · (intro w hSw; (try dsimp only at hSw); go_simp; (try with_reducible rfl))
          try simp only [Act.put, List.getElem_toArray, List.getElem_cons_succ, List.getElem_cons_zero, List.setIfInBounds_toArray, List.set_cons_zero, List.set_cons_succ]
          refine wpAnyH_take (i := 9) (v := ?_) rfl (by kernel_rfl) (by kernel_rfl) (by kernel_rfl) (fun _ _ _ h => h) (Or.inl ⟨by rfl, ?_⟩) (by assumption) ?_
          rotate_left 1
          · (intro w hSw; (try dsimp only at hSw); go_simp; (try with_reducible rfl))
          try simp only [Act.put, List.getElem_toArray, List.getElem_cons_succ, List.getElem_cons_zero, List.setIfInBounds_toArray, List.set_cons_zero, List.set_cons_succ]
          refine wpAnyH_take (i := 10) (v := ?_) rfl (by kernel_rfl) (by kernel_rfl) (by kernel_rfl) (fun _ _ _ h => h) (Or.inl ⟨by rfl, ?_⟩) (by assumption) ?_
          rotate_left 1
          · (intro w hSw; (try dsimp only at hSw); go_simp; (try with_reducible rfl))
          try simp only [Act.put, List.getElem_toArray, List.getElem_cons_succ, List.getElem_cons_zero, List.setIfInBounds_toArray, List.set_cons_zero, List.set_cons_succ]
          refine wpAnyH_ready (rs := [11]) (by kernel_rfl) (by simp) ?_
          refine AllReadyH.cons rfl (fun K hK => ?_) AllReadyH.nil
          go_simp
          (have HB2 : Hid (Below wr.heap.size wr (wr.alloc (.cells #[.int .i64 (k : Int)] 3)).drew) := Lib.hid (((Below.refl _ _).alloc (Nat.le_refl _) (.cells #[.int .i64 (k : Int)] 3)).drew); have CE : Hid (Cells .i64 (wr.alloc (.cells #[.int .i64 (k : Int)] 3)).drew (some ⟨wr.heap.size, 0, none⟩) [k]) := Lib.hid (cells_one wr.drew k 3))
          go_simp
          refine hK.out _ _ ?_ (fun hHeld => ?_)
          · exact ⟨H0.out.step HB2.out, H1.out.step HB2.out, HB2⟩
          clear hK K
          try simp only [Act.put, List.getElem_toArray, List.getElem_cons_succ, List.getElem_cons_zero, List.setIfInBounds_toArray, List.set_cons_zero, List.set_cons_succ]
          refine wpAnyH_ready (rs := [12]) (by kernel_rfl) (by simp) ?_
          refine AllReadyH.cons rfl (fun K hK => ?_) AllReadyH.nil
          go_simp
          (go_at_call 57; (with_reducible refine ((CJ _ _ CE.out).out).mono ?_); rintro e w3 ⟨rfl, hb⟩; have HB3 := Lib.hid (below_nxt HB2.out hb); clear hb)
          go_simp
          refine hK.out _ _ ?_ (fun hHeld => ?_)
          · exact ⟨H0.out.step HB3.out, H1.out.step HB3.out, HB3⟩
          clear hK K
          try simp only [Act.put, List.getElem_toArray, List.getElem_cons_succ, List.getElem_cons_zero, List.setIfInBounds_toArray, List.set_cons_zero, List.set_cons_succ]
          refine wpAnyH_ready (rs := [13]) (by kernel_rfl) (by simp) ?_
          refine AllReadyH.cons rfl (fun K hK => ?_) AllReadyH.nil
          go_simp
          (go_at_call 64; (with_reducible refine ((CG _).out).mono ?_); rintro e w4 ⟨rfl, hb⟩; have HB4 := Lib.hid (below_nxt HB3.out hb); clear hb)
          go_simp
          refine hK.out _ _ ?_ (fun hHeld => ?_)
          · exact ⟨H0.out.step HB4.out, H1.out.step HB4.out, HB4⟩
          clear hK K
          try simp only [Act.put, List.getElem_toArray, List.getElem_cons_succ, List.getElem_cons_zero, List.setIfInBounds_toArray, List.set_cons_zero, List.set_cons_succ]
          refine wpAnyH_take (i := 14) (v := ?_) rfl (by kernel_rfl) (by kernel_rfl) (by kernel_rfl) (fun _ _ _ h => h) (Or.inl ⟨by rfl, ?_⟩) (by assumption) ?_
          rotate_left 1
          · (intro w hSw; (try dsimp only at hSw); go_simp; (try with_reducible rfl))
          try simp only [Act.put, List.getElem_toArray, List.getElem_cons_succ, List.getElem_cons_zero, List.setIfInBounds_toArray, List.set_cons_zero, List.set_cons_succ]
          refine wpAnyH_done (by kernel_rfl) ?_ _
          refine NoPanic.normal ?_
          go_wp2
          go_ret
          exact ⟨by rw [hfin]; rfl, below_nxt HW.out HB4.out⟩
        | false =>
          rw [h2] at CG
          have hfin : Hid (Ic.tight n on fr c v (k + 1) = true) := Lib.hid (by rw [HTk.out, HA.out, h1, h2]; rfl)
          clear HBk HTk h1 h2
          go_wp2
          have HD := Lib.hid ((Below.refl wr.heap.size wr).drew)
          obtain ⟨q0, q1, q2, q3, q4⟩ := H0.out.step HD.out
          obtain ⟨t0, t1, t2, t3, t4⟩ := H1.out.step HD.out
          clear r1 r2 r3 r4 s1 s2 s3 s4
          refine wp_region_noPanic ?_
          refine wp_region_held_drew (S := (fun W => ((w.heap.size < W.heap.size ∧ W.cell? ⟨w.heap.size, 0, none⟩ = some (.int .i64 n) ∧ W.cell? ⟨w.heap.size, 1, none⟩ = some (.int .u64 (on : Int)) ∧ W.cell? ⟨w.heap.size, 2, none⟩ = some (.int .i64 m) ∧ W.cell? ⟨w.heap.size, 3, none⟩ = some (.int .u64 (fr : Int))) ∧ (w.heap.size + 1 < W.heap.size ∧ W.cell? ⟨w.heap.size + 1, 0, none⟩ = some (.int .u64 (c : Int)) ∧ W.cell? ⟨w.heap.size + 1, 1, none⟩ = some (.int .u64 (v : Int)) ∧ W.frozen? ⟨w.heap.size + 1, 0, none⟩ = false ∧ W.frozen? ⟨w.heap.size + 1, 1, none⟩ = false) ∧ Hid (Below wr.heap.size wr W)))) (by kernel_rfl) ?_ (fun hHeld => ?_)
          · exact ⟨⟨q0, q1, q2, q3, q4⟩, ⟨t0, t1, t2, t3, t4⟩, HD⟩
          refine wpAnyH_take (i := 0) (v := ?_) rfl (by kernel_rfl) (by kernel_rfl) (by kernel_rfl) (fun _ _ _ h => h) (Or.inl ⟨by rfl, ?_⟩) (by assumption) ?_
          rotate_left 1
          · (intro w hSw; (try dsimp only at hSw); go_simp; (try with_reducible rfl))
          try simp only [Act.put, List.getElem_toArray, List.getElem_cons_succ, List.getElem_cons_zero, List.setIfInBounds_toArray, List.set_cons_zero, List.set_cons_succ]
          refine wpAnyH_take (i := 1) (v := ?_) rfl (by kernel_rfl) (by kernel_rfl) (by kernel_rfl) (fun _ _ _ h => h) (Or.inl ⟨by rfl, ?_⟩) (by assumption) ?_
          rotate_left 1
          · (intro w hSw; (try dsimp only at hSw); go_simp; (try with_reducible rfl))
          try simp only [Act.put, List.getElem_toArray, List.getElem_cons_succ, List.getElem_cons_zero, List.setIfInBounds_toArray, List.set_cons_zero, List.set_cons_succ]
          refine wpAnyH_take (i := 2) (v := ?_) rfl (by kernel_rfl) (by kernel_rfl) (by kernel_rfl) (fun _ _ _ h => h) (Or.inl ⟨by rfl, ?_⟩) (by assumption) ?_
          rotate_left 1
          · (intro w hSw; (try dsimp only at hSw); go_simp; (try with_reducible rfl))
          try simp only [Act.put, List.getElem_toArray, List.getElem_cons_succ, List.getElem_cons_zero, List.setIfInBounds_toArray, List.set_cons_zero, List.set_cons_succ]
          refine wpAnyH_take (i := 3) (v := ?_) rfl (by kernel_rfl) (by kernel_rfl) (by kernel_rfl) (fun _ _ _ h => h) (Or.inl ⟨by rfl, ?_⟩) (by assumption) ?_
          rotate_left 1
          · (intro w hSw; (try dsimp only at hSw); go_simp; (try with_reducible rfl))
          try simp only [Act.put, List.getElem_toArray, List.getElem_cons_succ, List.getElem_cons_zero, List.setIfInBounds_toArray, List.set_cons_zero, List.set_cons_succ]
          refine wpAnyH_take (i := 4) (v := ?_) rfl (by kernel_rfl) (by kernel_rfl) (by kernel_rfl) (fun _ _ _ h => h) (Or.inl ⟨by rfl, ?_⟩) (by assumption) ?_
          rotate_left 1
          · (intro w hSw; (try dsimp only at hSw); go_simp; (try with_reducible rfl))
          try simp only [Act.put, List.getElem_toArray, List.getElem_cons_succ, List.getElem_cons_zero, List.setIfInBounds_toArray, List.set_cons_zero, List.set_cons_succ]
          refine wpAnyH_take (i := 5) (v := ?_) rfl (by kernel_rfl) (by kernel_rfl) (by kernel_rfl) (fun _ _ _ h => h) (Or.inl ⟨by rfl, ?_⟩) (by assumption) ?_
          rotate_left 1
          · (intro w hSw; (try dsimp only at hSw); go_simp; (try with_reducible rfl))
          try simp only [Act.put, List.getElem_toArray, List.getElem_cons_succ, List.getElem_cons_zero, List.setIfInBounds_toArray, List.set_cons_zero, List.set_cons_succ]
          refine wpAnyH_take (i := 6) (v := ?_) rfl (by kernel_rfl) (by kernel_rfl) (by kernel_rfl) (fun _ _ _ h => h) (Or.inl ⟨by rfl, ?_⟩) (by assumption) ?_
          rotate_left 1
          · (intro w hSw; (try dsimp only at hSw); go_simp; (try with_reducible rfl))
          try simp only [Act.put, List.getElem_toArray, List.getElem_cons_succ, List.getElem_cons_zero, List.setIfInBounds_toArray, List.set_cons_zero, List.set_cons_succ]
          refine wpAnyH_take (i := 7) (v := ?_) rfl (by kernel_rfl) (by kernel_rfl) (by kernel_rfl) (fun _ _ _ h => h) (Or.inl ⟨by rfl, ?_⟩) (by assumption) ?_
          rotate_left 1
          · (intro w hSw; (try dsimp only at hSw); go_simp; (try with_reducible rfl))
          try simp only [Act.put, List.getElem_toArray, List.getElem_cons_succ, List.getElem_cons_zero, List.setIfInBounds_toArray, List.set_cons_zero, List.set_cons_succ]
          refine wpAnyH_take (i := 8) (v := ?_) rfl (by kernel_rfl) (by kernel_rfl) (by kernel_rfl) (fun _ _ _ h => h) (Or.inl ⟨by rfl, ?_⟩) (by assumption) ?_
          rotate_left 1
          · (intro w hSw; (try dsimp only at hSw); go_simp; (try with_reducible rfl))
          try simp only [Act.put, List.getElem_toArray, List.getElem_cons_succ, List.getElem_cons_zero, List.setIfInBounds_toArray, List.set_cons_zero, List.set_cons_succ]
          refine wpAnyH_take (i := 9) (v := ?_) rfl (by kernel_rfl) (by kernel_rfl) (by kernel_rfl) (fun _ _ _ h => h) (Or.inl ⟨by rfl, ?_⟩) (by assumption) ?_
          rotate_left 1
          · (intro w hSw; (try dsimp only at hSw); go_simp; (try with_reducible rfl))
          try simp only [Act.put, List.getElem_toArray, List.getElem_cons_succ, List.getElem_cons_zero, List.setIfInBounds_toArray, List.set_cons_zero, List.set_cons_succ]
          refine wpAnyH_take (i := 10) (v := ?_) rfl (by kernel_rfl) (by kernel_rfl) (by kernel_rfl) (fun _ _ _ h => h) (Or.inl ⟨by rfl, ?_⟩) (by assumption) ?_
          rotate_left 1
          · (intro w hSw; (try dsimp only at hSw); go_simp; (try with_reducible rfl))
          try simp only [Act.put, List.getElem_toArray, List.getElem_cons_succ, List.getElem_cons_zero, List.setIfInBounds_toArray, List.set_cons_zero, List.set_cons_succ]
          refine wpAnyH_ready (rs := [11]) (by kernel_rfl) (by simp) ?_
          refine AllReadyH.cons rfl (fun K hK => ?_) AllReadyH.nil
          go_simp
          (have HB2 : Hid (Below wr.heap.size wr (wr.alloc (.cells #[.int .i64 (k : Int)] 3)).drew) := Lib.hid (((Below.refl _ _).alloc (Nat.le_refl _) (.cells #[.int .i64 (k : Int)] 3)).drew); have CE : Hid (Cells .i64 (wr.alloc (.cells #[.int .i64 (k : Int)] 3)).drew (some ⟨wr.heap.size, 0, none⟩) [k]) := Lib.hid (cells_one wr.drew k 3))
          go_simp
          refine hK.out _ _ ?_ (fun hHeld => ?_)
          · exact ⟨H0.out.step HB2.out, H1.out.step HB2.out, HB2⟩
          clear hK K
          try simp only [Act.put, List.getElem_toArray, List.getElem_cons_succ, List.getElem_cons_zero, List.setIfInBounds_toArray, List.set_cons_zero, List.set_cons_succ]
          refine wpAnyH_ready (rs := [12]) (by kernel_rfl) (by simp) ?_
          refine AllReadyH.cons rfl (fun K hK => ?_) AllReadyH.nil
          go_simp
          (go_at_call 57; (with_reducible refine ((CJ _ _ CE.out).out).mono ?_); rintro e w3 ⟨rfl, hb⟩; have HB3 := Lib.hid (below_nxt HB2.out hb); clear hb)
          go_simp
          refine hK.out _ _ ?_ (fun hHeld => ?_)
          · exact ⟨H0.out.step HB3.out, H1.out.step HB3.out, HB3⟩
          clear hK K
          try simp only [Act.put, List.getElem_toArray, List.getElem_cons_succ, List.getElem_cons_zero, List.setIfInBounds_toArray, List.set_cons_zero, List.set_cons_succ]
          refine wpAnyH_ready (rs := [13]) (by kernel_rfl) (by simp) ?_
          refine AllReadyH.cons rfl (fun K hK => ?_) AllReadyH.nil
          go_simp
          (go_at_call 64; (with_reducible refine ((CG _).out).mono ?_); rintro e w4 ⟨rfl, hb⟩; have HB4 := Lib.hid (below_nxt HB3.out hb); clear hb)
          go_simp
          refine hK.out _ _ ?_ (fun hHeld => ?_)
          · exact ⟨H0.out.step HB4.out, H1.out.step HB4.out, HB4⟩
          clear hK K
          try simp only [Act.put, List.getElem_toArray, List.getElem_cons_succ, List.getElem_cons_zero, List.setIfInBounds_toArray, List.set_cons_zero, List.set_cons_succ]
          refine wpAnyH_take (i := 14) (v := ?_) rfl (by kernel_rfl) (by kernel_rfl) (by kernel_rfl) (fun _ _ _ h => h) (Or.inl ⟨by rfl, ?_⟩) (by assumption) ?_
          rotate_left 1
          · (intro w hSw; (try dsimp only at hSw); go_simp; (try with_reducible rfl))
          try simp only [Act.put, List.getElem_toArray, List.getElem_cons_succ, List.getElem_cons_zero, List.setIfInBounds_toArray, List.set_cons_zero, List.set_cons_succ]
          refine wpAnyH_done (by kernel_rfl) ?_ _
          refine NoPanic.normal ?_
          go_wp2
          exact ⟨⟨k + 1, by omega, rfl, H0.out.step HB4.out, H1.out.step HB4.out, Lib.hid (below_nxt HW.out HB4.out), hfin⟩, by simp [intOf]; omega⟩
    · obtain rfl : k = n := by omega
      go_wp2
      go_ret
      exact ⟨by rw [HA.out]; rfl, HW.out⟩
end Go.Proofs.YtabflijfbjdpgaaDoor
