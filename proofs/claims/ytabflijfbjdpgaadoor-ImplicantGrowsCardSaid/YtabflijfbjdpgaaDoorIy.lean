/- The points of a cube, and its function, of the reference. -/
import Derived.Test.YtabflijfbjdpgaaDoorIx
namespace Go.Proofs.YtabflijfbjdpgaaDoor
open Go.RowKit Go.Shelf

set_option maxHeartbeats 1000000 in
set_option maxRecDepth 100000 in
theorem rcPoints_any (n c v : Nat) (w : World) (hn : n ≤ 6) (hc : c < 2 ^ 64) :
    Calls Tryd.prog 46 #[.int .i64 n, .agg #[.int .u64 c, .int .u64 v]] w fun e w' => ∃ sv, e = .returned sv ∧ Row (w.heap.size + 1) .i64 3 w' sv (Tt.pts (Ic.inn c v) (2 ^ n)) ∧ Below w.heap.size w w' := by
  have hN := Tt.size_le hn
  have CS := fun W => Lib.hid (rSize_any n W (by omega) (by omega))
  rw [Int.toNat_natCast] at CS
  have CIn := fun k (hk : k < 64) W => Lib.hid (rcIn_any c v k W hk hc)
  clear hc
  generalize 2 ^ n = N at *
  obtain ⟨i0, hi, hz0, hz1, hz2⟩ := info_parts Tryd.infoI64
  obtain ⟨P0, L0, z0⟩ := cub1_new w c v 24
  generalize hX : w.alloc (.cells #[.int .u64 (c : Int), .int .u64 (v : Int)] 24) = X at *
  go_enter Tryd.func46, Tryd.ntmps46
  go_wp2
  go_loopw [5, 6] (fun s5 s6 wr => ∃ k : Nat, k ≤ N ∧ s6 = .int .i64 k ∧ Row (w.heap.size + 1) .i64 3 wr s5 (Tt.pts (Ic.inn c v) k) ∧ CubI wr w.heap.size c v ∧ Hid (Below w.heap.size w wr)) (fun _ s6 _ => N - (intOf s6).toNat)
  case atStart => exact ⟨0, Nat.zero_le _, rfl, Row.nil _ _ _ _, P0, Lib.hid L0⟩
  case round =>
    clear P0 L0
    obtain ⟨k, hk, rfl, hrow, T0, HW⟩ := hrel
    have hwb : w.heap.size + 1 ≤ wr.heap.size := by have := T0.1; omega
    obtain ⟨c00, c01, c02, c03, c04⟩ := id T0
    by_cases hkN : k < N
    · have HS := Lib.hid (Tt.pts_succ (Ic.inn c v) k)
      have hlen := Tt.pts_len (Ic.inn c v) k
      have CI := CIn k (by omega)
      cases hbit : Ic.inn c v k
      · rw [hbit] at CI
        have HS2 := Lib.hid (HS.out.trans (if_neg (by simp [hbit])))
        clear HS hbit
        generalize Tt.pts (Ic.inn c v) k = l at *
        go_wp2_with (first | (go_at_call 47; refine ((CS _).out).mono ?_; rintro e w2 ⟨rfl, rfl⟩) | (go_at_call 48; refine ((CI _).out).mono ?_; rintro e w1 ⟨rfl, hb1⟩; have hrow' := hrow.below hb1 (Nat.le_refl _); have zb1 := hb1.size; have HW' := Lib.hid (HW.out.trans (hb1.mono HW.out.size)); have T0' := T0.step hb1; clear hb1))
        exact ⟨⟨k + 1, by omega, rfl, by rw [HS2.out]; exact hrow', T0', HW'⟩, by simp [intOf]; omega⟩
      · rw [hbit] at CI
        have HS2 := Lib.hid (HS.out.trans (if_pos (by simp [hbit])))
        clear HS hbit
        generalize Tt.pts (Ic.inn c v) k = l at *
        go_wp2_with (first | (go_at_call 47; refine ((CS _).out).mono ?_; rintro e w2 ⟨rfl, rfl⟩) | (go_at_call 48; refine ((CI _).out).mono ?_; rintro e w1 ⟨rfl, hb1⟩; have hrow' := hrow.below hb1 (Nat.le_refl _); have zb1 := hb1.size; have HW' := Lib.hid (HW.out.trans (hb1.mono HW.out.size)); have T0' := T0.step hb1; clear hb1) | (at_builtin; refine wpList_append_nat rfl _ _ 71 rfl 3 i0 .i64 8 Tryd.underlying71 hi hz0 hz1 hz2 (by omega) _ _ l [k] rfl rfl (w.heap.size + 1) (hrow'.below ((Below.refl _ _).alloc (Nat.le_refl _) _) (Nat.le_refl _)) ((Row.one 0 _ _ _ (Nat.zero_le _) k _ rfl).sees) (by simp; omega) (by simp; omega) ?_; intro v5 w5 hr5 hb5))
        have hbA := ((Below.refl w1.heap.size w1).alloc (Nat.le_refl _) (.cells #[.int .i64 (k : Int)] 3)).mono (show w.heap.size + 1 ≤ w1.heap.size by omega)
        have hbB := hbA.trans hb5
        exact ⟨⟨k + 1, by omega, rfl, by rw [HS2.out]; exact hr5, T0'.below (by omega) hbB, Lib.hid (HW'.out.trans (hbB.mono (by omega)))⟩, by simp [intOf]; omega⟩
    · obtain rfl : k = N := by omega
      go_wp2_with (first | (go_at_call 47; refine ((CS _).out).mono ?_; rintro e w2 ⟨rfl, rfl⟩) | (go_at_call 48; refine ((CI _).out).mono ?_; rintro e w1 ⟨rfl, hb1⟩; have hrow' := hrow.below hb1 (Nat.le_refl _); have zb1 := hb1.size; have HW' := Lib.hid (HW.out.trans (hb1.mono HW.out.size)); have T0' := T0.step hb1; clear hb1))
      go_ret
      exact ⟨u5, rfl, hrow, HW.out⟩

set_option maxHeartbeats 4000000 in
set_option maxRecDepth 100000 in
theorem rcTab_any (n : Int) (c v : Nat) (w : World) (hc : c < 2 ^ 64) (hv : v < 2 ^ 64) :
    Calls Tryd.prog 14 #[.int .i64 n, .agg #[.int .u64 c, .int .u64 v]] w fun e w' => e = .returned (.tuple #[.agg #[.int .i64 (Ic.tabV n c v).1.1, .int .u64 ((Ic.tabV n c v).1.2 : Nat)], .int .i64 (Ic.tabV n c v).2]) ∧ Below w.heap.size w w' := by
  have CK := fun W => Lib.hid (rcCheck_any n c v W hc hv)
  obtain ⟨P0, L0, z0⟩ := cub1_new w c v 24
  obtain ⟨PT, LT, zT⟩ := tab1_new (w.alloc (.cells #[.int .u64 (c : Int), .int .u64 (v : Int)] 24)) 0 0 32
  replace P0 := P0.step LT
  replace L0 := below_nxt L0 LT
  rw [z0] at PT zT
  clear LT z0
  simp only [Int.natCast_zero] at PT L0 P0 zT
  generalize hX : (w.alloc (.cells #[.int .u64 (c : Int), .int .u64 (v : Int)] 24)).alloc (.cells #[.int .i64 0, .int .u64 0] 32) = X at *
  obtain ⟨p0, p1, p2, p3, p4⟩ := id P0
  by_cases h : Ic.chk n c v = 0
  · obtain ⟨m, rfl, hm, hcm, hs⟩ := Ic.chk_nat hv h
    rw [h] at CK
    have CP := fun W => Lib.hid (rcPoints_any m c v W hm hc)
    have CM := fun sv W (h : Sees .i64 W sv (Tt.pts (Ic.inn c v) (2 ^ m))) => Lib.hid (rMade_any m sv _ W hm h (Nat.le_trans (Tt.pts_len _ _) (Tt.size_le hm)))
    rw [mk_pts] at CM
    have hE : Tt.mk m (Ic.inn c v) = Ic.tab m c v := rfl
    rw [hE] at CM
    unfold Ic.tabV
    rw [h, if_neg (by simp), Int.toNat_natCast]
    generalize Ic.tab m c v = t at *
    go_enter Tryd.func14, Tryd.ntmps14
    go_wp2_with (first | (go_at_call 16; refine ((CK _).out).mono ?_; rintro e w1 ⟨rfl, hb1⟩; have HB := Lib.hid (below_nxt L0 hb1); obtain ⟨q0, q1, q2, q3, q4⟩ := P0.step hb1; have PT1 := PT.step hb1) | (go_at_call 46; refine ((CP _).out).mono ?_; rintro e w2 ⟨sv, rfl, hsv, hb2⟩; have HB2 := Lib.hid (below_nxt HB.out hb2); have PT2 := PT1.step hb2; have HSV := Lib.hid hsv.sees; clear hsv) | (go_at_call 45; refine ((CM _ _ HSV.out).out).mono ?_; rintro e w3 ⟨rfl, hb3⟩; have HB3 := Lib.hid (below_nxt HB2.out hb3); obtain ⟨t0, t1, t2, t3, t4⟩ := PT2.step hb3))
    exact bodyPost_ret (v := .tuple #[.agg #[.int .i64 m, .int .u64 t], .int .i64 0]) (by simp [results, Tryd.results14, go_sem, t1, t2]) rfl ⟨rfl, below_put2 HB3.out (by omega) _ _⟩
  · unfold Ic.tabV
    rw [if_pos h]
    have hne : (Ic.chk n c v != 0) = true := by simp [h]
    generalize Ic.chk n c v = k at *
    go_enter Tryd.func14, Tryd.ntmps14
    go_wp2_with (go_at_call 16; refine ((CK _).out).mono ?_; rintro e w1 ⟨rfl, hb1⟩; have HB := Lib.hid (below_nxt L0 hb1); obtain ⟨t0, t1, t2, t3, t4⟩ := PT.step hb1)
    exact bodyPost_ret (v := .tuple #[.agg #[.int .i64 0, .int .u64 0], .int .i64 k]) (by simp [results, Tryd.results14, go_sem, t1, t2]) rfl ⟨rfl, below_put2 HB.out (by omega) _ _⟩
end Go.Proofs.YtabflijfbjdpgaaDoor
