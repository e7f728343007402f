/- Within, Inside and Opposed of the reference. -/
import Derived.Test.YtabflijfbjdpgaaDoorIx
import Derived.Test.YtabflijfbjdpgaaDoorUk
namespace Go.Proofs.YtabflijfbjdpgaaDoor
open Go.RowKit Go.Shelf

set_option maxHeartbeats 2000000 in
set_option maxRecDepth 100000 in
theorem rcWithin_any (n c v d u : Nat) (w : World) (hn : n ≤ 6) (hc : c < 2 ^ 64) (hd : d < 2 ^ 64) :
    Calls Tryd.prog 55 #[.int .i64 n, .agg #[.int .u64 c, .int .u64 v], .agg #[.int .u64 d, .int .u64 u]] w fun e w' => e = .returned (.bool (Ic.within n c v d u)) ∧ Below w.heap.size w w' := by
  have hN := Tt.size_le hn
  have CS := fun W => Lib.hid (rSize_any n W (by omega) (by omega))
  rw [Int.toNat_natCast] at CS
  have CAn := fun k (hk : k < 64) W => Lib.hid (rcIn_any c v k W hk hc)
  have CBn := fun k (hk : k < 64) W => Lib.hid (rcIn_any d u k W hk hd)
  have HG := Lib.hid (show Ic.within n c v d u = (List.range (2 ^ n)).all (fun k => !Ic.inn c v k || Ic.inn d u k) from rfl)
  generalize Ic.within n c v d u = gd at *
  generalize 2 ^ n = N at *
  obtain ⟨P0, P1, L0, z0⟩ := cub2_new w c v d u 24
  generalize hX : (w.alloc (.cells #[.int .u64 (c : Int), .int .u64 (v : Int)] 24)).alloc (.cells #[.int .u64 (d : Int), .int .u64 (u : Int)] 24) = X at *
  clear hc hd
  go_enter Tryd.func55, Tryd.ntmps55
  go_wp2
  go_loopw [7] (fun s7 wr => ∃ k : Nat, k ≤ N ∧ s7 = .int .i64 k ∧ CubI wr w.heap.size c v ∧ CubI wr (w.heap.size + 1) d u ∧ Hid (Below w.heap.size w wr) ∧ Hid ((List.range k).all (fun k => !Ic.inn c v k || Ic.inn d u k) = true)) (fun s7 _ => N - (intOf s7).toNat)
  case atStart => exact ⟨0, Nat.zero_le _, rfl, P0, P1, Lib.hid L0, Lib.hid rfl⟩
  case round =>
    clear P0 P1 L0
    obtain ⟨k, hk, rfl, R0, R1, HW, HA⟩ := hrel
    obtain ⟨r0, r1, r2, r3, r4⟩ := id R0
    obtain ⟨s0, s1, s2, s3, s4⟩ := id R1
    have H0 := Lib.hid R0
    have H1 := Lib.hid R1
    clear R0 R1
    by_cases hkN : k < N
    · have CA := CAn k (by omega)
      have CB := CBn k (by omega)
      have HS := Lib.hid (Ic.all_succ (fun k => !Ic.inn c v k || Ic.inn d u k) k)
      have HBAD := Lib.hid (fun h => Ic.all_bad (p := fun k => !Ic.inn c v k || Ic.inn d u k) hkN h)
      generalize Ic.inn c v k = q1 at *
      generalize Ic.inn d u k = q2 at *
      cases q1 with
      | false =>
        go_wp2_with (first | (go_at_call 47; refine ((CS _).out).mono ?_; rintro e w2 ⟨rfl, rfl⟩) | (go_at_call 48; (with_reducible refine ((CA _).out).mono ?_); rintro e w3 ⟨rfl, hbA⟩; obtain ⟨r0, r1, r2, r3, r4⟩ := H0.out.step hbA; obtain ⟨s0, s1, s2, s3, s4⟩ := H1.out.step hbA) | (go_at_call 48; (with_reducible refine ((CB _).out).mono ?_); rintro e w4 ⟨rfl, hbB⟩))
        exact ⟨⟨k + 1, by omega, rfl, H0.out.step hbA, H1.out.step hbA, Lib.hid (below_nxt HW.out hbA), Lib.hid (by rw [HS.out, HA.out]; rfl)⟩, by simp [intOf]; omega⟩
      | true =>
        cases q2 with
        | true =>
          go_wp2_with (first | (go_at_call 47; refine ((CS _).out).mono ?_; rintro e w2 ⟨rfl, rfl⟩) | (go_at_call 48; (with_reducible refine ((CA _).out).mono ?_); rintro e w3 ⟨rfl, hbA⟩; obtain ⟨r0, r1, r2, r3, r4⟩ := H0.out.step hbA; obtain ⟨s0, s1, s2, s3, s4⟩ := H1.out.step hbA) | (go_at_call 48; (with_reducible refine ((CB _).out).mono ?_); rintro e w4 ⟨rfl, hbB⟩))
          exact ⟨⟨k + 1, by omega, rfl, (H0.out.step hbA).step hbB, (H1.out.step hbA).step hbB, Lib.hid (below_nxt (below_nxt HW.out hbA) hbB), Lib.hid (by rw [HS.out, HA.out]; rfl)⟩, by simp [intOf]; omega⟩
        | false =>
          obtain rfl : gd = false := by rw [HG.out]; exact HBAD.out rfl
          go_wp2_with (first | (go_at_call 47; refine ((CS _).out).mono ?_; rintro e w2 ⟨rfl, rfl⟩) | (go_at_call 48; (with_reducible refine ((CA _).out).mono ?_); rintro e w3 ⟨rfl, hbA⟩; obtain ⟨r0, r1, r2, r3, r4⟩ := H0.out.step hbA; obtain ⟨s0, s1, s2, s3, s4⟩ := H1.out.step hbA) | (go_at_call 48; (with_reducible refine ((CB _).out).mono ?_); rintro e w4 ⟨rfl, hbB⟩))
          go_ret
          exact ⟨rfl, below_nxt (below_nxt HW.out hbA) hbB⟩
    · obtain rfl : k = N := by omega
      obtain rfl : gd = true := by rw [HG.out]; exact HA.out
      go_wp2_with (go_at_call 47; refine ((CS _).out).mono ?_; rintro e w2 ⟨rfl, rfl⟩)
      go_ret
      exact ⟨rfl, HW.out⟩

set_option maxHeartbeats 2000000 in
set_option maxRecDepth 100000 in
theorem rcIns_any (n : Int) (c v d u : Nat) (w : World) (hc : c < 2 ^ 64) (hv : v < 2 ^ 64) (hd : d < 2 ^ 64) (hu : u < 2 ^ 64) :
    Calls Tryd.prog 19 #[.int .i64 n, .agg #[.int .u64 c, .int .u64 v], .agg #[.int .u64 d, .int .u64 u]] w fun e w' => e = .returned (.tuple #[.bool (Ic.insV n c v d u).1, .int .i64 (Ic.insV n c v d u).2]) ∧ Below w.heap.size w w' := by
  have C1 := fun W => Lib.hid (rcBoth_any n c v d u W hc hv hd hu)
  obtain ⟨P0, P1, L0, z0⟩ := cub2_new w c v d u 24
  generalize hX : (w.alloc (.cells #[.int .u64 (c : Int), .int .u64 (v : Int)] 24)).alloc (.cells #[.int .u64 (d : Int), .int .u64 (u : Int)] 24) = X at *
  obtain ⟨r, hr⟩ : ∃ r, Ic.insV n c v d u = r := ⟨_, rfl⟩
  rw [hr]
  unfold Ic.insV at hr
  obtain ⟨x0, x1, x2, x3, x4⟩ := id P0
  obtain ⟨y0, y1, y2, y3, y4⟩ := id P1
  by_cases hk : Ic.chk2 n c v d u = 0
  · rw [if_pos hk] at hr
    subst hr
    obtain ⟨h1, h2⟩ := Ic.chk2_zero.1 hk
    obtain ⟨m, rfl, hm, hcm, hs⟩ := Ic.chk_nat hv h1
    obtain ⟨m', hmm, _, hdm, ht⟩ := Ic.chk_nat hu h2
    obtain rfl : m = m' := by omega
    have C2 := fun W => Lib.hid (rcWithin_any m c v d u W hm hc hd)
    rw [Ic.within_ins hcm hdm hs ht] at C2
    rw [hk] at C1
    generalize Ic.insB c v d u = b at *
    clear hk h1 h2 hcm hdm hs ht hmm hc hv hd hu
    go_enter Tryd.func19, Tryd.ntmps19
    go_wp2_with (first | (go_at_call 54; refine ((C1 _).out).mono ?_; rintro e w1 ⟨rfl, hb⟩; have HB1 := Lib.hid (below_nxt L0 hb); obtain ⟨p0, p1, p2, p3, p4⟩ := P0.step hb; obtain ⟨q0, q1, q2, q3, q4⟩ := P1.step hb; clear hb) | (go_at_call 55; refine ((C2 _).out).mono ?_; rintro e w2 ⟨rfl, hb⟩; have HB2 := Lib.hid (below_nxt HB1.out hb); clear hb))
    exact bodyPost_ret (v := .tuple #[.bool b, .int .i64 0]) (by simp [results, Tryd.results19, go_sem]) rfl ⟨rfl, HB2.out⟩
  · have hk' : (Ic.chk2 n c v d u != 0) = true := by simp [hk]
    rw [if_neg hk] at hr
    subst hr
    generalize Ic.chk2 n c v d u = k at *
    clear hc hv hd hu
    go_enter Tryd.func19, Tryd.ntmps19
    go_wp2_with (go_at_call 54; refine ((C1 _).out).mono ?_; rintro e w1 ⟨rfl, hb⟩; have HB1 := Lib.hid (below_nxt L0 hb))
    exact bodyPost_ret (v := .tuple #[.bool false, .int .i64 k]) (by simp [results, Tryd.results19, go_sem]) rfl ⟨rfl, HB1.out⟩

theorem bit1 {b : Nat} (k : Nat) (hb : b < 2 ^ 64) {q : Bool} (h : b.testBit k = q) : bits .and .u64 ((b : Int) / 2 ^ k) 1 = if q then 1 else 0 := by rw [← h]; exact bit_andI k hb

set_option maxHeartbeats 4000000 in
set_option maxRecDepth 100000 in
theorem rcOpp_any (n c v d u : Nat) (w : World) (hn : n ≤ 6) (hc : c < 2 ^ 64) (hv : v < 2 ^ 64) (hd : d < 2 ^ 64) (hu : u < 2 ^ 64) :
    Calls Tryd.prog 56 #[.int .i64 n, .agg #[.int .u64 c, .int .u64 v], .agg #[.int .u64 d, .int .u64 u]] w fun e w' => ∃ sv, e = .returned sv ∧ Row (w.heap.size + 2) .i64 3 w' sv (Tt.pts (fun i => (Ic.opp c v d u).testBit i) n) ∧ Below w.heap.size w w' := by
  obtain ⟨i0, hi0, hz0, hz1, hz2⟩ := info_parts Tryd.infoI64
  obtain ⟨P0, P1, L0, z0⟩ := cub2_new w c v d u 24
  generalize hX : (w.alloc (.cells #[.int .u64 (c : Int), .int .u64 (v : Int)] 24)).alloc (.cells #[.int .u64 (d : Int), .int .u64 (u : Int)] 24) = X at *
  have hcd : c &&& d < 2 ^ 64 := Nat.lt_of_le_of_lt Nat.and_le_left hc
  have eAND := u64_and_nat c d (by simpa using hc) (by simpa using hd)
  have HOP := Lib.hid (fun i => Ic.opp_bit c v d u i)
  have HCD := Lib.hid (fun i => Nat.testBit_and c d i)
  have E1 := fun i q => Lib.hid (bit1 (b := c &&& d) i (q := q) hcd)
  have E2 := fun i q => Lib.hid (bit1 (b := v) i (q := q) hv)
  have E3 := fun i q => Lib.hid (bit1 (b := u) i (q := q) hu)
  generalize Ic.opp c v d u = o at *
  clear hc hv hd hu hcd
  go_enter Tryd.func56, Tryd.ntmps56
  go_wp2
  go_loopw [7, 8] (fun s7 s8 wr => ∃ i : Nat, i ≤ n ∧ s8 = .int .i64 i ∧ Row (w.heap.size + 2) .i64 3 wr s7 (Tt.pts (fun i => o.testBit i) i) ∧ CubI wr w.heap.size c v ∧ CubI wr (w.heap.size + 1) d u ∧ Hid (Below w.heap.size w wr)) (fun _ s8 _ => n - (intOf s8).toNat)
  case atStart => exact ⟨0, Nat.zero_le _, rfl, Row.nil _ _ _ _, P0, P1, Lib.hid L0⟩
  case round =>
    clear P0 P1 L0
    obtain ⟨i, hi, rfl, hrow, R0, R1, HW⟩ := hrel
    have hwb : w.heap.size + 2 ≤ wr.heap.size := by have := R1.1; omega
    obtain ⟨r0, r1, r2, r3, r4⟩ := id R0
    obtain ⟨s0, s1, s2, s3, s4⟩ := id R1
    by_cases hin : i < n
    · have HS := Lib.hid (Tt.pts_succ (fun i => o.testBit i) i)
      have hlen := Tt.pts_len (fun i => o.testBit i) i
      have HO := Lib.hid (HOP.out i)
      have HCi := Lib.hid (HCD.out i)
      have F1 := fun q => Lib.hid ((E1 i q).out)
      have F2 := fun q => Lib.hid ((E2 i q).out)
      have F3 := fun q => Lib.hid ((E3 i q).out)
      clear E1 E2 E3 HOP HCD
      cases h1 : (c &&& d).testBit i
      · have e1 := (F1 false).out h1
        rw [if_neg (by simp)] at e1
        have HS2 : Hid (Tt.pts (fun i => o.testBit i) (i + 1) = Tt.pts (fun i => o.testBit i) i) := Lib.hid (HS.out.trans (if_neg (by rw [HO.out, ← HCi.out, h1]; simp)))
        clear HS HO HCi F1 F2 F3 h1
        generalize Tt.pts (fun i => o.testBit i) i = l at *
        generalize c &&& d = cd at *
        go_wp2
        go_quiet (fail)
        go_wp2
        exact ⟨⟨i + 1, by omega, rfl, by rw [HS2.out]; exact hrow.below (below_drewN (B := wr.heap.size) wr nq) (Nat.le_refl _), R0.step (below_drewN (B := wr.heap.size) wr nq), R1.step (below_drewN (B := wr.heap.size) wr nq), Lib.hid (below_nxt HW.out (below_drewN (B := wr.heap.size) wr nq))⟩, by simp [intOf]; omega⟩
      · have e1 := (F1 true).out h1
        rw [if_pos rfl] at e1
        cases h2 : v.testBit i
        · have e2 := (F2 false).out h2
          rw [if_neg (by simp)] at e2
          cases h3 : u.testBit i
          · have e3 := (F3 false).out h3
            rw [if_neg (by simp)] at e3
            have HS2 : Hid (Tt.pts (fun i => o.testBit i) (i + 1) = Tt.pts (fun i => o.testBit i) i) := Lib.hid (HS.out.trans (if_neg (by rw [HO.out, ← HCi.out, h1, h2, h3]; simp)))
            clear HS HO HCi F1 F2 F3 h1 h2 h3
            generalize Tt.pts (fun i => o.testBit i) i = l at *
            generalize c &&& d = cd at *
            go_wp2
            go_quiet (fail)
            go_wp2
            exact ⟨⟨i + 1, by omega, rfl, by rw [HS2.out]; exact hrow.below (below_drewN (B := wr.heap.size) wr nq) (Nat.le_refl _), R0.step (below_drewN (B := wr.heap.size) wr nq), R1.step (below_drewN (B := wr.heap.size) wr nq), Lib.hid (below_nxt HW.out (below_drewN (B := wr.heap.size) wr nq))⟩, by simp [intOf]; omega⟩
          · have e3 := (F3 true).out h3
            rw [if_pos rfl] at e3
            have HS2 : Hid (Tt.pts (fun i => o.testBit i) (i + 1) = Tt.pts (fun i => o.testBit i) i ++ [i]) := Lib.hid (HS.out.trans (if_pos (by rw [HO.out, ← HCi.out, h1, h2, h3]; simp)))
            clear HS HO HCi F1 F2 F3 h1 h2 h3
            generalize Tt.pts (fun i => o.testBit i) i = l at *
            generalize c &&& d = cd at *
            go_wp2
            go_quiet (fail)
            have hrow' := hrow.below (below_drewN (B := wr.heap.size) wr nq) (Nat.le_refl _)
            have HR0 := Lib.hid (R0.step (below_drewN (B := wr.heap.size) wr nq))
            have HR1 := Lib.hid (R1.step (below_drewN (B := wr.heap.size) wr nq))
            have HWq := Lib.hid (below_nxt HW.out (below_drewN (B := wr.heap.size) wr nq))
            have hwb2 : w.heap.size + 2 ≤ (wr.drewN nq).heap.size := hwb
            generalize hWR : wr.drewN nq = wq at *
            clear hrow R0 R1 HW r1 r2 r3 r4 s1 s2 s3 s4
            go_wp2_with (at_builtin; refine wpList_append_nat rfl _ _ 71 rfl 3 i0 .i64 8 Tryd.underlying71 hi0 hz0 hz1 hz2 (by omega) _ _ l [i] rfl rfl (w.heap.size + 2) (hrow'.below ((Below.refl _ _).alloc (Nat.le_refl _) _) (Nat.le_refl _)) ((Row.one 0 _ _ _ (Nat.zero_le _) i _ rfl).sees) (by simp; omega) (by simp; omega) ?_; intro v5 w5 hr5 hb5)
            have hbB := (((Below.refl wq.heap.size wq).alloc (Nat.le_refl _) (.cells #[.int .i64 (i : Int)] 3)).mono (show w.heap.size + 2 ≤ wq.heap.size by omega)).trans hb5
            exact ⟨⟨i + 1, by omega, rfl, by rw [HS2.out]; exact hr5, HR0.out.below (by omega) hbB, HR1.out.below (by omega) hbB, Lib.hid (HWq.out.trans (hbB.mono (by omega)))⟩, by simp [intOf]; omega⟩
        · have e2 := (F2 true).out h2
          rw [if_pos rfl] at e2
          cases h3 : u.testBit i
          · have e3 := (F3 false).out h3
            rw [if_neg (by simp)] at e3
            have HS2 : Hid (Tt.pts (fun i => o.testBit i) (i + 1) = Tt.pts (fun i => o.testBit i) i ++ [i]) := Lib.hid (HS.out.trans (if_pos (by rw [HO.out, ← HCi.out, h1, h2, h3]; simp)))
            clear HS HO HCi F1 F2 F3 h1 h2 h3
            generalize Tt.pts (fun i => o.testBit i) i = l at *
            generalize c &&& d = cd at *
            go_wp2
            go_quiet (fail)
            have hrow' := hrow.below (below_drewN (B := wr.heap.size) wr nq) (Nat.le_refl _)
            have HR0 := Lib.hid (R0.step (below_drewN (B := wr.heap.size) wr nq))
            have HR1 := Lib.hid (R1.step (below_drewN (B := wr.heap.size) wr nq))
            have HWq := Lib.hid (below_nxt HW.out (below_drewN (B := wr.heap.size) wr nq))
            have hwb2 : w.heap.size + 2 ≤ (wr.drewN nq).heap.size := hwb
            generalize hWR : wr.drewN nq = wq at *
            clear hrow R0 R1 HW r1 r2 r3 r4 s1 s2 s3 s4
            go_wp2_with (at_builtin; refine wpList_append_nat rfl _ _ 71 rfl 3 i0 .i64 8 Tryd.underlying71 hi0 hz0 hz1 hz2 (by omega) _ _ l [i] rfl rfl (w.heap.size + 2) (hrow'.below ((Below.refl _ _).alloc (Nat.le_refl _) _) (Nat.le_refl _)) ((Row.one 0 _ _ _ (Nat.zero_le _) i _ rfl).sees) (by simp; omega) (by simp; omega) ?_; intro v5 w5 hr5 hb5)
            have hbB := (((Below.refl wq.heap.size wq).alloc (Nat.le_refl _) (.cells #[.int .i64 (i : Int)] 3)).mono (show w.heap.size + 2 ≤ wq.heap.size by omega)).trans hb5
            exact ⟨⟨i + 1, by omega, rfl, by rw [HS2.out]; exact hr5, HR0.out.below (by omega) hbB, HR1.out.below (by omega) hbB, Lib.hid (HWq.out.trans (hbB.mono (by omega)))⟩, by simp [intOf]; omega⟩
          · have e3 := (F3 true).out h3
            rw [if_pos rfl] at e3
            have HS2 : Hid (Tt.pts (fun i => o.testBit i) (i + 1) = Tt.pts (fun i => o.testBit i) i) := Lib.hid (HS.out.trans (if_neg (by rw [HO.out, ← HCi.out, h1, h2, h3]; simp)))
            clear HS HO HCi F1 F2 F3 h1 h2 h3
            generalize Tt.pts (fun i => o.testBit i) i = l at *
            generalize c &&& d = cd at *
            go_wp2
            go_quiet (fail)
            go_wp2
            exact ⟨⟨i + 1, by omega, rfl, by rw [HS2.out]; exact hrow.below (below_drewN (B := wr.heap.size) wr nq) (Nat.le_refl _), R0.step (below_drewN (B := wr.heap.size) wr nq), R1.step (below_drewN (B := wr.heap.size) wr nq), Lib.hid (below_nxt HW.out (below_drewN (B := wr.heap.size) wr nq))⟩, by simp [intOf]; omega⟩
    · obtain rfl : i = n := by omega
      go_wp2
      go_ret
      exact ⟨u7, rfl, hrow, HW.out⟩
end Go.Proofs.YtabflijfbjdpgaaDoor
