/- The reference of package hazard: the points on the way; what a cube has of them. -/
import Derived.Test.YtekeedccgnbkkaaGreatDoorHA
import Derived.Test.YtekeedccgnbkkaaGreatDoorKc
namespace Hz
/-- Is a point on the way, so far as the variables below i say? -/
def smV (a b k : Nat) (i : Nat) : Bool := (List.range i).all fun j => !(a.testBit j == b.testBit j) || k.testBit j == a.testBit j
theorem smV_succ (a b k i : Nat) : smV a b k (i + 1) = (smV a b k i && (!(a.testBit i == b.testBit i) || k.testBit i == a.testBit i)) := by
  unfold smV; rw [List.range_succ, List.all_append]; simp
theorem smV_on (n a b k : Nat) : smV a b k n = onB n a b k := rfl
end Hz
namespace Go.Proofs.YtekeedccgnbkkaaGreatDoor
open Go.RowKit Go.Shelf

theorem eq_bool (x y : Bool) (W : World) : (binOp .eql 4 (.bool x) (.bool y)).run Tryz.prog W = .ok (.bool (x == y)) W := by
  cases x <;> cases y <;> kernel_rfl
theorem neq_bool (x y : Bool) (W : World) : (binOp .neq 4 (.bool x) (.bool y)).run Tryz.prog W = .ok (.bool (x != y)) W := by
  cases x <;> cases y <;> kernel_rfl

set_option maxHeartbeats 4000000 in
set_option maxRecDepth 100000 in
theorem rOn8_any (n a b : Nat) (w : World) (hn : n ≤ 6) (ha : a < 64) (hb : b < 64) :
    Calls Tryz.prog 49 #[.int .i64 n, .int .i64 a, .int .i64 b] w fun e w' => ∃ v, e = .returned v ∧ Row w.heap.size .i64 3 w' v (Hz.way n a b) ∧ Below w.heap.size w w' := by
  obtain ⟨i0, hi0, hz0, hz1, hz2⟩ := info_parts Tryz.infoI64
  have hN := Tt.size_le hn
  have CS : ∀ W, Hid (Calls Tryz.prog 44 #[.int .i64 n] W fun e w' => e = .returned (.int .i64 ((2 ^ n : Nat) : Int)) ∧ W = w') := fun W => Lib.hid ((rSize_any n W (by omega) (by omega)).mono fun e w' h => ⟨by rw [h.1, Int.toNat_natCast], h.2⟩)
  have CH : ∀ k i : Nat, k < 64 → i < 6 → ∀ W, Calls Tryz.prog 71 #[.int .i64 k, .int .i64 i] W fun e w' => e = .returned (.bool (k.testBit i)) ∧ W = w' := fun k i hk hi W => rHas_any k i W hk hi
  unfold Hz.way
  have HPS := Lib.hid (fun k => Tt.pts_succ (Hz.onB n a b) k)
  have HPL := Lib.hid (fun k => Tt.pts_len (Hz.onB n a b) k)
  have HSO := Lib.hid (fun k => Hz.smV_on n a b k)
  generalize 2 ^ n = N at *
  generalize Hz.onB n a b = on at *
  go_enter Tryz.func49, Tryz.ntmps49
  have eqb := eq_bool
  have neb := neq_bool
  go_wp2
  go_loopw [7, 8] (fun s7 s8 wr => ∃ k : Nat, k ≤ N ∧ s8 = .int .i64 k ∧ Row w.heap.size .i64 3 wr s7 (Tt.pts on k) ∧ Hid (Below w.heap.size w wr)) (fun _ s8 _ => N - (intOf s8).toNat)
  case atStart => exact ⟨0, Nat.zero_le _, rfl, Row.nil _ _ _ _, Lib.hid (Below.refl _ _)⟩
  case round =>
    obtain ⟨k, hk, rfl, hrow, HB⟩ := hrel
    have RW := Lib.hid hrow
    clear hrow
    by_cases hkN : k < N
    · have HP := Lib.hid (HPS.out k)
      have hpl := HPL.out k
      have HO := Lib.hid (HSO.out k)
      have hsz := HB.out.size
      obtain ⟨wo, rfl⟩ : ∃ wo, wo = wr := ⟨_, rfl⟩
      clear HPS HPL HSO
      generalize Tt.pts on k = q at *
      go_wp2_with (go_at_call 44; (with_reducible refine ((CS _).out).mono ?_); rintro e w3 ⟨rfl, rfl⟩)
      go_loopw [9, 10] (fun s9 s10 wr => ∃ i : Nat, i ≤ n ∧ s10 = .int .i64 i ∧ s9 = .bool (Hz.smV a b k i) ∧ wr = wo) (fun _ s10 _ => n - (intOf s10).toNat)
      case atStart => exact ⟨0, Nat.zero_le _, rfl, rfl, rfl⟩
      case round =>
        obtain ⟨i, hi, rfl, rfl, rfl⟩ := hrel
        by_cases hin : i < n
        · have CA := fun W => Lib.hid (CH a i ha (by omega) W)
          have CB := fun W => Lib.hid (CH b i hb (by omega) W)
          have CK := fun W => Lib.hid (CH k i (by omega) (by omega) W)
          have hS := Hz.smV_succ a b k i
          clear CH
          generalize a.testBit i = x1 at *
          generalize b.testBit i = x2 at *
          generalize k.testBit i = x3 at *
          generalize Hz.smV a b k i = sv at *
          cases x1 <;> cases x2 <;> cases x3
          all_goals
            have HS := Lib.hid hS
            clear hS
            go_wp2_with (go_at_call 71; (first | (with_reducible refine ((CA _).out).mono ?_) | (with_reducible refine ((CB _).out).mono ?_) | (with_reducible refine ((CK _).out).mono ?_)); rintro e w3 ⟨rfl, rfl⟩)
            exact ⟨⟨i + 1, by omega, rfl, by rw [HS.out]; simp, by first | rfl | trivial⟩, by simp [intOf]; omega⟩
        · obtain rfl : i = n := by omega
          rw [HO.out]
          generalize on k = r at *
          cases r
          · have HF : Hid (Tt.pts on (k + 1) = q) := Lib.hid (by rw [HP.out]; simp)
            clear HP
            go_wp2
            exact ⟨⟨k + 1, by omega, rfl, by rw [HF.out]; exact RW.out, HB⟩, by simp [intOf]; omega⟩
          · have HF : Hid (Tt.pts on (k + 1) = q ++ [k]) := Lib.hid (by rw [HP.out]; simp)
            clear HP
            go_wp2_with (at_builtin; refine wpList_append_nat rfl _ _ 82 rfl 3 i0 .i64 8 Tryz.underlying82 hi0 hz0 hz1 hz2 (by omega) _ _ q [k] rfl rfl w.heap.size (RW.out.below ((Below.refl _ _).alloc (Nat.le_refl _) _) (Nat.le_refl _)) ((Row.one 0 _ _ _ (Nat.zero_le _) k _ rfl).sees) (by simp; omega) (by simp; omega) ?_; intro v5 w5 hr5 hb5)
            exact ⟨⟨k + 1, by omega, rfl, by rw [HF.out]; exact hr5, Lib.hid ((HB.out.alloc HB.out.size _).trans hb5)⟩, by simp [intOf]; omega⟩
    · obtain rfl : k = N := by omega
      go_wp2_with (go_at_call 44; (with_reducible refine ((CS _).out).mono ?_); rintro e w3 ⟨rfl, rfl⟩)
      exact bodyPost_ret (v := u7) (by simp [results, Tryz.results49, go_sem]) rfl ⟨u7, rfl, RW.out, HB.out⟩

set_option maxHeartbeats 4000000 in
set_option maxRecDepth 100000 in
theorem rAll8_any (c v : Nat) (l : List Nat) (pv : Value) (w : World) (hc : c < 2 ^ 64) (hl : ∀ k ∈ l, k < 64) (hs : Sees .i64 w pv l) :
    Calls Tryz.prog 48 #[.agg #[.int .u64 c, .int .u64 v], pv] w fun e w' => e = .returned (.tuple #[.bool (Hz.al l (c, v)), .bool (Hz.so l (c, v))]) ∧ Below w.heap.size w w' := by
  obtain ⟨ao, cap, rfl, hcap1, hcap2, hcells⟩ := hs.opened
  have HC := Lib.hid hcells
  have CI := fun i (hi : i < l.length) W => Lib.hid (rcIn_any c v (l.getD i 0) W (hl _ (by rw [List.getD_eq_getElem?_getD, List.getElem?_eq_getElem hi]; exact List.getElem_mem hi)) hc)
  obtain ⟨P0, L0, z0⟩ := cub1_new w c v 62
  generalize hX : w.alloc (.cells #[.int .u64 (c : Int), .int .u64 (v : Int)] 62) = X at *
  have HL0 := Lib.hid L0
  clear hs hcells hl L0
  go_enter Tryz.func48, Tryz.ntmps48
  have hmix : Tryz.prog.follows .mixedOrders = true := by kernel_rfl
  have HA1 := Lib.hid (fun i (hi : i < l.length) => show Hz.al (l.take (i + 1)) (c, v) = (Hz.al (l.take i) (c, v) && Ic.inn c v (l.getD i 0)) from by
    rw [List.take_add_one, List.getElem?_eq_getElem hi, Option.toList_some, List.getD_eq_getElem?_getD, List.getElem?_eq_getElem hi, Option.getD_some]
    unfold Hz.al; rw [List.all_append]; simp)
  have HS1 := Lib.hid (fun i (hi : i < l.length) => show Hz.so (l.take (i + 1)) (c, v) = (Hz.so (l.take i) (c, v) || Ic.inn c v (l.getD i 0)) from by
    rw [List.take_add_one, List.getElem?_eq_getElem hi, Option.toList_some, List.getD_eq_getElem?_getD, List.getElem?_eq_getElem hi, Option.getD_some]
    unfold Hz.so; rw [List.any_append]; simp)
  go_wp2
  go_loopw [6, 7, 8] (fun s6 s7 s8 wr => ∃ i : Nat, i ≤ l.length ∧ s8 = .int .i64 i ∧ s6 = .bool (Hz.al (l.take i) (c, v)) ∧ s7 = .bool (Hz.so (l.take i) (c, v)) ∧ Hid (Below X.heap.size X wr)) (fun _ _ s8 _ => l.length - (intOf s8).toNat)
  case atStart => exact ⟨0, Nat.zero_le _, rfl, rfl, rfl, Lib.hid (Below.refl _ _)⟩
  case round =>
    obtain ⟨i, hi, rfl, rfl, rfl, HB⟩ := hrel
    have HW := Lib.hid (HL0.out.trans (HB.out.mono HL0.out.size))
    obtain ⟨p0, p1, p2, -, -⟩ := P0.step HB.out
    by_cases hil : i < l.length
    · obtain ⟨g, off, rfl, hg, c1⟩ := HC.out.at HW.out hil
      have CIi := CI i hil
      have HA := Lib.hid (HA1.out i hil)
      have HS := Lib.hid (HS1.out i hil)
      clear CI HA1 HS1
      generalize Hz.al (l.take i) (c, v) = x at *
      generalize Hz.so (l.take i) (c, v) = y at *
      generalize l.getD i 0 = k at *
      generalize Ic.inn c v k = r at *
      have hgr : g < wr.heap.size := Nat.lt_of_lt_of_le hg HW.out.size
      cases x <;> cases y
      · go_wp2
        go_quiet (fail)
        have HQ1 := Lib.hid (below_drewN (B := wr.heap.size) wr nq)
        generalize hV1 : wr.drewN nq = V1 at *
        have q0 : w.heap.size < V1.heap.size := Nat.lt_of_lt_of_le p0 HQ1.out.size
        have q1 := (HQ1.out.cell (p := ⟨w.heap.size, 0, none⟩) p0).trans p1
        have q2 := (HQ1.out.cell (p := ⟨w.heap.size, 1, none⟩) p0).trans p2
        have d1 := (HQ1.out.cell (p := ⟨g, off + i, none⟩) hgr).trans c1
        have hgr2 : g < V1.heap.size := Nat.lt_of_lt_of_le hgr HQ1.out.size
        go_wp2
        have HD6 := Lib.hid ((Below.refl V1.heap.size V1).drew)
        have g1 : V1.drew.cell? ⟨w.heap.size, 0, none⟩ = some (.int .u64 (c : Int)) := q1
        have g2 : V1.drew.cell? ⟨w.heap.size, 1, none⟩ = some (.int .u64 (v : Int)) := q2
        have g3 : V1.drew.cell? ⟨g, off + i, none⟩ = some (.int .i64 (k : Int)) := d1
        go_region_held3 (fun V => ((V.cell? ⟨w.heap.size, 0, none⟩ = some (.int .u64 (c : Int)) ∧ V.cell? ⟨w.heap.size, 1, none⟩ = some (.int .u64 (v : Int))) ∧ V.cell? ⟨g, off + i, none⟩ = some (.int .i64 (k : Int))) ∧ Hid (Below V1.heap.size V1 V))
          (first | (refine ⟨⟨⟨?_, ?_⟩, ?_⟩, ?_⟩ <;> with_reducible assumption) | (go_split_ands; refine ⟨⟨⟨?_, ?_⟩, ?_⟩, ?_⟩ <;> with_reducible assumption))
          (first | (go_at_call 65; (with_reducible refine ((CIi _).out).mono ?_); rintro e w6 ⟨rfl, hw6⟩; have hb6 := below_nxt HD6.out hw6; have HB6 := Lib.hid hb6; have k1 := (hb6.cell (p := ⟨w.heap.size, 0, none⟩) q0).trans q1; have k2 := (hb6.cell (p := ⟨w.heap.size, 1, none⟩) q0).trans q2; have k3 := (hb6.cell (p := ⟨g, off + i, none⟩) hgr2).trans d1; clear hb6 hw6))
        go_wp2
        exact ⟨⟨i + 1, by omega, rfl, by rw [HA.out]; simp, by rw [HS.out]; simp, Lib.hid ((HB.out.trans (HQ1.out.mono HB.out.size)).trans (HB6.out.mono (HB.out.trans (HQ1.out.mono HB.out.size)).size))⟩, by simp [intOf]; omega⟩
      · go_wp2
        go_quiet (fail)
        have HQ1 := Lib.hid (below_drewN (B := wr.heap.size) wr nq)
        generalize hV1 : wr.drewN nq = V1 at *
        have q0 : w.heap.size < V1.heap.size := Nat.lt_of_lt_of_le p0 HQ1.out.size
        have q1 := (HQ1.out.cell (p := ⟨w.heap.size, 0, none⟩) p0).trans p1
        have q2 := (HQ1.out.cell (p := ⟨w.heap.size, 1, none⟩) p0).trans p2
        have d1 := (HQ1.out.cell (p := ⟨g, off + i, none⟩) hgr).trans c1
        have hgr2 : g < V1.heap.size := Nat.lt_of_lt_of_le hgr HQ1.out.size
        go_wp2
        go_quiet (fail)
        go_wp2
        exact ⟨⟨i + 1, by omega, rfl, by rw [HA.out]; simp, by rw [HS.out]; simp, Lib.hid ((HB.out.trans (HQ1.out.mono HB.out.size)).trans (below_drewN V1 _))⟩, by simp [intOf]; omega⟩
      · go_wp2
        have HD5 := Lib.hid ((Below.refl wr.heap.size wr).drew)
        have g1 : wr.drew.cell? ⟨w.heap.size, 0, none⟩ = some (.int .u64 (c : Int)) := p1
        have g2 : wr.drew.cell? ⟨w.heap.size, 1, none⟩ = some (.int .u64 (v : Int)) := p2
        have g3 : wr.drew.cell? ⟨g, off + i, none⟩ = some (.int .i64 (k : Int)) := c1
        go_region_held3 (fun V => ((V.cell? ⟨w.heap.size, 0, none⟩ = some (.int .u64 (c : Int)) ∧ V.cell? ⟨w.heap.size, 1, none⟩ = some (.int .u64 (v : Int))) ∧ V.cell? ⟨g, off + i, none⟩ = some (.int .i64 (k : Int))) ∧ Hid (Below wr.heap.size wr V))
          (first | (refine ⟨⟨⟨?_, ?_⟩, ?_⟩, ?_⟩ <;> with_reducible assumption) | (go_split_ands; refine ⟨⟨⟨?_, ?_⟩, ?_⟩, ?_⟩ <;> with_reducible assumption))
          (first | (go_at_call 65; (with_reducible refine ((CIi _).out).mono ?_); rintro e w5 ⟨rfl, hw5⟩; have hb5 := below_nxt HD5.out hw5; have HB5 := Lib.hid hb5; have k1 := (hb5.cell (p := ⟨w.heap.size, 0, none⟩) p0).trans p1; have k2 := (hb5.cell (p := ⟨w.heap.size, 1, none⟩) p0).trans p2; have k3 := (hb5.cell (p := ⟨g, off + i, none⟩) hgr).trans c1; clear hb5 hw5))
        have q0 : w.heap.size < w5.heap.size := Nat.lt_of_lt_of_le p0 HB5.out.size
        have q1 := (HB5.out.cell (p := ⟨w.heap.size, 0, none⟩) p0).trans p1
        have q2 := (HB5.out.cell (p := ⟨w.heap.size, 1, none⟩) p0).trans p2
        have d1 := (HB5.out.cell (p := ⟨g, off + i, none⟩) hgr).trans c1
        have hgr2 : g < w5.heap.size := Nat.lt_of_lt_of_le hgr HB5.out.size
        go_wp2
        have HD6 := Lib.hid ((Below.refl w5.heap.size w5).drew)
        have g1 : w5.drew.cell? ⟨w.heap.size, 0, none⟩ = some (.int .u64 (c : Int)) := q1
        have g2 : w5.drew.cell? ⟨w.heap.size, 1, none⟩ = some (.int .u64 (v : Int)) := q2
        have g3 : w5.drew.cell? ⟨g, off + i, none⟩ = some (.int .i64 (k : Int)) := d1
        go_region_held3 (fun V => ((V.cell? ⟨w.heap.size, 0, none⟩ = some (.int .u64 (c : Int)) ∧ V.cell? ⟨w.heap.size, 1, none⟩ = some (.int .u64 (v : Int))) ∧ V.cell? ⟨g, off + i, none⟩ = some (.int .i64 (k : Int))) ∧ Hid (Below w5.heap.size w5 V))
          (first | (refine ⟨⟨⟨?_, ?_⟩, ?_⟩, ?_⟩ <;> with_reducible assumption) | (go_split_ands; refine ⟨⟨⟨?_, ?_⟩, ?_⟩, ?_⟩ <;> with_reducible assumption))
          (first | (go_at_call 65; (with_reducible refine ((CIi _).out).mono ?_); rintro e w6 ⟨rfl, hw6⟩; have hb6 := below_nxt HD6.out hw6; have HB6 := Lib.hid hb6; have k1 := (hb6.cell (p := ⟨w.heap.size, 0, none⟩) q0).trans q1; have k2 := (hb6.cell (p := ⟨w.heap.size, 1, none⟩) q0).trans q2; have k3 := (hb6.cell (p := ⟨g, off + i, none⟩) hgr2).trans d1; clear hb6 hw6))
        go_wp2
        exact ⟨⟨i + 1, by omega, rfl, by rw [HA.out]; simp, by rw [HS.out]; simp, Lib.hid ((HB.out.trans (HB5.out.mono HB.out.size)).trans (HB6.out.mono (HB.out.trans (HB5.out.mono HB.out.size)).size))⟩, by simp [intOf]; omega⟩
      · go_wp2
        have HD5 := Lib.hid ((Below.refl wr.heap.size wr).drew)
        have g1 : wr.drew.cell? ⟨w.heap.size, 0, none⟩ = some (.int .u64 (c : Int)) := p1
        have g2 : wr.drew.cell? ⟨w.heap.size, 1, none⟩ = some (.int .u64 (v : Int)) := p2
        have g3 : wr.drew.cell? ⟨g, off + i, none⟩ = some (.int .i64 (k : Int)) := c1
        go_region_held3 (fun V => ((V.cell? ⟨w.heap.size, 0, none⟩ = some (.int .u64 (c : Int)) ∧ V.cell? ⟨w.heap.size, 1, none⟩ = some (.int .u64 (v : Int))) ∧ V.cell? ⟨g, off + i, none⟩ = some (.int .i64 (k : Int))) ∧ Hid (Below wr.heap.size wr V))
          (first | (refine ⟨⟨⟨?_, ?_⟩, ?_⟩, ?_⟩ <;> with_reducible assumption) | (go_split_ands; refine ⟨⟨⟨?_, ?_⟩, ?_⟩, ?_⟩ <;> with_reducible assumption))
          (first | (go_at_call 65; (with_reducible refine ((CIi _).out).mono ?_); rintro e w5 ⟨rfl, hw5⟩; have hb5 := below_nxt HD5.out hw5; have HB5 := Lib.hid hb5; have k1 := (hb5.cell (p := ⟨w.heap.size, 0, none⟩) p0).trans p1; have k2 := (hb5.cell (p := ⟨w.heap.size, 1, none⟩) p0).trans p2; have k3 := (hb5.cell (p := ⟨g, off + i, none⟩) hgr).trans c1; clear hb5 hw5))
        have q0 : w.heap.size < w5.heap.size := Nat.lt_of_lt_of_le p0 HB5.out.size
        have q1 := (HB5.out.cell (p := ⟨w.heap.size, 0, none⟩) p0).trans p1
        have q2 := (HB5.out.cell (p := ⟨w.heap.size, 1, none⟩) p0).trans p2
        have d1 := (HB5.out.cell (p := ⟨g, off + i, none⟩) hgr).trans c1
        have hgr2 : g < w5.heap.size := Nat.lt_of_lt_of_le hgr HB5.out.size
        go_wp2
        go_quiet (fail)
        go_wp2
        exact ⟨⟨i + 1, by omega, rfl, by rw [HA.out]; simp, by rw [HS.out]; simp, Lib.hid ((HB.out.trans (HB5.out.mono HB.out.size)).trans (below_drewN w5 _))⟩, by simp [intOf]; omega⟩
    · obtain rfl : i = l.length := by omega
      rw [List.take_length]
      go_wp2
      exact bodyPost_ret (v := .tuple #[.bool (Hz.al l (c, v)), .bool (Hz.so l (c, v))]) (by simp [results, Tryz.results48, go_sem]) rfl ⟨rfl, HW.out⟩
end Go.Proofs.YtekeedccgnbkkaaGreatDoor
