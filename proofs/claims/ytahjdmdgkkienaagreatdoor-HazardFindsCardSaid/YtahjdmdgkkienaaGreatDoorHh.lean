/- Between and Logic of package hazard. -/
import Derived.Test.YtahjdmdgkkienaaGreatDoorHC
namespace Go.Proofs.YtahjdmdgkkienaaGreatDoor
open Go.RowKit Go.Shelf

set_option maxHeartbeats 4000000 in
set_option maxRecDepth 100000 in
theorem hBet_any (n : Int) (l : List (Nat × Nat)) (sv : Value) (a b : Int) (w : World) (hw : Hz.W64 l) (hs : SeesO w sv l) (ht : Tabs w) :
    Calls Tryz.prog 9 #[.int .i64 n, sv, .agg #[.int .i64 a, .int .i64 b]] w fun e w' => e = .returned (.tuple #[.int .i64 ((Hz.betV n l a b).1 : Nat), .int .i64 (Hz.betV n l a b).2]) ∧ Below w.heap.size w w' := by
  have CK := fun W h => Lib.hid (hChg_any n l sv a b W hw h)
  have HSE := Lib.hid hs
  have HT := Lib.hid ht
  obtain ⟨P1, L1, z1⟩ := chI_new w a b 24
  generalize hY : w.alloc (.cells #[.int .i64 a, .int .i64 b] 24) = Y at *
  have L0 := Lib.hid L1
  obtain ⟨q0, q1, q2⟩ := id P1
  by_cases h : Hz.chg n l a b = 0
  · have hv : Hz.betV n l a b = (Hz.sm n.toNat a.toNat b.toNat l, 0) := if_pos h
    rw [hv]
    rw [h] at CK
    obtain ⟨m, x, y, rfl, rfl, rfl, hm, hx, hy, -, ho⟩ := Hz.chg_ok (fun p hp => (hw p hp).2) h
    simp only [Int.toNat_natCast]
    have CS := fun W h h' => Lib.hid (hSum_any m l sv x y W hm ho h (Ic.p64 hm hx) (Ic.p64 hm hy) h')
    generalize Hz.sm m x y l = r at *
    clear hv h hw hs ht L1 ho hm hx hy
    go_enter Tryz.func9, Tryz.ntmps9
    go_wp2_with (first | (go_at_call 24; (with_reducible refine ((CK _ (HSE.out.step L0.out)).out).mono ?_); rintro e w1 ⟨rfl, hb⟩; obtain ⟨r0, r1, r2⟩ := P1.step hb; have HB1 := Lib.hid (below_nxt L0.out hb); clear hb) | (go_at_call 25; (with_reducible refine ((CS _ (HSE.out.step HB1.out) (HT.out.next HB1.out)).out).mono ?_); rintro e w2 ⟨rfl, hb⟩; have HB2 := Lib.hid (below_nxt HB1.out hb); clear hb))
    exact bodyPost_ret (v := .tuple #[.int .i64 r, .int .i64 0]) (by simp [results, Tryz.results9, go_sem]) rfl ⟨rfl, HB2.out⟩
  · have hv : Hz.betV n l a b = (0, Hz.chg n l a b) := if_neg h
    rw [hv]
    have hne : (Hz.chg n l a b != 0) = true := by simp [h]
    generalize Hz.chg n l a b = k at *
    clear hv h hw hs ht L1
    go_enter Tryz.func9, Tryz.ntmps9
    go_wp2_with (go_at_call 24; (with_reducible refine ((CK _ (HSE.out.step L0.out)).out).mono ?_); rintro e w1 ⟨rfl, hb⟩; have HB1 := Lib.hid (below_nxt L0.out hb); clear hb)
    exact bodyPost_ret (v := .tuple #[.int .i64 0, .int .i64 k]) (by simp [results, Tryz.results9, go_sem]) rfl ⟨rfl, HB1.out⟩

theorem alloc_cell {W : World} {o : Obj} {g k : Nat} {v : Option Value} (hp : g < W.heap.size) (h : W.cell? ⟨g, k, none⟩ = v) : (W.alloc o).cell? ⟨g, k, none⟩ = v := (((Below.refl W.heap.size W).alloc (Nat.le_refl _) o).cell (p := ⟨g, k, none⟩) hp).trans h
theorem seesC_one (W : World) (c v : Nat) (T : TypeId) : SeesC (W.alloc (.cells #[.int .u64 (c : Int), .int .u64 (v : Int)] T)) (.slice (some ⟨W.heap.size, 0, none⟩) 1 1) [(c, v)] := by
  refine .inr ⟨W.heap.size, 1, rfl, Nat.le_refl _, by decide, by simp, fun i hi => ?_⟩
  obtain rfl : i = 0 := by simpa using hi
  simp

set_option maxHeartbeats 4000000 in
set_option maxRecDepth 100000 in
theorem hLog_any (n : Int) (l : List (Nat × Nat)) (sv : Value) (a b : Int) (w : World) (hw : Hz.W64 l) (hs : SeesO w sv l) (hst : St w) (ht : Tabs w) :
    Calls Tryz.prog 11 #[.int .i64 n, sv, .agg #[.int .i64 a, .int .i64 b]] w fun e w' => e = .returned (.tuple #[.bool (Hz.logV n l a b).1, .int .i64 (Hz.logV n l a b).2]) ∧ Below w.heap.size w w' := by
  have CK := fun W h => Lib.hid (hChg_any n l sv a b W hw h)
  have HSE := Lib.hid hs
  have HT := Lib.hid ht
  have HST := Lib.hid hst
  obtain ⟨P1, L1, z1⟩ := chI_new w a b 24
  generalize hY : w.alloc (.cells #[.int .i64 a, .int .i64 b] 24) = Y at *
  have L0 := Lib.hid L1
  obtain ⟨q0, q1, q2⟩ := id P1
  by_cases h : Hz.chg n l a b = 0
  · have hv : Hz.logV n l a b = (Hz.logB n.toNat l a.toNat b.toNat, 0) := if_pos h
    rw [hv]
    rw [h] at CK
    obtain ⟨m, x, y, rfl, rfl, rfl, hm, hx, hy, -, ho⟩ := Hz.chg_ok (fun p hp => (hw p hp).2) h
    simp only [Int.toNat_natCast]
    have CS := fun W h h' => Lib.hid (hSum_any m l sv x y W hm ho h (Ic.p64 hm hx) (Ic.p64 hm hy) h')
    have CT := fun W h h' => Lib.hid (hTab_ok m l sv W hm ho h h')
    have CT1 := fun v W h h' => Lib.hid (hTab_ok m [(Hz.still m x y, x &&& Hz.still m x y)] v W hm (Hz.still_ok m x y) h h')
    have e1 : bits .andNot .u64 (IntKind.u64.wrap (IntKind.u64.wrap (2 ^ m) - 1)) (IntKind.u64.wrap (bits .xor .i64 (x : Int) (y : Int))) = (Hz.still m x y : Int) := still_word m x y hm (Ic.p64 hm hx) (Ic.p64 hm hy)
    have e2 := and_word x (Hz.still m x y) (Ic.p64 hm hx) (Ic.p64 hm (Hz.still_lt m x y))
    have HW : Hid (Hz.wayT m x y = Hz.made m [(Hz.still m x y, x &&& Hz.still m x y)]) := Lib.hid rfl
    have CA := fun W => Lib.hid (tAnd_ok m (Hz.wayT m x y) (Hz.made m l) W (Tt.w64 hm (Hz.made_lt _ _)) (Tt.w64 hm (Hz.made_lt _ _)) (Hz.made_chk hm _) (Hz.made_chk hm _))
    rw [← HW.out] at CT1
    have HLB : Hid (Hz.logB m l x y = ((Hz.wayT m x y &&& Hz.made m l == 0 || Hz.wayT m x y &&& Hz.made m l == Hz.wayT m x y) && Hz.sm m x y l == 2)) := Lib.hid rfl
    clear HW
    generalize Hz.still m x y = s at *
    generalize x &&& s = u at *
    generalize Hz.logB m l x y = res at *
    generalize Hz.wayT m x y = wy at *
    generalize Hz.made m l = md at *
    generalize Hz.sm m x y l = sm at *
    have hn2 : ((sm : Int) == 2) = (sm == 2) := by rw [Bool.eq_iff_iff, beq_iff_eq, beq_iff_eq]; omega
    clear hv h hw hs ht hst L1 ho
    go_enter Tryz.func11, Tryz.ntmps11
    go_wp2_with (first | (go_at_call 24; (with_reducible refine ((CK _ (HSE.out.step L0.out)).out).mono ?_); rintro e w1 ⟨rfl, hb⟩; obtain ⟨r0, r1, r2⟩ := P1.step hb; have HB1 := Lib.hid (below_nxt L0.out hb); clear hb) | fail)
    go_quiet (fail)
    go_wp2_with fail
    refine ((CT1 _ _ (seesC_one _ _ _ _).o (HST.out.next ((HB1.out.trans (below_drewN _ _)).alloc (by have := HB1.out.size; simpa using this) _))).out).mono ?_
    rintro e w2 ⟨rfl, hb⟩
    have hZ := ((Below.refl w1.heap.size w1).trans (below_drewN _ nq)).alloc (Nat.le_refl _) (.cells #[.int .u64 (s : Int), .int .u64 (u : Int)] 62)
    have hbb := hZ.trans (hb.mono hZ.size)
    obtain ⟨c0, c1, c2⟩ := (show ChI w1 w.heap.size x y from ⟨r0, r1, r2⟩).step hbb
    have HB2 := Lib.hid (below_nxt HB1.out hbb)
    clear hb hZ hbb r0 r1 r2
    have hmix : Tryz.prog.follows .mixedOrders = true := by kernel_rfl
    obtain ⟨PW, LW, zW⟩ := tab1_new w2 m wy 29
    have CH := (show ChI w2 w.heap.size x y from ⟨c0, c1, c2⟩).step LW
    have HBV := Lib.hid (below_nxt HB2.out LW)
    clear zW
    go_wp2_with fail
    generalize hV : w2.alloc (.cells #[.int .i64 (m : Int), .int .u64 (wy : Int)] 29) = V at *
    obtain ⟨p0, p1, p2, p3, p4⟩ := id PW
    obtain ⟨d0, d1, d2⟩ := id CH
    have HD := Lib.hid ((Below.refl V.heap.size V).drew)
    have HBD := Lib.hid (below_nxt HBV.out HD.out)
    have y1 : ∀ o, (V.alloc o).cell? ⟨w2.heap.size, 0, none⟩ = some (.int .i64 (m : Int)) := fun o => alloc_cell p0 p1
    have y2 : ∀ o, (V.alloc o).cell? ⟨w2.heap.size, 1, none⟩ = some (.int .u64 (wy : Int)) := fun o => alloc_cell p0 p2
    have x1 : ∀ o, (V.alloc o).drew.cell? ⟨w2.heap.size, 0, none⟩ = some (.int .i64 (m : Int)) := fun o => alloc_cell p0 p1
    have x2 : ∀ o, (V.alloc o).drew.cell? ⟨w2.heap.size, 1, none⟩ = some (.int .u64 (wy : Int)) := fun o => alloc_cell p0 p2
    have x3 : ∀ o, (V.drew.alloc o).cell? ⟨w2.heap.size, 0, none⟩ = some (.int .i64 (m : Int)) := fun o => alloc_cell p0 p1
    have x4 : ∀ o, (V.drew.alloc o).cell? ⟨w2.heap.size, 1, none⟩ = some (.int .u64 (wy : Int)) := fun o => alloc_cell p0 p2
    go_region_with (first | (go_at_call 22; (first | (with_reducible refine ((CT _ (HSE.out.step HBD.out) (HST.out.next HBD.out)).out).mono ?_) | (with_reducible refine ((CT _ (HSE.out.step (HBD.out.alloc HBD.out.size _)) (HST.out.next (HBD.out.alloc HBD.out.size _))).out).mono ?_) | (with_reducible refine ((CT _ (HSE.out.step (HBV.out.alloc HBV.out.size _).drew) (HST.out.next (HBV.out.alloc HBV.out.size _).drew)).out).mono ?_)); rintro e w3 ⟨rfl, hw3⟩; (first | have hb3 := below_nxt HD.out hw3 | (have hb3 := below_box HD.out hw3; have NB : TabI w3 V.heap.size 0 0 := tabI_box (x := 0) (y := 0) hw3) | (have hw5 := ((Below.refl _ _).drew).trans hw3; have hb3 := below_box (Below.refl V.heap.size V) hw5; have NB : TabI w3 V.heap.size 0 0 := tabI_box (x := 0) (y := 0) hw5)); have HB3 := Lib.hid hb3; have hs3 := hb3.size; have y3 : ∀ o, (w3.alloc o).cell? ⟨w2.heap.size, 0, none⟩ = some (.int .i64 (m : Int)) := fun o => alloc_cell (Nat.lt_of_lt_of_le p0 hs3) ((hb3.cell (p := ⟨w2.heap.size, 0, none⟩) p0).trans p1); have y4 : ∀ o, (w3.alloc o).cell? ⟨w2.heap.size, 1, none⟩ = some (.int .u64 (wy : Int)) := fun o => alloc_cell (Nat.lt_of_lt_of_le p0 hs3) ((hb3.cell (p := ⟨w2.heap.size, 1, none⟩) p0).trans p2); have k1 := (hb3.cell (p := ⟨w2.heap.size, 0, none⟩) p0).trans p1; have k2 := (hb3.cell (p := ⟨w2.heap.size, 1, none⟩) p0).trans p2; have k3 := (hb3.cell (p := ⟨w.heap.size, 0, none⟩) d0).trans d1; have k4 := (hb3.cell (p := ⟨w.heap.size, 1, none⟩) d0).trans d2; clear hb3) | (go_at_call 28; (with_reducible refine ((CA _).out).mono ?_); rintro e w4 ⟨rfl, hw4⟩; (first | (have hb4 := below_nxt HB3.out hw4; try (have NC := NB.step hw4; obtain ⟨n0, n1, n2, n3, n4⟩ := id NC)) | (have hb4 := below_box HB3.out hw4; have NC := tabI_box (x := 0) (y := 0) hw4; obtain ⟨n0, n1, n2, n3, n4⟩ := id NC)); have HB4 := Lib.hid hb4; have hs4 := hb4.size; have k1 := (hb4.cell (p := ⟨w2.heap.size, 0, none⟩) p0).trans p1; have k2 := (hb4.cell (p := ⟨w2.heap.size, 1, none⟩) p0).trans p2; have k3 := (hb4.cell (p := ⟨w.heap.size, 0, none⟩) d0).trans d1; have k4 := (hb4.cell (p := ⟨w.heap.size, 1, none⟩) d0).trans d2; clear hb4))
    all_goals first
      | (have TB := tabI_new w4 m (wy &&& md) 29
         have HZ := HB4.out.alloc hs4 (.cells #[.int .i64 (m : Int), .int .u64 ((wy &&& md : Nat) : Int)] 29)
         obtain ⟨Z, hZ⟩ : ∃ Z, w4.alloc (.cells #[.int .i64 (m : Int), .int .u64 ((wy &&& md : Nat) : Int)] 29) = Z := ⟨_, rfl⟩
         rw [hZ]
         rw [hZ] at TB HZ
         obtain ⟨f1, f2, f3⟩ := CH.step HZ
         obtain ⟨u0, u1, u2, u3, u4⟩ := PW.step HZ
         obtain ⟨t0, t1, t2, t3, t4⟩ := TB
         have HZW := Lib.hid (below_nxt HBV.out HZ)
         clear hZ HZ k1 k2 k3 k4 y1 y2 x1 x2 x3 x4 y3 y4
         go_wp2_with (go_at_call 25; (with_reducible refine ((CS _ (HSE.out.step HZW.out) (HT.out.next HZW.out)).out).mono ?_); rintro e w6 ⟨rfl, hb⟩; have HB6 := Lib.hid (below_nxt HZW.out hb); clear hb)
         all_goals first
           | exact bodyPost_ret (v := .tuple #[.bool res, .int .i64 0]) (by simp [results, Tryz.results11, go_sem, HLB.out, *]; try (first | (intros; omega) | (intro hh; exact absurd (show ((wy &&& md : Nat) : Int) = (wy : Int) by rw [hh]) (by assumption)))) rfl ⟨rfl, HB6.out⟩
           | exact bodyPost_ret (v := .tuple #[.bool res, .int .i64 0]) (by simp [results, Tryz.results11, go_sem, HLB.out, *]; try (first | (intros; omega) | (intro hh; exact absurd (show ((wy &&& md : Nat) : Int) = (wy : Int) by rw [hh]) (by assumption)))) rfl ⟨rfl, HZW.out⟩)
      | (have TB := (show TabI w4 w3.heap.size 0 0 from NC).put m (wy &&& md)
         have HZ := below_put2 (g := w3.heap.size) HB4.out hs3 (.int .i64 (m : Int)) (.int .u64 ((wy &&& md : Nat) : Int))
         obtain ⟨Z, hZ⟩ : ∃ Z, ((w4.setCell ⟨w3.heap.size, 0, none⟩ (.int .i64 (m : Int))).setCell ⟨w3.heap.size, 1, none⟩ (.int .u64 ((wy &&& md : Nat) : Int))) = Z := ⟨_, rfl⟩
         rw [hZ]
         rw [hZ] at TB HZ
         obtain ⟨f1, f2, f3⟩ := CH.step HZ
         obtain ⟨u0, u1, u2, u3, u4⟩ := PW.step HZ
         obtain ⟨t0, t1, t2, t3, t4⟩ := TB
         have HZW := Lib.hid (below_nxt HBV.out HZ)
         clear hZ HZ k1 k2 k3 k4 y1 y2 x1 x2 x3 x4 y3 y4
         go_wp2_with (go_at_call 25; (with_reducible refine ((CS _ (HSE.out.step HZW.out) (HT.out.next HZW.out)).out).mono ?_); rintro e w6 ⟨rfl, hb⟩; have HB6 := Lib.hid (below_nxt HZW.out hb); clear hb)
         all_goals first
           | exact bodyPost_ret (v := .tuple #[.bool res, .int .i64 0]) (by simp [results, Tryz.results11, go_sem, HLB.out, *]; try (first | (intros; omega) | (intro hh; exact absurd (show ((wy &&& md : Nat) : Int) = (wy : Int) by rw [hh]) (by assumption)))) rfl ⟨rfl, HB6.out⟩
           | exact bodyPost_ret (v := .tuple #[.bool res, .int .i64 0]) (by simp [results, Tryz.results11, go_sem, HLB.out, *]; try (first | (intros; omega) | (intro hh; exact absurd (show ((wy &&& md : Nat) : Int) = (wy : Int) by rw [hh]) (by assumption)))) rfl ⟨rfl, HZW.out⟩)
      | (have TB := (show TabI w4 V.heap.size 0 0 from NC).put m (wy &&& md)
         have HZ := below_put2 (g := V.heap.size) HB4.out (Nat.le_refl _) (.int .i64 (m : Int)) (.int .u64 ((wy &&& md : Nat) : Int))
         obtain ⟨Z, hZ⟩ : ∃ Z, ((w4.setCell ⟨V.heap.size, 0, none⟩ (.int .i64 (m : Int))).setCell ⟨V.heap.size, 1, none⟩ (.int .u64 ((wy &&& md : Nat) : Int))) = Z := ⟨_, rfl⟩
         rw [hZ]
         rw [hZ] at TB HZ
         obtain ⟨f1, f2, f3⟩ := CH.step HZ
         obtain ⟨u0, u1, u2, u3, u4⟩ := PW.step HZ
         obtain ⟨t0, t1, t2, t3, t4⟩ := TB
         have HZW := Lib.hid (below_nxt HBV.out HZ)
         clear hZ HZ k1 k2 k3 k4 y1 y2 x1 x2 x3 x4 y3 y4
         go_wp2_with (go_at_call 25; (with_reducible refine ((CS _ (HSE.out.step HZW.out) (HT.out.next HZW.out)).out).mono ?_); rintro e w6 ⟨rfl, hb⟩; have HB6 := Lib.hid (below_nxt HZW.out hb); clear hb)
         all_goals first
           | exact bodyPost_ret (v := .tuple #[.bool res, .int .i64 0]) (by simp [results, Tryz.results11, go_sem, HLB.out, *]; try (first | (intros; omega) | (intro hh; exact absurd (show ((wy &&& md : Nat) : Int) = (wy : Int) by rw [hh]) (by assumption)))) rfl ⟨rfl, HB6.out⟩
           | exact bodyPost_ret (v := .tuple #[.bool res, .int .i64 0]) (by simp [results, Tryz.results11, go_sem, HLB.out, *]; try (first | (intros; omega) | (intro hh; exact absurd (show ((wy &&& md : Nat) : Int) = (wy : Int) by rw [hh]) (by assumption)))) rfl ⟨rfl, HZW.out⟩)
  · have hv : Hz.logV n l a b = (false, Hz.chg n l a b) := if_neg h
    rw [hv]
    have hne : (Hz.chg n l a b != 0) = true := by simp [h]
    generalize Hz.chg n l a b = k at *
    clear hv h hw hs ht L1
    go_enter Tryz.func11, Tryz.ntmps11
    go_wp2_with (go_at_call 24; (with_reducible refine ((CK _ (HSE.out.step L0.out)).out).mono ?_); rintro e w1 ⟨rfl, hb⟩; have HB1 := Lib.hid (below_nxt L0.out hb); clear hb)
    exact bodyPost_ret (v := .tuple #[.bool false, .int .i64 k]) (by simp [results, Tryz.results11, go_sem]) rfl ⟨rfl, HB1.out⟩
end Go.Proofs.YtahjdmdgkkienaaGreatDoor

