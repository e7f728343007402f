/- The statement BoundsDrops. -/
import Derived.Test.YtkemicfaiipidaaBSb
import Derived.Test.YtkemicfaiipidaaBSi
import Derived.Test.YtkemicfaiipidaaBD
import Derived.Test.YtkemicfaiipidaaBV
import Derived.Test.YtkemicfaiipidaaBU
import Derived.Test.YtkemicfaiipidaaBH
import Derived.Test.YtkemicfaiipidaaBi
import Derived.BigQuiet
namespace Go.Proofs.Ytkemicfaiipidaa
open Go.RowKit
set_option maxHeartbeats 8000000 in
set_option maxRecDepth 100000 in
theorem drops_any (n : Int) (v : Value) (R : List (List Int)) (b : Nat) (w : World) (hs : SeesR w v R) (hb : b < 256) :
    Calls Try.prog 6 #[.agg #[.int .i64 n, v], .int .u8 (b : Int)] w fun e w' => e = .returned (.bool true) ∧ Below w.heap.size w w' := by
  have CRa := fun W (h : SeesR W v R) => Lib.hid (right_any n v R W h)
  have HS := Lib.hid hs
  obtain ⟨ao, cap, rfl, hcap1, hcap2, -⟩ := hs
  obtain ⟨B0, L0⟩ := boxB_new w n (.slice ao R.length cap) 24
  have HB0 := Lib.hid L0
  have HX0 := Lib.hid B0
  obtain ⟨X0, X1, X2⟩ := B0
  clear L0
  cases hr : Bn.rgt n R <;> rw [hr] at CRa
  · clear hr
    go_enter Try.func6, Try.ntmps6
    go_wp2_with fail
    clear X0 X1 X2
    refine ((CRa _ (HS.out.step HB0.out)).out).mono ?_
    rintro e w1 ⟨rfl, hb1⟩
    have HB1 := Lib.hid (below_nxt HB0.out hb1)
    have HX1 := Lib.hid (HX0.out.step hb1)
    clear hb1 HB0 HX0
    go_wp2_with fail
    refine (awake_any _).mono ?_
    rintro e wz ⟨rfl, hbz⟩
    have HBz := Lib.hid (below_nxt HB1.out hbz)
    clear hbz
    go_wp2
    go_ret
    exact ⟨rfl, HBz.out⟩
  · obtain ⟨N, rfl, hN, hc, hSh, hR, hBd⟩ := Bn.rgt_ok hr
    clear hr
    by_cases hz : N = 0
    · subst hz
      clear hc hSh hR hBd
      go_enter Try.func6, Try.ntmps6
      go_wp2_with fail
      clear X0 X1 X2
      refine ((CRa _ (HS.out.step HB0.out)).out).mono ?_
      rintro e w1 ⟨rfl, hb1⟩
      have HB1 := Lib.hid (below_nxt HB0.out hb1)
      have HX1 := Lib.hid (HX0.out.step hb1)
      clear hb1 HB0 HX0
      obtain ⟨X0, X1, X2⟩ := HX1.out
      go_wp2_with fail
      refine (awake_any _).mono ?_
      rintro e wz ⟨rfl, hbz⟩
      have HBz := Lib.hid (below_nxt HB1.out hbz)
      clear hbz
      go_wp2
      go_ret
      exact ⟨rfl, HBz.out⟩
    · have hN1 : 1 ≤ N := by omega
      have zN : ¬ ((N : Int) = 0) := by omega
      clear hz
      obtain ⟨a, ha⟩ : ∃ a, a = 1 + b % N := ⟨_, rfl⟩
      have ha1 : 1 ≤ a := by omega
      have haN : a ≤ N := by have := Nat.mod_lt b (show 0 < N by omega); omega
      obtain ⟨c, hcm⟩ : ∃ c, c = b % N := ⟨_, rfl⟩
      have hmod : (b : Int).tmod (N : Int) = (c : Int) := by rw [Int.tmod_eq_emod_of_nonneg (by omega), hcm]; omega
      have HAc : Hid ((1 + (c : Int)) = (a : Int)) := Lib.hid (by omega)
      have HM2 := Lib.hid ha
      have HM3 := Lib.hid hcm
      have hc255 : (c : Int) ≤ 255 := by have := Nat.mod_le b N; omega
      clear ha hcm
      have CW := fun cv C W (h : SeesR W cv C) => Lib.hid (rChk_any N cv C W h)
      cases hk : Bn.ok N (Bn.mx R)
      · have CCl := fun W (h : SeesR W (.slice ao R.length cap) R) => Lib.hid (show Calls Try.prog 21 #[.agg #[.int .i64 (N : Int), .slice ao R.length cap]] W fun e w' => ∃ v cy, e = .returned (.tuple #[v, cy, .bool false, .int .i64 0]) ∧ ValB w' v 0 [] ∧ Below W.heap.size W w' by
          have hcv : Bn.closV N R = (0, [], false, 0) := by rw [Bn.closV_small hN hc hR hBd, hk]; rfl
          refine (bClo_any N _ R W h).mono ?_
          rintro e w' ⟨v, cy, l, rfl, h1, -, -, -, h2⟩
          rw [hcv] at h1 ⊢
          exact ⟨v, cy, rfl, h1, h2⟩)
        have CFg := fun W (h : SeesR W (.slice ao R.length cap) R) => Lib.hid (show Calls Try.prog 26 #[.agg #[.int .i64 (N : Int), .slice ao R.length cap], .int .i64 (a : Int)] W (RetB (0, [], 16) W) by
          have := bFgt_any N a _ R W h
          rw [show Bn.forV N R a = (0, [], 16) by unfold Bn.forV; rw [Bn.cwE_one hc (by omega) haN, hk]; rfl] at this
          exact this)
        have CSh := fun W (h : SeesR W (.slice ao R.length cap) R) => Lib.hid (show Calls Try.prog 27 #[.agg #[.int .i64 (N : Int), .slice ao R.length cap], .int .i64 (a : Int)] W (RetB (0, [], 16) W) by
          have := bShift_any N a _ R W h
          rw [show Bn.shiV N R a = (0, [], 16) by unfold Bn.shiV; rw [Bn.cwE_one hc (by omega) haN, hk]; rfl] at this
          exact this)
        clear hk hc hSh hR hBd
        go_enter Try.func6, Try.ntmps6
        go_wp2_with fail
        clear X0 X1 X2
        refine ((CRa _ (HS.out.step HB0.out)).out).mono ?_
        rintro e w1 ⟨rfl, hb1⟩
        have HB1 := Lib.hid (below_nxt HB0.out hb1)
        have HX1 := Lib.hid (HX0.out.step hb1)
        clear hb1 HB0 HX0
        obtain ⟨X0, X1, X2⟩ := HX1.out
        go_wp2_with fail
        rw [HAc.out]
        clear hmod hc255
        clear X0 X1 X2
        refine ((CCl w1 (HS.out.step HB1.out)).out).mono ?_
        rintro e w2 ⟨v2, cy, rfl, ⟨u2, rfl, hu2⟩, hb2⟩
        obtain ⟨a2, c2, rfl, -⟩ := id hu2
        have L2 := boxB_new w2 0 (.slice a2 (([] : List (List Int))).length c2) 24
        have HB2 := Lib.hid (below_nxt (below_nxt HB1.out hb2) L2.2)
        have QX2 := Lib.hid (HX1.out.step hb2)
        obtain ⟨X0, X1, X2⟩ := QX2.out
        have HX2 := Lib.hid (QX2.out.step L2.2)
        have HC2 := Lib.hid (hu2.step L2.2)
        have HZ2 := Lib.hid L2.1
        clear hb2 hu2 L2 HB1 HX1 QX2
        go_wp2_with fail
        clear X0 X1 X2
        generalize w2.alloc (.cells #[.int .i64 0, .slice a2 (([] : List (List Int))).length c2] 24) = X2 at *
        generalize hk2 : w2.heap.size = k2 at *
        clear hk2
        refine ((CFg X2 (HS.out.step HB2.out)).out).mono ?_
        rintro e w3 ⟨v3, rfl, ⟨u3, rfl, hu3⟩, hb3⟩
        obtain ⟨a3, c3, rfl, -⟩ := id hu3
        have L3 := boxB_new w3 0 (.slice a3 (([] : List (List Int))).length c3) 24
        have HB3 := Lib.hid (below_nxt (below_nxt HB2.out hb3) L3.2)
        have QX3 := Lib.hid (HX2.out.step hb3)
        obtain ⟨X0, X1, X2⟩ := QX3.out
        have HX3 := Lib.hid (QX3.out.step L3.2)
        have QZ3 := Lib.hid (HZ2.out.step hb3)
        have HZ3 := Lib.hid (QZ3.out.step L3.2)
        have HC3 := Lib.hid ((HC2.out.step hb3).step L3.2)
        have HA3 := Lib.hid (hu3.step L3.2)
        have HY3 := Lib.hid L3.1
        clear hb3 hu3 L3 HB2 HX2 HZ2 HC2 QX3 QZ3
        go_wp2_with fail
        clear X0 X1 X2
        generalize w3.alloc (.cells #[.int .i64 0, .slice a3 (([] : List (List Int))).length c3] 24) = X3 at *
        generalize hk3 : w3.heap.size = k3 at *
        clear hk3
        refine ((CSh X3 (HS.out.step HB3.out)).out).mono ?_
        rintro e w4 ⟨v4, rfl, ⟨u4, rfl, hu4⟩, hb4⟩
        obtain ⟨a4, c4, rfl, -⟩ := id hu4
        have L4 := boxB_new w4 0 (.slice a4 (([] : List (List Int))).length c4) 24
        have HB4 := Lib.hid (below_nxt (below_nxt HB3.out hb4) L4.2)
        have QX4 := Lib.hid (HX3.out.step hb4)
        obtain ⟨X0, X1, X2⟩ := QX4.out
        have HX4 := Lib.hid (QX4.out.step L4.2)
        have QZ4 := Lib.hid (HZ3.out.step hb4)
        have HZ4 := Lib.hid (QZ4.out.step L4.2)
        have HC4 := Lib.hid ((HC3.out.step hb4).step L4.2)
        have QY4 := Lib.hid (HY3.out.step hb4)
        have HY4 := Lib.hid (QY4.out.step L4.2)
        have HA4 := Lib.hid ((HA3.out.step hb4).step L4.2)
        have HM4 := Lib.hid (hu4.step L4.2)
        have HW4 := Lib.hid L4.1
        clear hb4 hu4 L4 HB3 HX3 HZ3 HC3 HY3 HA3 QX4 QZ4 QY4
        go_wp2_with fail
        clear X0 X1 X2
        generalize w4.alloc (.cells #[.int .i64 0, .slice a4 (([] : List (List Int))).length c4] 24) = X4 at *
        generalize hk4 : w4.heap.size = k4 at *
        clear hk4
        refine (awake_any _).mono ?_
        rintro e wz ⟨rfl, hbz⟩
        have HBz := Lib.hid (below_nxt HB4.out hbz)
        clear hbz
        go_wp2
        go_ret
        exact ⟨rfl, HBz.out⟩
      · obtain ⟨P, hP⟩ : ∃ P, P = N - 1 := ⟨_, rfl⟩
        have hsub : (N : Int) - 1 = (P : Int) := by omega
        have CCl := fun W (h : SeesR W (.slice ao R.length cap) R) => Lib.hid (show Calls Try.prog 21 #[.agg #[.int .i64 (N : Int), .slice ao R.length cap]] W fun e w' => ∃ v cy, e = .returned (.tuple #[v, cy, .bool true, .int .i64 0]) ∧ ValB w' v N (Bn.rws N (Bn.clo N (Bn.mx R))) ∧ Below W.heap.size W w' by
          have hcv : Bn.closV N R = ((N : Int), Bn.rws N (Bn.clo N (Bn.mx R)), true, 0) := by rw [Bn.closV_small hN hc hR hBd, hk]; rfl
          refine (bClo_any N _ R W h).mono ?_
          rintro e w' ⟨v, cy, l, rfl, h1, -, -, -, h2⟩
          rw [hcv] at h1 ⊢
          exact ⟨v, cy, rfl, h1, h2⟩)
        have CFg := fun W (h : SeesR W (.slice ao R.length cap) R) => Lib.hid (show Calls Try.prog 26 #[.agg #[.int .i64 (N : Int), .slice ao R.length cap], .int .i64 (a : Int)] W (RetB ((N : Int), Bn.rws N (Bn.fgF N a (Bn.clo N (Bn.mx R))), 0) W) by
          have := bFgt_any N a _ R W h
          rw [Bn.forV_small hN hc hR hBd ha1 haN hk] at this
          exact this)
        have CSh := fun W (h : SeesR W (.slice ao R.length cap) R) => Lib.hid (show Calls Try.prog 27 #[.agg #[.int .i64 (N : Int), .slice ao R.length cap], .int .i64 (a : Int)] W (RetB ((P : Int), Bn.rws P (Bn.shM N R a), 0) W) by
          have := bShift_any N a _ R W h
          rw [Bn.shiV_small hN hc hR hBd ha1 haN hk, ← hP] at this
          exact this)
        have CKm := fun cv W (h : SeesR W cv (Bn.rws P (Bn.shM N R a))) => Lib.hid (show Calls Try.prog 28 #[.agg #[.int .i64 (P : Int), cv]] W fun e w' => e = .returned (.int .i64 0) ∧ Below W.heap.size W w' by
          have := rChk_any P cv _ W h
          rw [show Bn.chk (P : Int) (Bn.rws P (Bn.shM N R a)) = 0 by rw [hP]; exact Bn.chk_shi hN hR hBd ha1 haN hk] at this
          exact this)
        have CKc := fun cv W (h : SeesR W cv (Bn.rws N (Bn.clo N (Bn.mx R)))) => Lib.hid (show Calls Try.prog 28 #[.agg #[.int .i64 (N : Int), cv]] W fun e w' => e = .returned (.int .i64 0) ∧ Below W.heap.size W w' by
          have := rChk_any N cv _ W h
          rw [Bn.chk_clo hN hR hBd hk] at this
          exact this)
        have CEf := fun j cv W (hj : j ≤ N) (h : SeesR W cv (Bn.rws N (Bn.fgF N a (Bn.clo N (Bn.mx R))))) => Lib.hid (show Calls Try.prog 22 #[.agg #[.int .i64 (N : Int), cv], .int .i64 (j : Int)] W fun e w' => e = .returned (.tuple #[.int .i64 (Bn.opp (Bn.fgF N a (Bn.clo N (Bn.mx R)) j 0)), .int .i64 (Bn.fgF N a (Bn.clo N (Bn.mx R)) 0 j), .int .i64 0]) ∧ Below W.heap.size W w' by
          have := bExt_any N j cv _ W h
          rw [Bn.extV_for hN hR hBd hk hj] at this
          exact this)
        have CEb := fun j W (hj : j ≤ N) (h : SeesR W (.slice ao R.length cap) R) => Lib.hid (show Calls Try.prog 22 #[.agg #[.int .i64 (N : Int), .slice ao R.length cap], .int .i64 (j : Int)] W fun e w' => e = .returned (.tuple #[.int .i64 (Bn.opp (Bn.clo N (Bn.mx R) j 0)), .int .i64 (Bn.clo N (Bn.mx R) 0 j), .int .i64 0]) ∧ Below W.heap.size W w' by
          have := bExt_any N j _ _ W h
          rw [Bn.extV_at hc hk hj] at this
          exact this)
        have HEh := Lib.hid (Bn.extV_here (R := R) ha1 haN)
        have HEt := Lib.hid (fun j (h : j ≠ a) => Bn.extV_there (N := N) (R := R) ha1 h)
        have HV : Hid (∀ j x, 1 ≤ j → j ≤ N → j ≠ a → x = (if a < j then j - 1 else j) → x ≤ P ∧ Bn.mx (Bn.rws P (Bn.shM N R a)) 0 x = Bn.mx (Bn.rws N (Bn.clo N (Bn.mx R))) a j ∧ Bn.mx (Bn.rws P (Bn.shM N R a)) x 0 = Bn.mx (Bn.rws N (Bn.clo N (Bn.mx R))) j a) := Lib.hid (fun j x h1 h2 h3 h4 => by
          have hx : x ≤ P := by rw [h4]; split <;> omega
          obtain ⟨g1, g2⟩ := Bn.shM_at (N := N) (R := R) ha1 h1 h3 h4
          rw [Bn.rws_at P _ (Nat.zero_le _) hx, Bn.rws_at P _ hx (Nat.zero_le _), Bn.rws_at N _ haN h2, Bn.rws_at N _ h2 haN]
          exact ⟨hx, g1, g2⟩)
        have HSM := Lib.hid (Bn.rws_shp P (Bn.shM N R a))
        have HSC := Lib.hid (Bn.rws_shp N (Bn.clo N (Bn.mx R)))
        have HPh := Lib.hid hP
        clear hk hc hSh hR hBd hP
        generalize Bn.rws P (Bn.shM N R a) = M at *
        generalize Bn.rws N (Bn.clo N (Bn.mx R)) = C at *
        generalize Bn.rws N (Bn.fgF N a (Bn.clo N (Bn.mx R))) = F at *
        generalize Bn.fgF N a (Bn.clo N (Bn.mx R)) = ff at *
        generalize Bn.clo N (Bn.mx R) = cc at *
        go_enter Try.func6, Try.ntmps6
        go_wp2_with fail
        clear X0 X1 X2
        refine ((CRa _ (HS.out.step HB0.out)).out).mono ?_
        rintro e w1 ⟨rfl, hb1⟩
        have HB1 := Lib.hid (below_nxt HB0.out hb1)
        have HX1 := Lib.hid (HX0.out.step hb1)
        clear hb1 HB0 HX0
        obtain ⟨X0, X1, X2⟩ := HX1.out
        go_wp2_with fail
        rw [HAc.out]
        clear hmod hc255
        clear X0 X1 X2
        refine ((CCl w1 (HS.out.step HB1.out)).out).mono ?_
        rintro e w2 ⟨v2, cy, rfl, ⟨u2, rfl, hu2⟩, hb2⟩
        obtain ⟨a2, c2, rfl, -⟩ := id hu2
        have L2 := boxB_new w2 (N : Int) (.slice a2 (C).length c2) 24
        have HB2 := Lib.hid (below_nxt (below_nxt HB1.out hb2) L2.2)
        have QX2 := Lib.hid (HX1.out.step hb2)
        obtain ⟨X0, X1, X2⟩ := QX2.out
        have HX2 := Lib.hid (QX2.out.step L2.2)
        have HC2 := Lib.hid (hu2.step L2.2)
        have HZ2 := Lib.hid L2.1
        clear hb2 hu2 L2 HB1 HX1 QX2
        go_wp2_with fail
        clear X0 X1 X2
        generalize w2.alloc (.cells #[.int .i64 (N : Int), .slice a2 (C).length c2] 24) = X2 at *
        generalize hk2 : w2.heap.size = k2 at *
        clear hk2
        refine ((CFg X2 (HS.out.step HB2.out)).out).mono ?_
        rintro e w3 ⟨v3, rfl, ⟨u3, rfl, hu3⟩, hb3⟩
        obtain ⟨a3, c3, rfl, -⟩ := id hu3
        have L3 := boxB_new w3 (N : Int) (.slice a3 (F).length c3) 24
        have HB3 := Lib.hid (below_nxt (below_nxt HB2.out hb3) L3.2)
        have QX3 := Lib.hid (HX2.out.step hb3)
        obtain ⟨X0, X1, X2⟩ := QX3.out
        have HX3 := Lib.hid (QX3.out.step L3.2)
        have QZ3 := Lib.hid (HZ2.out.step hb3)
        have HZ3 := Lib.hid (QZ3.out.step L3.2)
        have HC3 := Lib.hid ((HC2.out.step hb3).step L3.2)
        have HA3 := Lib.hid (hu3.step L3.2)
        have HY3 := Lib.hid L3.1
        clear hb3 hu3 L3 HB2 HX2 HZ2 HC2 QX3 QZ3
        go_wp2_with fail
        clear X0 X1 X2
        generalize w3.alloc (.cells #[.int .i64 (N : Int), .slice a3 (F).length c3] 24) = X3 at *
        generalize hk3 : w3.heap.size = k3 at *
        clear hk3
        refine ((CSh X3 (HS.out.step HB3.out)).out).mono ?_
        rintro e w4 ⟨v4, rfl, ⟨u4, rfl, hu4⟩, hb4⟩
        obtain ⟨a4, c4, rfl, -⟩ := id hu4
        have L4 := boxB_new w4 (P : Int) (.slice a4 (M).length c4) 24
        have HB4 := Lib.hid (below_nxt (below_nxt HB3.out hb4) L4.2)
        have QX4 := Lib.hid (HX3.out.step hb4)
        obtain ⟨X0, X1, X2⟩ := QX4.out
        have HX4 := Lib.hid (QX4.out.step L4.2)
        have QZ4 := Lib.hid (HZ3.out.step hb4)
        have HZ4 := Lib.hid (QZ4.out.step L4.2)
        have HC4 := Lib.hid ((HC3.out.step hb4).step L4.2)
        have QY4 := Lib.hid (HY3.out.step hb4)
        have HY4 := Lib.hid (QY4.out.step L4.2)
        have HA4 := Lib.hid ((HA3.out.step hb4).step L4.2)
        have HM4 := Lib.hid (hu4.step L4.2)
        have HW4 := Lib.hid L4.1
        clear hb4 hu4 L4 HB3 HX3 HZ3 HC3 HY3 HA3 QX4 QZ4 QY4
        go_wp2_with fail
        clear X0 X1 X2
        generalize w4.alloc (.cells #[.int .i64 (P : Int), .slice a4 (M).length c4] 24) = X4 at *
        generalize hk4 : w4.heap.size = k4 at *
        clear hk4
        refine ((CKm _ X4 HM4.out).out).mono ?_
        rintro e w5 ⟨rfl, hb5⟩
        have HB5 := Lib.hid (below_nxt HB4.out hb5)
        have HX5 := Lib.hid (HX4.out.step hb5)
        have HZ5 := Lib.hid (HZ4.out.step hb5)
        have HC5 := Lib.hid (HC4.out.step hb5)
        have HY5 := Lib.hid (HY4.out.step hb5)
        have HA5 := Lib.hid (HA4.out.step hb5)
        have HW5 := Lib.hid (HW4.out.step hb5)
        have HM5 := Lib.hid (HM4.out.step hb5)
        clear hb5 HB4 HX4 HZ4 HC4 HY4 HA4 HW4 HM4
        obtain ⟨Z0, Z1, Z2⟩ := HZ5.out
        go_wp2_with fail
        clear Z0 Z1 Z2
        refine ((CKc _ w5 HC5.out).out).mono ?_
        rintro e w6 ⟨rfl, hb6⟩
        have HB6 := Lib.hid (below_nxt HB5.out hb6)
        have HX6 := Lib.hid (HX5.out.step hb6)
        have HZ6 := Lib.hid (HZ5.out.step hb6)
        have HC6 := Lib.hid (HC5.out.step hb6)
        have HY6 := Lib.hid (HY5.out.step hb6)
        have HA6 := Lib.hid (HA5.out.step hb6)
        have HW6 := Lib.hid (HW5.out.step hb6)
        have HM6 := Lib.hid (HM5.out.step hb6)
        clear hb6 HB5 HX5 HZ5 HC5 HY5 HA5 HW5 HM5
        obtain ⟨Z0, Z1, Z2⟩ := HZ6.out
        obtain ⟨X0, X1, X2⟩ := HX6.out
        go_wp2
        go_loopw [14] (fun s14 wr => ∃ j : Nat, 1 ≤ j ∧ j ≤ N + 1 ∧ s14 = .int .i64 (j : Int) ∧ Hid (Below w6.heap.size w6 wr)) (fun s14 _ => N + 1 - (intOf s14).toNat)
        case atStart => exact ⟨1, Nat.le_refl _, by omega, rfl, Lib.hid (Below.refl _ _)⟩
        case round =>
          clear Z0 Z1 Z2 X0 X1 X2
          obtain ⟨j, hj1, hj2, rfl, HBW⟩ := hrel
          have HX7 := Lib.hid (HX6.out.step HBW.out)
          have HZ7 := Lib.hid (HZ6.out.step HBW.out)
          have HC7 := Lib.hid (HC6.out.step HBW.out)
          have HY7 := Lib.hid (HY6.out.step HBW.out)
          have HA7 := Lib.hid (HA6.out.step HBW.out)
          have HW7 := Lib.hid (HW6.out.step HBW.out)
          have HM7 := Lib.hid (HM6.out.step HBW.out)
          have HB7 := Lib.hid (below_nxt HB6.out HBW.out)
          obtain ⟨X0, X1, X2⟩ := HX7.out
          by_cases hjl : j ≤ N
          · have zj : (j : Int) ≤ (N : Int) := by omega
            have HJ1 := Lib.hid hj1
            have HJ2 := Lib.hid hjl
            obtain ⟨Y0, Y1, Y2⟩ := HY7.out
            have C7 := CEf j _ wr hjl HA7.out
            have C8 := fun W h => CEb j W hjl h
            clear hj1 hj2 hjl CEf CEb CCl CFg CSh CKm CKc
            go_wp2_with fail
            clear X0 X1 X2 Y0 Y1 Y2
            refine (C7.out).mono ?_
            rintro e w8 ⟨rfl, hb8⟩
            clear C7
            have HBW8 := Lib.hid (below_nxt HBW.out hb8)
            have HX8 := Lib.hid (HX7.out.step hb8)
            have HZ8 := Lib.hid (HZ7.out.step hb8)
            have HC8 := Lib.hid (HC7.out.step hb8)
            have HY8 := Lib.hid (HY7.out.step hb8)
            have HW8 := Lib.hid (HW7.out.step hb8)
            have HM8 := Lib.hid (HM7.out.step hb8)
            have HB8 := Lib.hid (below_nxt HB7.out hb8)
            clear hb8 HX7 HZ7 HC7 HY7 HW7 HM7 HB7
            obtain ⟨X0, X1, X2⟩ := HX8.out
            go_wp2_with fail
            clear X0 X1 X2
            refine ((C8 w8 (HS.out.step HB8.out)).out).mono ?_
            rintro e w9 ⟨rfl, hb9⟩
            clear C8
            have HBW9 := Lib.hid (below_nxt HBW8.out hb9)
            have HX9 := Lib.hid (HX8.out.step hb9)
            have HZ9 := Lib.hid (HZ8.out.step hb9)
            have HC9 := Lib.hid (HC8.out.step hb9)
            have HY9 := Lib.hid (HY8.out.step hb9)
            have HW9 := Lib.hid (HW8.out.step hb9)
            have HM9 := Lib.hid (HM8.out.step hb9)
            have HB9 := Lib.hid (below_nxt HB8.out hb9)
            clear hb9 HX8 HZ8 HC8 HY8 HW8 HM8 HB8
            by_cases hja : j = a
            · subst hja
              rw [HEh.out.1, HEh.out.2]
              go_wp2
              exact ⟨⟨j + 1, by omega, by have := HJ2.out; omega, by first | rfl | go_num, HBW9⟩, by have := HJ2.out; simp [intOf]; omega⟩
            · have hja2 : ¬ ((j : Int) = (a : Int)) := by omega
              rw [(HEt.out j hja).1, (HEt.out j hja).2]
              by_cases hgt : a < j
              · have zg : (a : Int) < (j : Int) := by omega
                obtain ⟨x, hxj⟩ : ∃ x, x = j - 1 := ⟨_, rfl⟩
                have zx : (j : Int) - 1 = (x : Int) := by omega
                have HXJ := Lib.hid hxj
                clear hxj
                obtain ⟨hx, V1, V2⟩ := HV.out j x HJ1.out HJ2.out hja (by first | (rw [if_pos hgt]; exact HXJ.out) | rw [if_neg hgt])
                obtain ⟨W0, W1, W2⟩ := HW9.out
                obtain ⟨Z0, Z1, Z2⟩ := HZ9.out
                have zl1 : (0 : Int) < (M.length : Int) := by have := HSM.out.1; omega
                have zl2 : ((x : Nat) : Int) < (M.length : Int) := by have := HSM.out.1; omega
                have zl3 : ((x : Nat) : Int) < ((M.getD 0 []).length : Int) := by have := HSM.out.2 0 (Nat.zero_le _); omega
                have zl4 : (0 : Int) < ((M.getD x []).length : Int) := by have := HSM.out.2 x hx; omega
                have zl5 : (a : Int) < (C.length : Int) := by have := HSC.out.1; omega
                have zl6 : (j : Int) < (C.length : Int) := by have := HSC.out.1; have := HJ2.out; omega
                have zl7 : (j : Int) < ((C.getD a []).length : Int) := by have := HSC.out.2 a haN; have := HJ2.out; omega
                have zl8 : (a : Int) < ((C.getD j []).length : Int) := by have := HSC.out.2 j HJ2.out; omega
                obtain ⟨mb, mo, mc, d1, o1, r1, he1, -, p1, -, q1⟩ := HM9.out.get (Below.refl _ _) (i := 0) (j := x) (by omega) (by omega)
                obtain ⟨mb2, mo2, mc2, d2, o2, r2, he2, -, p2, -, q2⟩ := HM9.out.get (Below.refl _ _) (i := x) (j := 0) (by omega) (by omega)
                obtain ⟨cb, co, ccp, d3, o3, r3, he3, -, p3, -, q3⟩ := HC9.out.get (Below.refl _ _) (i := a) (j := j) (by omega) (by omega)
                obtain ⟨cb2, co2, cc2, d4, o4, r4, he4, -, p4, -, q4⟩ := HC9.out.get (Below.refl _ _) (i := j) (j := a) (by omega) (by omega)
                simp only [Value.slice.injEq] at he1 he2 he3 he4
                obtain ⟨rfl, -, rfl⟩ := he1
                obtain ⟨he2, -, rfl⟩ := he2
                obtain ⟨rfl, -, rfl⟩ := he3
                obtain ⟨he4, -, rfl⟩ := he4
                simp only [Option.some.injEq, Addr.mk.injEq, and_true] at he2 he4
                obtain ⟨rfl, rfl⟩ := he2
                obtain ⟨rfl, rfl⟩ := he4
                rw [V1] at q1
                rw [V2] at q2
                simp only [Nat.add_zero] at p1 q2
                generalize Bn.mx C a j = y1 at *
                generalize Bn.mx C j a = y2 at *
                clear V1 V2
                generalize (M.getD 0 []).length = u1 at *
                generalize (M.getD x []).length = u2 at *
                generalize (C.getD a []).length = u3 at *
                generalize (C.getD j []).length = u4 at *
                generalize Bn.opp (cc j 0) = y3 at *
                generalize cc 0 j = y4 at *
                clear HS HV HSM HSC HEh HEt hx HM9 HC9 HX9 HY9
                go_wp2
                go_quiet (fail)
                go_wp2
                exact ⟨⟨j + 1, by omega, by have := HJ2.out; omega, by first | rfl | go_num, Lib.hid (HBW9.out.trans (below_drewN _ _))⟩, by have := HJ2.out; simp [intOf]; omega⟩
              · have zg : ¬ ((a : Int) < (j : Int)) := by omega
                obtain ⟨hx, V1, V2⟩ := HV.out j j HJ1.out HJ2.out hja (by first | (rw [if_pos hgt]; exact HXJ.out) | rw [if_neg hgt])
                obtain ⟨W0, W1, W2⟩ := HW9.out
                obtain ⟨Z0, Z1, Z2⟩ := HZ9.out
                have zl1 : (0 : Int) < (M.length : Int) := by have := HSM.out.1; omega
                have zl2 : ((j : Nat) : Int) < (M.length : Int) := by have := HSM.out.1; omega
                have zl3 : ((j : Nat) : Int) < ((M.getD 0 []).length : Int) := by have := HSM.out.2 0 (Nat.zero_le _); omega
                have zl4 : (0 : Int) < ((M.getD j []).length : Int) := by have := HSM.out.2 j hx; omega
                have zl5 : (a : Int) < (C.length : Int) := by have := HSC.out.1; omega
                have zl6 : (j : Int) < (C.length : Int) := by have := HSC.out.1; have := HJ2.out; omega
                have zl7 : (j : Int) < ((C.getD a []).length : Int) := by have := HSC.out.2 a haN; have := HJ2.out; omega
                have zl8 : (a : Int) < ((C.getD j []).length : Int) := by have := HSC.out.2 j HJ2.out; omega
                obtain ⟨mb, mo, mc, d1, o1, r1, he1, -, p1, -, q1⟩ := HM9.out.get (Below.refl _ _) (i := 0) (j := j) (by omega) (by omega)
                obtain ⟨mb2, mo2, mc2, d2, o2, r2, he2, -, p2, -, q2⟩ := HM9.out.get (Below.refl _ _) (i := j) (j := 0) (by omega) (by omega)
                obtain ⟨cb, co, ccp, d3, o3, r3, he3, -, p3, -, q3⟩ := HC9.out.get (Below.refl _ _) (i := a) (j := j) (by omega) (by omega)
                obtain ⟨cb2, co2, cc2, d4, o4, r4, he4, -, p4, -, q4⟩ := HC9.out.get (Below.refl _ _) (i := j) (j := a) (by omega) (by omega)
                simp only [Value.slice.injEq] at he1 he2 he3 he4
                obtain ⟨rfl, -, rfl⟩ := he1
                obtain ⟨he2, -, rfl⟩ := he2
                obtain ⟨rfl, -, rfl⟩ := he3
                obtain ⟨he4, -, rfl⟩ := he4
                simp only [Option.some.injEq, Addr.mk.injEq, and_true] at he2 he4
                obtain ⟨rfl, rfl⟩ := he2
                obtain ⟨rfl, rfl⟩ := he4
                rw [V1] at q1
                rw [V2] at q2
                simp only [Nat.add_zero] at p1 q2
                generalize Bn.mx C a j = y1 at *
                generalize Bn.mx C j a = y2 at *
                clear V1 V2
                generalize (M.getD 0 []).length = u1 at *
                generalize (M.getD j []).length = u2 at *
                generalize (C.getD a []).length = u3 at *
                generalize (C.getD j []).length = u4 at *
                generalize Bn.opp (cc j 0) = y3 at *
                generalize cc 0 j = y4 at *
                clear HS HV HSM HSC HEh HEt hx HM9 HC9 HX9 HY9
                go_wp2
                go_quiet (fail)
                go_wp2
                exact ⟨⟨j + 1, by omega, by have := HJ2.out; omega, by first | rfl | go_num, Lib.hid (HBW9.out.trans (below_drewN _ _))⟩, by have := HJ2.out; simp [intOf]; omega⟩
          · have zj : ¬ ((j : Int) ≤ (N : Int)) := by omega
            go_wp2_with fail
            refine (awake_any _).mono ?_
            rintro e wz ⟨rfl, hbz⟩
            have HBz := Lib.hid (below_nxt HB7.out hbz)
            clear hbz
            go_wp2
            go_ret
            exact ⟨rfl, HBz.out⟩
end Go.Proofs.Ytkemicfaiipidaa
