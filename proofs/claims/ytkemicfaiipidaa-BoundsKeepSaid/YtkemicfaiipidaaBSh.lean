/- The statement BoundsKeep. -/
import Derived.Test.YtkemicfaiipidaaBSb
import Derived.Test.YtkemicfaiipidaaBSg
import Derived.Test.YtkemicfaiipidaaBHg
import Derived.Test.YtkemicfaiipidaaBMb
import Derived.Test.YtkemicfaiipidaaBMf
import Derived.Test.YtkemicfaiipidaaBF
import Derived.Test.YtkemicfaiipidaaBH
namespace Bn
theorem grt_num2 {ts : List Int} (h : ts.any grt = false) : ts.all num = true := all_num_of fun i hi => by
  cases e : grt (ts.getD i 0) with
  | true => rw [any_at hi e] at h; cases h
  | false =>
    unfold grt at e
    simp only [Bool.or_eq_false_iff, decide_eq_false_iff_not] at e
    unfold num
    rw [decide_eq_true (show -64000000 ≤ ts.getD i 0 by omega), decide_eq_true (show ts.getD i 0 ≤ 64000000 by omega)]
    rfl
end Bn
namespace Go.Proofs.Ytkemicfaiipidaa
open Go.RowKit
set_option maxHeartbeats 8000000 in
set_option maxRecDepth 100000 in
theorem keep_any (n : Int) (v : Value) (R : List (List Int)) (m : Int) (u : Value) (S : List (List Int)) (tv : Value) (ts : List Int) (w : World) (hs : SeesR w v R) (hu : SeesR w u S) (ht : SeeI w tv ts) (hnil : ∀ n c, tv = .slice none n c → c = 0) :
    Calls Try.prog 5 #[.agg #[.int .i64 n, v], .agg #[.int .i64 m, u], tv] w fun e w' => e = .returned (.bool true) ∧ Below w.heap.size w w' := by
  have CRa := fun W (h : SeesR W v R) => Lib.hid (right_any n v R W h)
  have CRb := fun W (h : SeesR W u S) => Lib.hid (right_any m u S W h)
  have CT := fun W (h : SeeI W tv ts) => Lib.hid (con_keep tv ts W h)
  have HN := Lib.hid hnil
  have HS := Lib.hid hs
  have HU := Lib.hid hu
  have HT := Lib.hid ht
  obtain ⟨ao, cap, rfl, hcap1, hcap2, -⟩ := hs
  obtain ⟨bo, cbp, rfl, hcbp1, hcbp2, -⟩ := hu
  obtain ⟨to, tc, rfl, ht1, ht2, -⟩ := ht
  clear hnil
  obtain ⟨X, hX, hBX, hEX, hLX⟩ := pro22 w n m (.slice ao R.length cap) (.slice bo S.length cbp)
  have HE0 := Lib.hid hEX
  have HX0 := Lib.hid hBX
  have HB0 := Lib.hid hLX
  obtain ⟨X0, X1, X2⟩ := hBX
  obtain ⟨E0, E1, E2⟩ := hEX
  rw [hX] at X0 X1 X2 E0 E1 E2
  clear hLX
  cases hr : Bn.rgt n R <;> rw [hr] at CRa
  · clear hr
    go_enter Try.func5, Try.ntmps5
    go_wp2_with fail
    rw [← hX]
    clear X0 X1 X2 E0 E1 E2
    refine ((CRa X (HS.out.step HB0.out)).out).mono ?_
    rintro e w1 ⟨rfl, hb1⟩
    have HB1 := Lib.hid (below_nxt HB0.out hb1)
    have HX1 := Lib.hid (HX0.out.step hb1)
    have HE1 := Lib.hid (HE0.out.step hb1)
    clear hb1 HB0 HX0 HE0
    go_wp2_with fail
    refine (awake_any _).mono ?_
    rintro e wz ⟨rfl, hbz⟩
    have HBz := Lib.hid (below_nxt HB1.out hbz)
    clear hbz
    go_wp2
    go_ret
    exact ⟨rfl, HBz.out⟩
  · obtain ⟨N, rfl, hN, hc, hSh, hR, hBd⟩ := Bn.rgt_ok hr
    clear hr
    cases hq : Bn.rgt m S <;> rw [hq] at CRb
    · clear hq hc hSh hR hBd
      go_enter Try.func5, Try.ntmps5
      go_wp2_with fail
      rw [← hX]
      clear X0 X1 X2 E0 E1 E2
      refine ((CRa X (HS.out.step HB0.out)).out).mono ?_
      rintro e w1 ⟨rfl, hb1⟩
      have HB1 := Lib.hid (below_nxt HB0.out hb1)
      have HX1 := Lib.hid (HX0.out.step hb1)
      have HE1 := Lib.hid (HE0.out.step hb1)
      clear hb1 HB0 HX0 HE0
      obtain ⟨E0, E1, E2⟩ := HE1.out
      go_wp2_with fail
      clear E0 E1 E2
      refine ((CRb w1 (HU.out.step HB1.out)).out).mono ?_
      rintro e w2 ⟨rfl, hb2⟩
      have HB2 := Lib.hid (below_nxt HB1.out hb2)
      have HX2 := Lib.hid (HX1.out.step hb2)
      have HE2 := Lib.hid (HE1.out.step hb2)
      clear hb2 HB1 HX1 HE1
      go_wp2_with fail
      refine (awake_any _).mono ?_
      rintro e wz ⟨rfl, hbz⟩
      have HBz := Lib.hid (below_nxt HB2.out hbz)
      clear hbz
      go_wp2
      go_ret
      exact ⟨rfl, HBz.out⟩
    · obtain ⟨N', rfl, hN', hc', hSh', hR', hBd'⟩ := Bn.rgt_ok hq
      clear hq
      by_cases hn : N' = N
      · subst hn
        have hnz : ((N' : Int) != (N' : Int)) = false := by simp
        by_cases hl : ts.length = N'
        · have hlz : ((ts.length : Int) != (N' : Int)) = false := by rw [hl]; simp
          cases hg : ts.any Bn.grt <;> rw [hg] at CT
          · have hnum := Bn.grt_num2 hg
            clear hg
            have CHa := fun W (h : SeesR W (.slice ao R.length cap) R) (g : SeeI W (.slice to ts.length tc) ts) => Lib.hid (show Calls Try.prog 19 #[.agg #[.int .i64 (N' : Int), .slice ao R.length cap], .slice to ts.length tc] W (HolP (Bn.hldB N' R ts, 0) W) by
              have := bHol_any N' _ _ R ts W h g HN.out
              rw [Bn.hldV_of hc hl hnum] at this
              exact this)
            have CHb := fun W (h : SeesR W (.slice bo S.length cbp) S) (g : SeeI W (.slice to ts.length tc) ts) => Lib.hid (show Calls Try.prog 19 #[.agg #[.int .i64 (N' : Int), .slice bo S.length cbp], .slice to ts.length tc] W (HolP (Bn.hldB N' S ts, 0) W) by
              have := bHol_any N' _ _ S ts W h g HN.out
              rw [Bn.hldV_of hc' hl hnum] at this
              exact this)
            have CMt := fun W (h : SeesR W (.slice ao R.length cap) R) (g : SeesR W (.slice bo S.length cbp) S) => Lib.hid (show Calls Try.prog 24 #[.agg #[.int .i64 (N' : Int), .slice ao R.length cap], .agg #[.int .i64 (N' : Int), .slice bo S.length cbp]] W (RetB ((N' : Int), Bn.rws N' (Bn.metM R S), 0) W) by
              have := bMet_any N' N' _ _ R S W h g
              rw [Bn.meeV_small hc hc'] at this
              exact this)
            have CHm := fun cv W (h : SeesR W cv (Bn.rws N' (Bn.metM R S))) (g : SeeI W (.slice to ts.length tc) ts) => Lib.hid (show Calls Try.prog 19 #[.agg #[.int .i64 (N' : Int), cv], .slice to ts.length tc] W (HolP (Bn.hldB N' R ts && Bn.hldB N' S ts, 0) W) by
              have := bHol_any N' cv _ _ ts W h g HN.out
              rw [Bn.hldV_of (Bn.chk_met hR hR') hl hnum, Bn.hldB_met] at this
              exact this)
            cases hk : Bn.ok N' (Bn.mx R)
            · have hcv : Bn.closV N' R = (0, [], false, 0) := by rw [Bn.closV_small hN hc hR hBd, hk]; rfl
              have CLe := fun W (h : SeesR W (.slice ao R.length cap) R) (g : SeesR W (.slice bo S.length cbp) S) => Lib.hid (show Calls Try.prog 25 #[.agg #[.int .i64 (N' : Int), .slice ao R.length cap], .agg #[.int .i64 (N' : Int), .slice bo S.length cbp]] W fun e w' => e = .returned (.tuple #[.bool true, .int .i64 0]) ∧ Below W.heap.size W w' by
                have := bLeq_any N' N' _ _ R S W h g
                rw [Bn.leqV_small hc hc', hk] at this
                exact this)
              have CCl := fun W (h : SeesR W (.slice ao R.length cap) R) => Lib.hid (show Calls Try.prog 21 #[.agg #[.int .i64 (N' : Int), .slice ao R.length cap]] W fun e w' => ∃ v cy, e = .returned (.tuple #[v, cy, .bool false, .int .i64 0]) ∧ ValB w' v 0 [] ∧ Below W.heap.size W w' by
                refine (bClo_any N' _ R W h).mono ?_
                rintro e w' ⟨v, cy, l, rfl, h1, -, -, -, h2⟩
                rw [hcv] at h1 ⊢
                exact ⟨v, cy, rfl, h1, h2⟩)
              rw [Bn.hld_no hR hk] at CHa CHm
              simp only [Bool.false_and] at CHm
              clear hk hc hSh hR hBd hc' hSh' hR' hBd' hcv hnum
              have HL := Lib.hid hl
              clear hl
              generalize Bn.hldB N' S ts = y at *
              generalize Bn.rws N' (Bn.metM R S) = M at *
              go_enter Try.func5, Try.ntmps5
              go_wp2_with fail
              rw [← hX]
              clear X0 X1 X2 E0 E1 E2
              refine ((CRa X (HS.out.step HB0.out)).out).mono ?_
              rintro e w1 ⟨rfl, hb1⟩
              have HB1 := Lib.hid (below_nxt HB0.out hb1)
              have HX1 := Lib.hid (HX0.out.step hb1)
              have HE1 := Lib.hid (HE0.out.step hb1)
              clear hb1 HB0 HX0 HE0
              obtain ⟨E0, E1, E2⟩ := HE1.out
              go_wp2_with fail
              clear E0 E1 E2
              refine ((CRb w1 (HU.out.step HB1.out)).out).mono ?_
              rintro e w2 ⟨rfl, hb2⟩
              have HB2 := Lib.hid (below_nxt HB1.out hb2)
              have HX2 := Lib.hid (HX1.out.step hb2)
              have HE2 := Lib.hid (HE1.out.step hb2)
              clear hb2 HB1 HX1 HE1
              obtain ⟨X0, X1, X2⟩ := HX2.out
              obtain ⟨E0, E1, E2⟩ := HE2.out
              go_wp2_with fail
              clear X0 X1 X2 E0 E1 E2
              refine ((CT w2 (HT.out.step HB2.out)).out).mono ?_
              rintro e w3 ⟨rfl, hb3⟩
              have HB3 := Lib.hid (below_nxt HB2.out hb3)
              have HX3 := Lib.hid (HX2.out.step hb3)
              have HE3 := Lib.hid (HE2.out.step hb3)
              clear hb3 HB2 HX2 HE2
              obtain ⟨X0, X1, X2⟩ := HX3.out
              go_wp2_with fail
              clear X0 X1 X2
              refine ((CCl w3 (HS.out.step HB3.out)).out).mono ?_
              rintro e w4 ⟨v4, cy, rfl, ⟨u4, rfl, hu4⟩, hb4⟩
              obtain ⟨a4, c4, rfl, -⟩ := id hu4
              have L4 := boxB_new w4 0 (.slice a4 (([] : List (List Int))).length c4) 24
              have HB4 := Lib.hid (below_nxt (below_nxt HB3.out hb4) L4.2)
              have QX4 := Lib.hid (HX3.out.step hb4)
              obtain ⟨X0, X1, X2⟩ := QX4.out
              have HX4 := Lib.hid (QX4.out.step L4.2)
              have QE4 := Lib.hid (HE3.out.step hb4)
              have HE4 := Lib.hid (QE4.out.step L4.2)
              have HC4 := Lib.hid (hu4.step L4.2)
              have HZ4 := Lib.hid L4.1
              clear hb4 hu4 L4 HB3 HX3 HE3 QX4 QE4
              go_wp2_with fail
              clear X0 X1 X2
              generalize w4.alloc (.cells #[.int .i64 0, .slice a4 (([] : List (List Int))).length c4] 24) = X4 at *
              generalize hk4 : w4.heap.size = k4 at *
              clear hk4
              refine ((CHa X4 (HS.out.step HB4.out) (HT.out.step HB4.out)).out).mono ?_
              rintro e w5 ⟨rfl, hb5⟩
              have HB5 := Lib.hid (below_nxt HB4.out hb5)
              have HX5 := Lib.hid (HX4.out.step hb5)
              have HE5 := Lib.hid (HE4.out.step hb5)
              have HZ5 := Lib.hid (HZ4.out.step hb5)
              have HC5 := Lib.hid (HC4.out.step hb5)
              clear hb5 HB4 HX4 HE4 HZ4 HC4
              obtain ⟨E0, E1, E2⟩ := HE5.out
              go_wp2_with fail
              clear E0 E1 E2
              refine ((CHb w5 (HU.out.step HB5.out) (HT.out.step HB5.out)).out).mono ?_
              rintro e w6 ⟨rfl, hb6⟩
              have HB6 := Lib.hid (below_nxt HB5.out hb6)
              have HX6 := Lib.hid (HX5.out.step hb6)
              have HE6 := Lib.hid (HE5.out.step hb6)
              have HZ6 := Lib.hid (HZ5.out.step hb6)
              have HC6 := Lib.hid (HC5.out.step hb6)
              clear hb6 HB5 HX5 HE5 HZ5 HC5
              obtain ⟨X0, X1, X2⟩ := HX6.out
              obtain ⟨E0, E1, E2⟩ := HE6.out
              go_wp2_with fail
              clear X0 X1 X2 E0 E1 E2
              refine ((CMt w6 (HS.out.step HB6.out) (HU.out.step HB6.out)).out).mono ?_
              rintro e w7 ⟨v7, rfl, ⟨u7, rfl, hu7⟩, hb7⟩
              obtain ⟨a7, c7, rfl, -⟩ := id hu7
              have L7 := boxB_new w7 (N' : Int) (.slice a7 (M).length c7) 24
              have HB7 := Lib.hid (below_nxt (below_nxt HB6.out hb7) L7.2)
              have QX7 := Lib.hid (HX6.out.step hb7)
              have HX7 := Lib.hid (QX7.out.step L7.2)
              have QE7 := Lib.hid (HE6.out.step hb7)
              have HE7 := Lib.hid (QE7.out.step L7.2)
              have QZ7 := Lib.hid (HZ6.out.step hb7)
              have HZ7 := Lib.hid (QZ7.out.step L7.2)
              have HC7 := Lib.hid ((HC6.out.step hb7).step L7.2)
              have HM7 := Lib.hid (hu7.step L7.2)
              have HY7 := Lib.hid L7.1
              clear hb7 hu7 L7 HB6 HX6 HE6 HZ6 HC6 QX7 QE7 QZ7
              go_wp2_with fail
              generalize w7.alloc (.cells #[.int .i64 (N' : Int), .slice a7 (M).length c7] 24) = X7 at *
              generalize hk7 : w7.heap.size = k7 at *
              clear hk7
              refine ((CHm _ X7 HM7.out (HT.out.step HB7.out)).out).mono ?_
              rintro e w8 ⟨rfl, hb8⟩
              have HB8 := Lib.hid (below_nxt HB7.out hb8)
              have HX8 := Lib.hid (HX7.out.step hb8)
              have HE8 := Lib.hid (HE7.out.step hb8)
              have HZ8 := Lib.hid (HZ7.out.step hb8)
              have HC8 := Lib.hid (HC7.out.step hb8)
              clear hb8 HB7 HX7 HE7 HZ7 HC7
              obtain ⟨X0, X1, X2⟩ := HX8.out
              obtain ⟨E0, E1, E2⟩ := HE8.out
              go_wp2_with fail
              clear X0 X1 X2 E0 E1 E2
              refine ((CLe w8 (HS.out.step HB8.out) (HU.out.step HB8.out)).out).mono ?_
              rintro e w9 ⟨rfl, hb9⟩
              have HB9 := Lib.hid (below_nxt HB8.out hb9)
              have HX9 := Lib.hid (HX8.out.step hb9)
              have HE9 := Lib.hid (HE8.out.step hb9)
              have HZ9 := Lib.hid (HZ8.out.step hb9)
              have HC9 := Lib.hid (HC8.out.step hb9)
              clear hb9 HB8 HX8 HE8 HZ8 HC8
              cases y
              · go_wp2_with fail
                refine (awake_any _).mono ?_
                rintro e wz ⟨rfl, hbz⟩
                have HBz := Lib.hid (below_nxt HB9.out hbz)
                clear hbz
                go_wp2
                go_ret
                exact ⟨rfl, HBz.out⟩
              · go_wp2_with fail
                refine (awake_any _).mono ?_
                rintro e wz ⟨rfl, hbz⟩
                have HBz := Lib.hid (below_nxt HB9.out hbz)
                clear hbz
                go_wp2
                go_ret
                exact ⟨rfl, HBz.out⟩
            · have hcv : Bn.closV N' R = ((N' : Int), Bn.rws N' (Bn.clo N' (Bn.mx R)), true, 0) := by rw [Bn.closV_small hN hc hR hBd, hk]; rfl
              have CLe := fun W (h : SeesR W (.slice ao R.length cap) R) (g : SeesR W (.slice bo S.length cbp) S) => Lib.hid (show Calls Try.prog 25 #[.agg #[.int .i64 (N' : Int), .slice ao R.length cap], .agg #[.int .i64 (N' : Int), .slice bo S.length cbp]] W fun e w' => e = .returned (.tuple #[.bool (Bn.leqB N' (Bn.clo N' (Bn.mx R)) S), .int .i64 0]) ∧ Below W.heap.size W w' by
                have := bLeq_any N' N' _ _ R S W h g
                rw [Bn.leqV_small hc hc', hk] at this
                exact this)
              have CCl := fun W (h : SeesR W (.slice ao R.length cap) R) => Lib.hid (show Calls Try.prog 21 #[.agg #[.int .i64 (N' : Int), .slice ao R.length cap]] W fun e w' => ∃ v cy, e = .returned (.tuple #[v, cy, .bool true, .int .i64 0]) ∧ ValB w' v N' (Bn.rws N' (Bn.clo N' (Bn.mx R))) ∧ Below W.heap.size W w' by
                refine (bClo_any N' _ R W h).mono ?_
                rintro e w' ⟨v, cy, l, rfl, h1, -, -, -, h2⟩
                rw [hcv] at h1 ⊢
                exact ⟨v, cy, rfl, h1, h2⟩)
              have CHc := fun cv W (h : SeesR W cv (Bn.rws N' (Bn.clo N' (Bn.mx R)))) (g : SeeI W (.slice to ts.length tc) ts) => Lib.hid (show Calls Try.prog 19 #[.agg #[.int .i64 (N' : Int), cv], .slice to ts.length tc] W (HolP (Bn.hldB N' R ts, 0) W) by
                have := bHol_any N' cv _ _ ts W h g HN.out
                rw [Bn.hldV_of (Bn.chk_clo hN hR hBd hk) hl hnum, Bn.hldB_clo] at this
                exact this)
              have CCc := fun cv W (h : SeesR W cv (Bn.rws N' (Bn.clo N' (Bn.mx R)))) => Lib.hid (show Calls Try.prog 21 #[.agg #[.int .i64 (N' : Int), cv]] W fun e w' => ∃ v cy, e = .returned (.tuple #[v, cy, .bool true, .int .i64 0]) ∧ ValB w' v N' (Bn.rws N' (Bn.clo N' (Bn.mx R))) ∧ Below W.heap.size W w' by
                refine (bClo_any N' cv _ W h).mono ?_
                rintro e w' ⟨v, cy, l, rfl, h1, -, -, -, h2⟩
                rw [Bn.closV_clo hN hR hBd hk] at h1 ⊢
                exact ⟨v, cy, rfl, h1, h2⟩)
              have CLc := fun cv W (h : SeesR W cv (Bn.rws N' (Bn.clo N' (Bn.mx R)))) (g : SeesR W (.slice ao R.length cap) R) => Lib.hid (show Calls Try.prog 25 #[.agg #[.int .i64 (N' : Int), cv], .agg #[.int .i64 (N' : Int), .slice ao R.length cap]] W fun e w' => e = .returned (.tuple #[.bool true, .int .i64 0]) ∧ Below W.heap.size W w' by
                have := bLeq_any N' N' _ _ _ R W h g
                rw [Bn.leqV_clo hN hc hR hBd hk] at this
                exact this)
              have CSm := fun v1 v2 W (h : SeesR W v1 (Bn.rws N' (Bn.clo N' (Bn.mx R)))) (g : SeesR W v2 (Bn.rws N' (Bn.clo N' (Bn.mx R)))) => Lib.hid (rSame_yes N' v1 v2 _ W h g)
              have himp : Bn.leqB N' (Bn.clo N' (Bn.mx R)) S = true → Bn.hldB N' R ts = true → Bn.hldB N' S ts = true := fun h1 h2 => Bn.leq_hld h1 h2
              clear hk hc hSh hR hBd hc' hSh' hR' hBd' hcv hnum
              have HL := Lib.hid hl
              clear hl
              generalize Bn.hldB N' S ts = y at *
              generalize Bn.hldB N' R ts = x at *
              generalize Bn.leqB N' (Bn.clo N' (Bn.mx R)) S = q at *
              generalize Bn.rws N' (Bn.metM R S) = M at *
              generalize Bn.rws N' (Bn.clo N' (Bn.mx R)) = C at *
              go_enter Try.func5, Try.ntmps5
              go_wp2_with fail
              rw [← hX]
              clear X0 X1 X2 E0 E1 E2
              refine ((CRa X (HS.out.step HB0.out)).out).mono ?_
              rintro e w1 ⟨rfl, hb1⟩
              have HB1 := Lib.hid (below_nxt HB0.out hb1)
              have HX1 := Lib.hid (HX0.out.step hb1)
              have HE1 := Lib.hid (HE0.out.step hb1)
              clear hb1 HB0 HX0 HE0
              obtain ⟨E0, E1, E2⟩ := HE1.out
              go_wp2_with fail
              clear E0 E1 E2
              refine ((CRb w1 (HU.out.step HB1.out)).out).mono ?_
              rintro e w2 ⟨rfl, hb2⟩
              have HB2 := Lib.hid (below_nxt HB1.out hb2)
              have HX2 := Lib.hid (HX1.out.step hb2)
              have HE2 := Lib.hid (HE1.out.step hb2)
              clear hb2 HB1 HX1 HE1
              obtain ⟨X0, X1, X2⟩ := HX2.out
              obtain ⟨E0, E1, E2⟩ := HE2.out
              go_wp2_with fail
              clear X0 X1 X2 E0 E1 E2
              refine ((CT w2 (HT.out.step HB2.out)).out).mono ?_
              rintro e w3 ⟨rfl, hb3⟩
              have HB3 := Lib.hid (below_nxt HB2.out hb3)
              have HX3 := Lib.hid (HX2.out.step hb3)
              have HE3 := Lib.hid (HE2.out.step hb3)
              clear hb3 HB2 HX2 HE2
              obtain ⟨X0, X1, X2⟩ := HX3.out
              go_wp2_with fail
              clear X0 X1 X2
              refine ((CCl w3 (HS.out.step HB3.out)).out).mono ?_
              rintro e w4 ⟨v4, cy, rfl, ⟨u4, rfl, hu4⟩, hb4⟩
              obtain ⟨a4, c4, rfl, -⟩ := id hu4
              have L4 := boxB_new w4 (N' : Int) (.slice a4 (C).length c4) 24
              have HB4 := Lib.hid (below_nxt (below_nxt HB3.out hb4) L4.2)
              have QX4 := Lib.hid (HX3.out.step hb4)
              obtain ⟨X0, X1, X2⟩ := QX4.out
              have HX4 := Lib.hid (QX4.out.step L4.2)
              have QE4 := Lib.hid (HE3.out.step hb4)
              have HE4 := Lib.hid (QE4.out.step L4.2)
              have HC4 := Lib.hid (hu4.step L4.2)
              have HZ4 := Lib.hid L4.1
              clear hb4 hu4 L4 HB3 HX3 HE3 QX4 QE4
              go_wp2_with fail
              clear X0 X1 X2
              generalize w4.alloc (.cells #[.int .i64 (N' : Int), .slice a4 (C).length c4] 24) = X4 at *
              generalize hk4 : w4.heap.size = k4 at *
              clear hk4
              refine ((CHa X4 (HS.out.step HB4.out) (HT.out.step HB4.out)).out).mono ?_
              rintro e w5 ⟨rfl, hb5⟩
              have HB5 := Lib.hid (below_nxt HB4.out hb5)
              have HX5 := Lib.hid (HX4.out.step hb5)
              have HE5 := Lib.hid (HE4.out.step hb5)
              have HZ5 := Lib.hid (HZ4.out.step hb5)
              have HC5 := Lib.hid (HC4.out.step hb5)
              clear hb5 HB4 HX4 HE4 HZ4 HC4
              obtain ⟨E0, E1, E2⟩ := HE5.out
              go_wp2_with fail
              clear E0 E1 E2
              refine ((CHb w5 (HU.out.step HB5.out) (HT.out.step HB5.out)).out).mono ?_
              rintro e w6 ⟨rfl, hb6⟩
              have HB6 := Lib.hid (below_nxt HB5.out hb6)
              have HX6 := Lib.hid (HX5.out.step hb6)
              have HE6 := Lib.hid (HE5.out.step hb6)
              have HZ6 := Lib.hid (HZ5.out.step hb6)
              have HC6 := Lib.hid (HC5.out.step hb6)
              clear hb6 HB5 HX5 HE5 HZ5 HC5
              obtain ⟨X0, X1, X2⟩ := HX6.out
              obtain ⟨E0, E1, E2⟩ := HE6.out
              go_wp2_with fail
              clear X0 X1 X2 E0 E1 E2
              refine ((CMt w6 (HS.out.step HB6.out) (HU.out.step HB6.out)).out).mono ?_
              rintro e w7 ⟨v7, rfl, ⟨u7, rfl, hu7⟩, hb7⟩
              obtain ⟨a7, c7, rfl, -⟩ := id hu7
              have L7 := boxB_new w7 (N' : Int) (.slice a7 (M).length c7) 24
              have HB7 := Lib.hid (below_nxt (below_nxt HB6.out hb7) L7.2)
              have QX7 := Lib.hid (HX6.out.step hb7)
              have HX7 := Lib.hid (QX7.out.step L7.2)
              have QE7 := Lib.hid (HE6.out.step hb7)
              have HE7 := Lib.hid (QE7.out.step L7.2)
              have QZ7 := Lib.hid (HZ6.out.step hb7)
              have HZ7 := Lib.hid (QZ7.out.step L7.2)
              have HC7 := Lib.hid ((HC6.out.step hb7).step L7.2)
              have HM7 := Lib.hid (hu7.step L7.2)
              have HY7 := Lib.hid L7.1
              clear hb7 hu7 L7 HB6 HX6 HE6 HZ6 HC6 QX7 QE7 QZ7
              go_wp2_with fail
              generalize w7.alloc (.cells #[.int .i64 (N' : Int), .slice a7 (M).length c7] 24) = X7 at *
              generalize hk7 : w7.heap.size = k7 at *
              clear hk7
              refine ((CHm _ X7 HM7.out (HT.out.step HB7.out)).out).mono ?_
              rintro e w8 ⟨rfl, hb8⟩
              have HB8 := Lib.hid (below_nxt HB7.out hb8)
              have HX8 := Lib.hid (HX7.out.step hb8)
              have HE8 := Lib.hid (HE7.out.step hb8)
              have HZ8 := Lib.hid (HZ7.out.step hb8)
              have HC8 := Lib.hid (HC7.out.step hb8)
              clear hb8 HB7 HX7 HE7 HZ7 HC7
              obtain ⟨X0, X1, X2⟩ := HX8.out
              obtain ⟨E0, E1, E2⟩ := HE8.out
              go_wp2_with fail
              clear X0 X1 X2 E0 E1 E2
              refine ((CLe w8 (HS.out.step HB8.out) (HU.out.step HB8.out)).out).mono ?_
              rintro e w9 ⟨rfl, hb9⟩
              have HB9 := Lib.hid (below_nxt HB8.out hb9)
              have HX9 := Lib.hid (HX8.out.step hb9)
              have HE9 := Lib.hid (HE8.out.step hb9)
              have HZ9 := Lib.hid (HZ8.out.step hb9)
              have HC9 := Lib.hid (HC8.out.step hb9)
              clear hb9 HB8 HX8 HE8 HZ8 HC8
              cases x <;> cases y <;> cases q
              rotate_left 5
              · exact absurd (himp rfl rfl) (by decide)
              rotate_left 2
              · clear himp
                obtain ⟨Z0, Z1, Z2⟩ := HZ9.out
                go_wp2_with fail
                clear Z0 Z1 Z2
                refine ((CCc _ w9 HC9.out).out).mono ?_
                rintro e w10 ⟨v10, cy, rfl, ⟨u10, rfl, hu10⟩, hb10⟩
                obtain ⟨a10, c10, rfl, -⟩ := id hu10
                have L10 := boxB_new w10 (N' : Int) (.slice a10 (C).length c10) 24
                have HB10 := Lib.hid (below_nxt (below_nxt HB9.out hb10) L10.2)
                have QX10 := Lib.hid (HX9.out.step hb10)
                have HX10 := Lib.hid (QX10.out.step L10.2)
                have QZ10 := Lib.hid (HZ9.out.step hb10)
                obtain ⟨Z0, Z1, Z2⟩ := QZ10.out
                have HZ10 := Lib.hid (QZ10.out.step L10.2)
                have HC10 := Lib.hid ((HC9.out.step hb10).step L10.2)
                have HA10 := Lib.hid (hu10.step L10.2)
                have HW10 := Lib.hid L10.1
                clear hb10 hu10 L10 HB9 HX9 HZ9 HC9 QX10 QZ10
                go_wp2_with fail
                clear Z0 Z1 Z2
                generalize w10.alloc (.cells #[.int .i64 (N' : Int), .slice a10 (C).length c10] 24) = X10 at *
                generalize hk10 : w10.heap.size = k10 at *
                clear hk10
                refine ((CHc _ X10 HC10.out (HT.out.step HB10.out)).out).mono ?_
                rintro e w11 ⟨rfl, hb11⟩
                have HB11 := Lib.hid (below_nxt HB10.out hb11)
                have HX11 := Lib.hid (HX10.out.step hb11)
                have HZ11 := Lib.hid (HZ10.out.step hb11)
                have HC11 := Lib.hid (HC10.out.step hb11)
                have HW11 := Lib.hid (HW10.out.step hb11)
                have HA11 := Lib.hid (HA10.out.step hb11)
                clear hb11 HB10 HX10 HZ10 HC10 HW10 HA10
                obtain ⟨X0, X1, X2⟩ := HX11.out
                obtain ⟨Z0, Z1, Z2⟩ := HZ11.out
                go_wp2_with fail
                clear X0 X1 X2 Z0 Z1 Z2
                refine ((CLc _ w11 HC11.out (HS.out.step HB11.out)).out).mono ?_
                rintro e w12 ⟨rfl, hb12⟩
                have HB12 := Lib.hid (below_nxt HB11.out hb12)
                have HX12 := Lib.hid (HX11.out.step hb12)
                have HZ12 := Lib.hid (HZ11.out.step hb12)
                have HC12 := Lib.hid (HC11.out.step hb12)
                have HW12 := Lib.hid (HW11.out.step hb12)
                have HA12 := Lib.hid (HA11.out.step hb12)
                clear hb12 HB11 HX11 HZ11 HC11 HW11 HA11
                obtain ⟨Z0, Z1, Z2⟩ := HZ12.out
                obtain ⟨W0, W1, W2⟩ := HW12.out
                go_wp2_with fail
                clear Z0 Z1 Z2 W0 W1 W2
                refine ((CSm _ _ w12 HA12.out HC12.out).out).mono ?_
                rintro e w13 ⟨rfl, hb13⟩
                have HB13 := Lib.hid (below_nxt HB12.out hb13)
                clear hb13 HB12
                go_wp2_with fail
                refine (awake_any _).mono ?_
                rintro e wz ⟨rfl, hbz⟩
                have HBz := Lib.hid (below_nxt HB13.out hbz)
                clear hbz
                go_wp2
                go_ret
                exact ⟨rfl, HBz.out⟩
              · clear himp
                obtain ⟨Z0, Z1, Z2⟩ := HZ9.out
                go_wp2_with fail
                clear Z0 Z1 Z2
                refine ((CCc _ w9 HC9.out).out).mono ?_
                rintro e w10 ⟨v10, cy, rfl, ⟨u10, rfl, hu10⟩, hb10⟩
                obtain ⟨a10, c10, rfl, -⟩ := id hu10
                have L10 := boxB_new w10 (N' : Int) (.slice a10 (C).length c10) 24
                have HB10 := Lib.hid (below_nxt (below_nxt HB9.out hb10) L10.2)
                have QX10 := Lib.hid (HX9.out.step hb10)
                have HX10 := Lib.hid (QX10.out.step L10.2)
                have QZ10 := Lib.hid (HZ9.out.step hb10)
                obtain ⟨Z0, Z1, Z2⟩ := QZ10.out
                have HZ10 := Lib.hid (QZ10.out.step L10.2)
                have HC10 := Lib.hid ((HC9.out.step hb10).step L10.2)
                have HA10 := Lib.hid (hu10.step L10.2)
                have HW10 := Lib.hid L10.1
                clear hb10 hu10 L10 HB9 HX9 HZ9 HC9 QX10 QZ10
                go_wp2_with fail
                clear Z0 Z1 Z2
                generalize w10.alloc (.cells #[.int .i64 (N' : Int), .slice a10 (C).length c10] 24) = X10 at *
                generalize hk10 : w10.heap.size = k10 at *
                clear hk10
                refine ((CHc _ X10 HC10.out (HT.out.step HB10.out)).out).mono ?_
                rintro e w11 ⟨rfl, hb11⟩
                have HB11 := Lib.hid (below_nxt HB10.out hb11)
                have HX11 := Lib.hid (HX10.out.step hb11)
                have HZ11 := Lib.hid (HZ10.out.step hb11)
                have HC11 := Lib.hid (HC10.out.step hb11)
                have HW11 := Lib.hid (HW10.out.step hb11)
                have HA11 := Lib.hid (HA10.out.step hb11)
                clear hb11 HB10 HX10 HZ10 HC10 HW10 HA10
                obtain ⟨X0, X1, X2⟩ := HX11.out
                obtain ⟨Z0, Z1, Z2⟩ := HZ11.out
                go_wp2_with fail
                clear X0 X1 X2 Z0 Z1 Z2
                refine ((CLc _ w11 HC11.out (HS.out.step HB11.out)).out).mono ?_
                rintro e w12 ⟨rfl, hb12⟩
                have HB12 := Lib.hid (below_nxt HB11.out hb12)
                have HX12 := Lib.hid (HX11.out.step hb12)
                have HZ12 := Lib.hid (HZ11.out.step hb12)
                have HC12 := Lib.hid (HC11.out.step hb12)
                have HW12 := Lib.hid (HW11.out.step hb12)
                have HA12 := Lib.hid (HA11.out.step hb12)
                clear hb12 HB11 HX11 HZ11 HC11 HW11 HA11
                obtain ⟨Z0, Z1, Z2⟩ := HZ12.out
                obtain ⟨W0, W1, W2⟩ := HW12.out
                go_wp2_with fail
                clear Z0 Z1 Z2 W0 W1 W2
                refine ((CSm _ _ w12 HA12.out HC12.out).out).mono ?_
                rintro e w13 ⟨rfl, hb13⟩
                have HB13 := Lib.hid (below_nxt HB12.out hb13)
                clear hb13 HB12
                go_wp2_with fail
                refine (awake_any _).mono ?_
                rintro e wz ⟨rfl, hbz⟩
                have HBz := Lib.hid (below_nxt HB13.out hbz)
                clear hbz
                go_wp2
                go_ret
                exact ⟨rfl, HBz.out⟩
              · clear himp
                obtain ⟨Z0, Z1, Z2⟩ := HZ9.out
                go_wp2_with fail
                clear Z0 Z1 Z2
                refine ((CCc _ w9 HC9.out).out).mono ?_
                rintro e w10 ⟨v10, cy, rfl, ⟨u10, rfl, hu10⟩, hb10⟩
                obtain ⟨a10, c10, rfl, -⟩ := id hu10
                have L10 := boxB_new w10 (N' : Int) (.slice a10 (C).length c10) 24
                have HB10 := Lib.hid (below_nxt (below_nxt HB9.out hb10) L10.2)
                have QX10 := Lib.hid (HX9.out.step hb10)
                have HX10 := Lib.hid (QX10.out.step L10.2)
                have QZ10 := Lib.hid (HZ9.out.step hb10)
                obtain ⟨Z0, Z1, Z2⟩ := QZ10.out
                have HZ10 := Lib.hid (QZ10.out.step L10.2)
                have HC10 := Lib.hid ((HC9.out.step hb10).step L10.2)
                have HA10 := Lib.hid (hu10.step L10.2)
                have HW10 := Lib.hid L10.1
                clear hb10 hu10 L10 HB9 HX9 HZ9 HC9 QX10 QZ10
                go_wp2_with fail
                clear Z0 Z1 Z2
                generalize w10.alloc (.cells #[.int .i64 (N' : Int), .slice a10 (C).length c10] 24) = X10 at *
                generalize hk10 : w10.heap.size = k10 at *
                clear hk10
                refine ((CHc _ X10 HC10.out (HT.out.step HB10.out)).out).mono ?_
                rintro e w11 ⟨rfl, hb11⟩
                have HB11 := Lib.hid (below_nxt HB10.out hb11)
                have HX11 := Lib.hid (HX10.out.step hb11)
                have HZ11 := Lib.hid (HZ10.out.step hb11)
                have HC11 := Lib.hid (HC10.out.step hb11)
                have HW11 := Lib.hid (HW10.out.step hb11)
                have HA11 := Lib.hid (HA10.out.step hb11)
                clear hb11 HB10 HX10 HZ10 HC10 HW10 HA10
                obtain ⟨X0, X1, X2⟩ := HX11.out
                obtain ⟨Z0, Z1, Z2⟩ := HZ11.out
                go_wp2_with fail
                clear X0 X1 X2 Z0 Z1 Z2
                refine ((CLc _ w11 HC11.out (HS.out.step HB11.out)).out).mono ?_
                rintro e w12 ⟨rfl, hb12⟩
                have HB12 := Lib.hid (below_nxt HB11.out hb12)
                have HX12 := Lib.hid (HX11.out.step hb12)
                have HZ12 := Lib.hid (HZ11.out.step hb12)
                have HC12 := Lib.hid (HC11.out.step hb12)
                have HW12 := Lib.hid (HW11.out.step hb12)
                have HA12 := Lib.hid (HA11.out.step hb12)
                clear hb12 HB11 HX11 HZ11 HC11 HW11 HA11
                obtain ⟨Z0, Z1, Z2⟩ := HZ12.out
                obtain ⟨W0, W1, W2⟩ := HW12.out
                go_wp2_with fail
                clear Z0 Z1 Z2 W0 W1 W2
                refine ((CSm _ _ w12 HA12.out HC12.out).out).mono ?_
                rintro e w13 ⟨rfl, hb13⟩
                have HB13 := Lib.hid (below_nxt HB12.out hb13)
                clear hb13 HB12
                go_wp2_with fail
                refine (awake_any _).mono ?_
                rintro e wz ⟨rfl, hbz⟩
                have HBz := Lib.hid (below_nxt HB13.out hbz)
                clear hbz
                go_wp2
                go_ret
                exact ⟨rfl, HBz.out⟩
              · clear himp
                obtain ⟨Z0, Z1, Z2⟩ := HZ9.out
                go_wp2_with fail
                clear Z0 Z1 Z2
                refine ((CCc _ w9 HC9.out).out).mono ?_
                rintro e w10 ⟨v10, cy, rfl, ⟨u10, rfl, hu10⟩, hb10⟩
                obtain ⟨a10, c10, rfl, -⟩ := id hu10
                have L10 := boxB_new w10 (N' : Int) (.slice a10 (C).length c10) 24
                have HB10 := Lib.hid (below_nxt (below_nxt HB9.out hb10) L10.2)
                have QX10 := Lib.hid (HX9.out.step hb10)
                have HX10 := Lib.hid (QX10.out.step L10.2)
                have QZ10 := Lib.hid (HZ9.out.step hb10)
                obtain ⟨Z0, Z1, Z2⟩ := QZ10.out
                have HZ10 := Lib.hid (QZ10.out.step L10.2)
                have HC10 := Lib.hid ((HC9.out.step hb10).step L10.2)
                have HA10 := Lib.hid (hu10.step L10.2)
                have HW10 := Lib.hid L10.1
                clear hb10 hu10 L10 HB9 HX9 HZ9 HC9 QX10 QZ10
                go_wp2_with fail
                clear Z0 Z1 Z2
                generalize w10.alloc (.cells #[.int .i64 (N' : Int), .slice a10 (C).length c10] 24) = X10 at *
                generalize hk10 : w10.heap.size = k10 at *
                clear hk10
                refine ((CHc _ X10 HC10.out (HT.out.step HB10.out)).out).mono ?_
                rintro e w11 ⟨rfl, hb11⟩
                have HB11 := Lib.hid (below_nxt HB10.out hb11)
                have HX11 := Lib.hid (HX10.out.step hb11)
                have HZ11 := Lib.hid (HZ10.out.step hb11)
                have HC11 := Lib.hid (HC10.out.step hb11)
                have HW11 := Lib.hid (HW10.out.step hb11)
                have HA11 := Lib.hid (HA10.out.step hb11)
                clear hb11 HB10 HX10 HZ10 HC10 HW10 HA10
                obtain ⟨X0, X1, X2⟩ := HX11.out
                obtain ⟨Z0, Z1, Z2⟩ := HZ11.out
                go_wp2_with fail
                clear X0 X1 X2 Z0 Z1 Z2
                refine ((CLc _ w11 HC11.out (HS.out.step HB11.out)).out).mono ?_
                rintro e w12 ⟨rfl, hb12⟩
                have HB12 := Lib.hid (below_nxt HB11.out hb12)
                have HX12 := Lib.hid (HX11.out.step hb12)
                have HZ12 := Lib.hid (HZ11.out.step hb12)
                have HC12 := Lib.hid (HC11.out.step hb12)
                have HW12 := Lib.hid (HW11.out.step hb12)
                have HA12 := Lib.hid (HA11.out.step hb12)
                clear hb12 HB11 HX11 HZ11 HC11 HW11 HA11
                obtain ⟨Z0, Z1, Z2⟩ := HZ12.out
                obtain ⟨W0, W1, W2⟩ := HW12.out
                go_wp2_with fail
                clear Z0 Z1 Z2 W0 W1 W2
                refine ((CSm _ _ w12 HA12.out HC12.out).out).mono ?_
                rintro e w13 ⟨rfl, hb13⟩
                have HB13 := Lib.hid (below_nxt HB12.out hb13)
                clear hb13 HB12
                go_wp2_with fail
                refine (awake_any _).mono ?_
                rintro e wz ⟨rfl, hbz⟩
                have HBz := Lib.hid (below_nxt HB13.out hbz)
                clear hbz
                go_wp2
                go_ret
                exact ⟨rfl, HBz.out⟩
              · clear himp
                obtain ⟨Z0, Z1, Z2⟩ := HZ9.out
                go_wp2_with fail
                clear Z0 Z1 Z2
                refine ((CCc _ w9 HC9.out).out).mono ?_
                rintro e w10 ⟨v10, cy, rfl, ⟨u10, rfl, hu10⟩, hb10⟩
                obtain ⟨a10, c10, rfl, -⟩ := id hu10
                have L10 := boxB_new w10 (N' : Int) (.slice a10 (C).length c10) 24
                have HB10 := Lib.hid (below_nxt (below_nxt HB9.out hb10) L10.2)
                have QX10 := Lib.hid (HX9.out.step hb10)
                have HX10 := Lib.hid (QX10.out.step L10.2)
                have QZ10 := Lib.hid (HZ9.out.step hb10)
                obtain ⟨Z0, Z1, Z2⟩ := QZ10.out
                have HZ10 := Lib.hid (QZ10.out.step L10.2)
                have HC10 := Lib.hid ((HC9.out.step hb10).step L10.2)
                have HA10 := Lib.hid (hu10.step L10.2)
                have HW10 := Lib.hid L10.1
                clear hb10 hu10 L10 HB9 HX9 HZ9 HC9 QX10 QZ10
                go_wp2_with fail
                clear Z0 Z1 Z2
                generalize w10.alloc (.cells #[.int .i64 (N' : Int), .slice a10 (C).length c10] 24) = X10 at *
                generalize hk10 : w10.heap.size = k10 at *
                clear hk10
                refine ((CHc _ X10 HC10.out (HT.out.step HB10.out)).out).mono ?_
                rintro e w11 ⟨rfl, hb11⟩
                have HB11 := Lib.hid (below_nxt HB10.out hb11)
                have HX11 := Lib.hid (HX10.out.step hb11)
                have HZ11 := Lib.hid (HZ10.out.step hb11)
                have HC11 := Lib.hid (HC10.out.step hb11)
                have HW11 := Lib.hid (HW10.out.step hb11)
                have HA11 := Lib.hid (HA10.out.step hb11)
                clear hb11 HB10 HX10 HZ10 HC10 HW10 HA10
                obtain ⟨X0, X1, X2⟩ := HX11.out
                obtain ⟨Z0, Z1, Z2⟩ := HZ11.out
                go_wp2_with fail
                clear X0 X1 X2 Z0 Z1 Z2
                refine ((CLc _ w11 HC11.out (HS.out.step HB11.out)).out).mono ?_
                rintro e w12 ⟨rfl, hb12⟩
                have HB12 := Lib.hid (below_nxt HB11.out hb12)
                have HX12 := Lib.hid (HX11.out.step hb12)
                have HZ12 := Lib.hid (HZ11.out.step hb12)
                have HC12 := Lib.hid (HC11.out.step hb12)
                have HW12 := Lib.hid (HW11.out.step hb12)
                have HA12 := Lib.hid (HA11.out.step hb12)
                clear hb12 HB11 HX11 HZ11 HC11 HW11 HA11
                obtain ⟨Z0, Z1, Z2⟩ := HZ12.out
                obtain ⟨W0, W1, W2⟩ := HW12.out
                go_wp2_with fail
                clear Z0 Z1 Z2 W0 W1 W2
                refine ((CSm _ _ w12 HA12.out HC12.out).out).mono ?_
                rintro e w13 ⟨rfl, hb13⟩
                have HB13 := Lib.hid (below_nxt HB12.out hb13)
                clear hb13 HB12
                go_wp2_with fail
                refine (awake_any _).mono ?_
                rintro e wz ⟨rfl, hbz⟩
                have HBz := Lib.hid (below_nxt HB13.out hbz)
                clear hbz
                go_wp2
                go_ret
                exact ⟨rfl, HBz.out⟩
              · clear himp
                obtain ⟨Z0, Z1, Z2⟩ := HZ9.out
                go_wp2_with fail
                clear Z0 Z1 Z2
                refine ((CCc _ w9 HC9.out).out).mono ?_
                rintro e w10 ⟨v10, cy, rfl, ⟨u10, rfl, hu10⟩, hb10⟩
                obtain ⟨a10, c10, rfl, -⟩ := id hu10
                have L10 := boxB_new w10 (N' : Int) (.slice a10 (C).length c10) 24
                have HB10 := Lib.hid (below_nxt (below_nxt HB9.out hb10) L10.2)
                have QX10 := Lib.hid (HX9.out.step hb10)
                have HX10 := Lib.hid (QX10.out.step L10.2)
                have QZ10 := Lib.hid (HZ9.out.step hb10)
                obtain ⟨Z0, Z1, Z2⟩ := QZ10.out
                have HZ10 := Lib.hid (QZ10.out.step L10.2)
                have HC10 := Lib.hid ((HC9.out.step hb10).step L10.2)
                have HA10 := Lib.hid (hu10.step L10.2)
                have HW10 := Lib.hid L10.1
                clear hb10 hu10 L10 HB9 HX9 HZ9 HC9 QX10 QZ10
                go_wp2_with fail
                clear Z0 Z1 Z2
                generalize w10.alloc (.cells #[.int .i64 (N' : Int), .slice a10 (C).length c10] 24) = X10 at *
                generalize hk10 : w10.heap.size = k10 at *
                clear hk10
                refine ((CHc _ X10 HC10.out (HT.out.step HB10.out)).out).mono ?_
                rintro e w11 ⟨rfl, hb11⟩
                have HB11 := Lib.hid (below_nxt HB10.out hb11)
                have HX11 := Lib.hid (HX10.out.step hb11)
                have HZ11 := Lib.hid (HZ10.out.step hb11)
                have HC11 := Lib.hid (HC10.out.step hb11)
                have HW11 := Lib.hid (HW10.out.step hb11)
                have HA11 := Lib.hid (HA10.out.step hb11)
                clear hb11 HB10 HX10 HZ10 HC10 HW10 HA10
                obtain ⟨X0, X1, X2⟩ := HX11.out
                obtain ⟨Z0, Z1, Z2⟩ := HZ11.out
                go_wp2_with fail
                clear X0 X1 X2 Z0 Z1 Z2
                refine ((CLc _ w11 HC11.out (HS.out.step HB11.out)).out).mono ?_
                rintro e w12 ⟨rfl, hb12⟩
                have HB12 := Lib.hid (below_nxt HB11.out hb12)
                have HX12 := Lib.hid (HX11.out.step hb12)
                have HZ12 := Lib.hid (HZ11.out.step hb12)
                have HC12 := Lib.hid (HC11.out.step hb12)
                have HW12 := Lib.hid (HW11.out.step hb12)
                have HA12 := Lib.hid (HA11.out.step hb12)
                clear hb12 HB11 HX11 HZ11 HC11 HW11 HA11
                obtain ⟨Z0, Z1, Z2⟩ := HZ12.out
                obtain ⟨W0, W1, W2⟩ := HW12.out
                go_wp2_with fail
                clear Z0 Z1 Z2 W0 W1 W2
                refine ((CSm _ _ w12 HA12.out HC12.out).out).mono ?_
                rintro e w13 ⟨rfl, hb13⟩
                have HB13 := Lib.hid (below_nxt HB12.out hb13)
                clear hb13 HB12
                go_wp2_with fail
                refine (awake_any _).mono ?_
                rintro e wz ⟨rfl, hbz⟩
                have HBz := Lib.hid (below_nxt HB13.out hbz)
                clear hbz
                go_wp2
                go_ret
                exact ⟨rfl, HBz.out⟩
              · clear himp
                obtain ⟨Z0, Z1, Z2⟩ := HZ9.out
                go_wp2_with fail
                clear Z0 Z1 Z2
                refine ((CCc _ w9 HC9.out).out).mono ?_
                rintro e w10 ⟨v10, cy, rfl, ⟨u10, rfl, hu10⟩, hb10⟩
                obtain ⟨a10, c10, rfl, -⟩ := id hu10
                have L10 := boxB_new w10 (N' : Int) (.slice a10 (C).length c10) 24
                have HB10 := Lib.hid (below_nxt (below_nxt HB9.out hb10) L10.2)
                have QX10 := Lib.hid (HX9.out.step hb10)
                have HX10 := Lib.hid (QX10.out.step L10.2)
                have QZ10 := Lib.hid (HZ9.out.step hb10)
                obtain ⟨Z0, Z1, Z2⟩ := QZ10.out
                have HZ10 := Lib.hid (QZ10.out.step L10.2)
                have HC10 := Lib.hid ((HC9.out.step hb10).step L10.2)
                have HA10 := Lib.hid (hu10.step L10.2)
                have HW10 := Lib.hid L10.1
                clear hb10 hu10 L10 HB9 HX9 HZ9 HC9 QX10 QZ10
                go_wp2_with fail
                clear Z0 Z1 Z2
                generalize w10.alloc (.cells #[.int .i64 (N' : Int), .slice a10 (C).length c10] 24) = X10 at *
                generalize hk10 : w10.heap.size = k10 at *
                clear hk10
                refine ((CHc _ X10 HC10.out (HT.out.step HB10.out)).out).mono ?_
                rintro e w11 ⟨rfl, hb11⟩
                have HB11 := Lib.hid (below_nxt HB10.out hb11)
                have HX11 := Lib.hid (HX10.out.step hb11)
                have HZ11 := Lib.hid (HZ10.out.step hb11)
                have HC11 := Lib.hid (HC10.out.step hb11)
                have HW11 := Lib.hid (HW10.out.step hb11)
                have HA11 := Lib.hid (HA10.out.step hb11)
                clear hb11 HB10 HX10 HZ10 HC10 HW10 HA10
                obtain ⟨X0, X1, X2⟩ := HX11.out
                obtain ⟨Z0, Z1, Z2⟩ := HZ11.out
                go_wp2_with fail
                clear X0 X1 X2 Z0 Z1 Z2
                refine ((CLc _ w11 HC11.out (HS.out.step HB11.out)).out).mono ?_
                rintro e w12 ⟨rfl, hb12⟩
                have HB12 := Lib.hid (below_nxt HB11.out hb12)
                have HX12 := Lib.hid (HX11.out.step hb12)
                have HZ12 := Lib.hid (HZ11.out.step hb12)
                have HC12 := Lib.hid (HC11.out.step hb12)
                have HW12 := Lib.hid (HW11.out.step hb12)
                have HA12 := Lib.hid (HA11.out.step hb12)
                clear hb12 HB11 HX11 HZ11 HC11 HW11 HA11
                obtain ⟨Z0, Z1, Z2⟩ := HZ12.out
                obtain ⟨W0, W1, W2⟩ := HW12.out
                go_wp2_with fail
                clear Z0 Z1 Z2 W0 W1 W2
                refine ((CSm _ _ w12 HA12.out HC12.out).out).mono ?_
                rintro e w13 ⟨rfl, hb13⟩
                have HB13 := Lib.hid (below_nxt HB12.out hb13)
                clear hb13 HB12
                go_wp2_with fail
                refine (awake_any _).mono ?_
                rintro e wz ⟨rfl, hbz⟩
                have HBz := Lib.hid (below_nxt HB13.out hbz)
                clear hbz
                go_wp2
                go_ret
                exact ⟨rfl, HBz.out⟩
          · clear hl hc hSh hR hBd hc' hSh' hR' hBd'
            go_enter Try.func5, Try.ntmps5
            go_wp2_with fail
            rw [← hX]
            clear X0 X1 X2 E0 E1 E2
            refine ((CRa X (HS.out.step HB0.out)).out).mono ?_
            rintro e w1 ⟨rfl, hb1⟩
            have HB1 := Lib.hid (below_nxt HB0.out hb1)
            have HX1 := Lib.hid (HX0.out.step hb1)
            have HE1 := Lib.hid (HE0.out.step hb1)
            clear hb1 HB0 HX0 HE0
            obtain ⟨E0, E1, E2⟩ := HE1.out
            go_wp2_with fail
            clear E0 E1 E2
            refine ((CRb w1 (HU.out.step HB1.out)).out).mono ?_
            rintro e w2 ⟨rfl, hb2⟩
            have HB2 := Lib.hid (below_nxt HB1.out hb2)
            have HX2 := Lib.hid (HX1.out.step hb2)
            have HE2 := Lib.hid (HE1.out.step hb2)
            clear hb2 HB1 HX1 HE1
            obtain ⟨X0, X1, X2⟩ := HX2.out
            obtain ⟨E0, E1, E2⟩ := HE2.out
            go_wp2_with fail
            clear X0 X1 X2 E0 E1 E2
            refine ((CT w2 (HT.out.step HB2.out)).out).mono ?_
            rintro e w3 ⟨rfl, hb3⟩
            have HB3 := Lib.hid (below_nxt HB2.out hb3)
            have HX3 := Lib.hid (HX2.out.step hb3)
            have HE3 := Lib.hid (HE2.out.step hb3)
            clear hb3 HB2 HX2 HE2
            go_wp2_with fail
            refine (awake_any _).mono ?_
            rintro e wz ⟨rfl, hbz⟩
            have HBz := Lib.hid (below_nxt HB3.out hbz)
            clear hbz
            go_wp2
            go_ret
            exact ⟨rfl, HBz.out⟩
        · have hlz : ((ts.length : Int) != (N' : Int)) = true := by
            have : ¬ ((ts.length : Int) = (N' : Int)) := by omega
            simpa using this
          clear hl hc hSh hR hBd hc' hSh' hR' hBd' CT
          go_enter Try.func5, Try.ntmps5
          go_wp2_with fail
          rw [← hX]
          clear X0 X1 X2 E0 E1 E2
          refine ((CRa X (HS.out.step HB0.out)).out).mono ?_
          rintro e w1 ⟨rfl, hb1⟩
          have HB1 := Lib.hid (below_nxt HB0.out hb1)
          have HX1 := Lib.hid (HX0.out.step hb1)
          have HE1 := Lib.hid (HE0.out.step hb1)
          clear hb1 HB0 HX0 HE0
          obtain ⟨E0, E1, E2⟩ := HE1.out
          go_wp2_with fail
          clear E0 E1 E2
          refine ((CRb w1 (HU.out.step HB1.out)).out).mono ?_
          rintro e w2 ⟨rfl, hb2⟩
          have HB2 := Lib.hid (below_nxt HB1.out hb2)
          have HX2 := Lib.hid (HX1.out.step hb2)
          have HE2 := Lib.hid (HE1.out.step hb2)
          clear hb2 HB1 HX1 HE1
          obtain ⟨X0, X1, X2⟩ := HX2.out
          obtain ⟨E0, E1, E2⟩ := HE2.out
          go_wp2_with fail
          refine (awake_any _).mono ?_
          rintro e wz ⟨rfl, hbz⟩
          have HBz := Lib.hid (below_nxt HB2.out hbz)
          clear hbz
          go_wp2
          go_ret
          exact ⟨rfl, HBz.out⟩
      · have hnz : ((N : Int) != (N' : Int)) = true := by
          have : ¬ ((N : Int) = (N' : Int)) := by omega
          simpa using this
        clear hn hc hSh hR hBd hc' hSh' hR' hBd' CT
        go_enter Try.func5, Try.ntmps5
        go_wp2_with fail
        rw [← hX]
        clear X0 X1 X2 E0 E1 E2
        refine ((CRa X (HS.out.step HB0.out)).out).mono ?_
        rintro e w1 ⟨rfl, hb1⟩
        have HB1 := Lib.hid (below_nxt HB0.out hb1)
        have HX1 := Lib.hid (HX0.out.step hb1)
        have HE1 := Lib.hid (HE0.out.step hb1)
        clear hb1 HB0 HX0 HE0
        obtain ⟨E0, E1, E2⟩ := HE1.out
        go_wp2_with fail
        clear E0 E1 E2
        refine ((CRb w1 (HU.out.step HB1.out)).out).mono ?_
        rintro e w2 ⟨rfl, hb2⟩
        have HB2 := Lib.hid (below_nxt HB1.out hb2)
        have HX2 := Lib.hid (HX1.out.step hb2)
        have HE2 := Lib.hid (HE1.out.step hb2)
        clear hb2 HB1 HX1 HE1
        obtain ⟨X0, X1, X2⟩ := HX2.out
        obtain ⟨E0, E1, E2⟩ := HE2.out
        go_wp2_with fail
        refine (awake_any _).mono ?_
        rintro e wz ⟨rfl, hbz⟩
        have HBz := Lib.hid (below_nxt HB2.out hbz)
        clear hbz
        go_wp2
        go_ret
        exact ⟨rfl, HBz.out⟩
end Go.Proofs.Ytkemicfaiipidaa
