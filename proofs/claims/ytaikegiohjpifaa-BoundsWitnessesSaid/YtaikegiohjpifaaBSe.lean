/- The statement BoundsWitnesses. -/
import Derived.Test.YtaikegiohjpifaaBSb
import Derived.Test.YtaikegiohjpifaaBSd
import Derived.Test.YtaikegiohjpifaaBHg
import Derived.Test.YtaikegiohjpifaaBH
namespace Bn
theorem cwE_nil {N : Nat} {R : List (List Int)} (hc : chk N R = 0) : cwE N R 0 [] = if ok N (mx R) then 0 else 16 := by
  have e : cix N R 0 [] = 0 := by unfold cix; rw [if_pos hc]; rfl
  unfold cwE
  rw [if_pos e, Int.toNat_natCast]
theorem extV_small {N : Nat} {R : List (List Int)} (hc : chk N R = 0) (hk : ok N (mx R) = true) {i : Nat} (hi : i < N) : extV N R ((i : Int) + 1) = ((witT N R N).getD i 0, cl N R 0 (i + 1), 0) := by
  have e : cix N R 0 [(i : Int) + 1] = 0 := by
    unfold cix
    rw [if_pos hc, if_pos]
    simp only [List.all_cons, List.all_nil, Bool.and_true]
    exact idx_iff.2 ⟨by omega, by omega⟩
  have e2 : cwE N R 0 [(i : Int) + 1] = 0 := by
    unfold cwE
    rw [if_pos e, Int.toNat_natCast, if_pos hk]
  unfold extV
  rw [if_pos e2, witT_at hi, show ((i : Int) + 1).toNat = i + 1 by omega]
theorem grt_num {ts : List Int} (h : ts.any grt = false) : ts.all num = true := all_num_of fun i hi => by
  cases e : grt (ts.getD i 0) with
  | true => rw [any_at hi e] at h; cases h
  | false =>
    unfold grt at e
    simp only [Bool.or_eq_false_iff, decide_eq_false_iff_not] at e
    unfold num
    rw [decide_eq_true (show -64000000 ≤ ts.getD i 0 by omega), decide_eq_true (show ts.getD i 0 ≤ 64000000 by omega)]
    rfl
end Bn
namespace Go.Proofs.Ytaikegiohjpifaa
open Go.RowKit
theorem SeesI.nil0 {w : World} {v : Value} {l : List Int} (h : SeesI w v l) : ∀ n c, v = .slice none n c → c = 0 := fun n c hv => by
  rcases h with ⟨rfl, -⟩ | h
  · simp only [Value.slice.injEq] at hv
    exact hv.2.2.symm
  · obtain ⟨g, cap, h1, h2⟩ := h
    first
      | (rw [h1] at hv; simp at hv)
      | (have := h2.1; rw [this] at hv; simp at hv)
      | (simp_all)
set_option maxHeartbeats 8000000 in
set_option maxRecDepth 100000 in
theorem witnesses_any (n : Int) (v : Value) (R : List (List Int)) (tv : Value) (ts : List Int) (w : World) (hs : SeesR w v R) (ht : SeeI w tv ts) (hnil : ∀ n c, tv = .slice none n c → c = 0) :
    Calls Try.prog 4 #[.agg #[.int .i64 n, v], tv] w fun e w' => e = .returned (.bool true) ∧ Below w.heap.size w w' := by
  have CR := fun W (h : SeesR W v R) => Lib.hid (right_any n v R W h)
  have CT := fun W (h : SeeI W tv ts) => Lib.hid (con_wit tv ts W h)
  have CH := fun W (h : SeesR W v R) (g : SeeI W tv ts) => Lib.hid (bHol_any n v tv R ts W h g hnil)
  have CW := fun W (h : SeesR W v R) => Lib.hid (bWit_any n v R W h)
  have CC := fun W (h : SeesR W v R) => Lib.hid (bClo_any n v R W h)
  have CE := fun i W (h : SeesR W v R) => Lib.hid (bExt_any n i v R W h)
  have CG := fun u l W (h : SeesR W v R) (g : SeeI W u l) (hn : ∀ n c, u = .slice none n c → c = 0) => Lib.hid (bHol_any n v u R l W h g hn)
  have HS := Lib.hid hs
  have HT := Lib.hid ht
  obtain ⟨ao, cap, rfl, hcap1, hcap2, -⟩ := hs
  obtain ⟨to, tc, rfl, ht1, ht2, -⟩ := ht
  clear hnil
  obtain ⟨B0, L0⟩ := boxB_new w n (.slice ao R.length cap) 24
  have HB := Lib.hid L0
  have HX := Lib.hid B0
  obtain ⟨x0, x1, x2⟩ := B0
  clear L0
  cases hr : Bn.rgt n R <;> rw [hr] at CR
  · clear hr
    go_enter Try.func4, Try.ntmps4
    go_wp2_with fail
    clear x0 x1 x2
    refine ((CR _ (HS.out.step HB.out)).out).mono ?_
    rintro e w1 ⟨rfl, hb1⟩
    have HB1 := Lib.hid (below_nxt HB.out hb1)
    have HX1 := Lib.hid (HX.out.step hb1)
    obtain ⟨x0, x1, x2⟩ := HX1.out
    clear hb1 HB HX CR
    go_wp2_with fail
    refine (awake_any _).mono ?_
    rintro e wz ⟨rfl, hbz⟩
    have HBz := Lib.hid (below_nxt HB1.out hbz)
    clear hbz
    go_wp2
    go_ret
    exact ⟨rfl, HBz.out⟩
  · obtain ⟨N, rfl, hN, hc, hSh, hR, hBd⟩ := Bn.rgt_ok hr
    clear hr
    by_cases hl : ts.length = N
    · have hlz : ((ts.length : Int) != (N : Int)) = false := by rw [hl]; simp
      cases hg : ts.any Bn.grt <;> rw [hg] at CT
      · rw [Bn.hldV_of hc hl (Bn.grt_num hg)] at CH
        clear hg
        have hw0 : Bn.witV N R = if Bn.ok N (Bn.mx R) then (if Bn.witN N R then (Bn.witT N R N, 0) else ([], 14)) else ([], 16) := by
          unfold Bn.witV
          rw [Bn.cwE_nil hc]
          cases Bn.ok N (Bn.mx R) <;> simp
        rw [hw0] at CW
        clear hw0
        have HL := Lib.hid hl
        clear hl
        cases hk : Bn.ok N (Bn.mx R) <;> rw [hk] at CW
        · rw [Bn.hld_no hR hk] at CH
          clear hk hc hSh hR hBd CC CE CG
          simp only [Bool.false_eq_true, if_false] at CW
          go_enter Try.func4, Try.ntmps4
          go_wp2_with fail
          clear x0 x1 x2
          refine ((CR _ (HS.out.step HB.out)).out).mono ?_
          rintro e w1 ⟨rfl, hb1⟩
          have HB1 := Lib.hid (below_nxt HB.out hb1)
          have HX1 := Lib.hid (HX.out.step hb1)
          obtain ⟨x0, x1, x2⟩ := HX1.out
          clear hb1 HB HX CR
          go_wp2_with fail
          refine ((CT _ (HT.out.step HB1.out)).out).mono ?_
          rintro e w2 ⟨rfl, hb2⟩
          have HB2 := Lib.hid (below_nxt HB1.out hb2)
          have HX2 := Lib.hid (HX1.out.step hb2)
          clear hb2 x0 x1 x2 HB1 HX1 CT
          obtain ⟨x0, x1, x2⟩ := HX2.out
          go_wp2_with fail
          clear x0 x1 x2
          refine ((CH _ (HS.out.step HB2.out) (HT.out.step HB2.out)).out).mono ?_
          rintro e w3 ⟨rfl, hb3⟩
          have HB3 := Lib.hid (below_nxt HB2.out hb3)
          have HX3 := Lib.hid (HX2.out.step hb3)
          clear hb3 HB2 HX2 CH
          obtain ⟨x0, x1, x2⟩ := HX3.out
          go_wp2_with fail
          clear x0 x1 x2
          refine ((CW _ (HS.out.step HB3.out)).out).mono ?_
          rintro e w4 ⟨u4, rfl, hu4, hb4⟩
          have HB4 := Lib.hid (below_nxt HB3.out hb4)
          have HX4 := Lib.hid (HX3.out.step hb4)
          have HU4 := Lib.hid hu4
          have HN4 := Lib.hid hu4.nil0
          obtain ⟨uo, uc, rfl, -⟩ := hu4.opened
          clear hb4 hu4 HB3 HX3 CW
          obtain ⟨x0, x1, x2⟩ := HX4.out
          go_wp2_with fail
          refine (awake_any _).mono ?_
          rintro e wz ⟨rfl, hbz⟩
          have HBz := Lib.hid (below_nxt HB4.out hbz)
          clear hbz
          go_wp2
          go_ret
          exact ⟨rfl, HBz.out⟩
        · cases hw : Bn.witN N R <;> rw [hw] at CW
          · generalize Bn.hldB N R ts = q at *
            clear hk hc hSh hR hBd CC CE CG hw
            simp only [Bool.false_eq_true, if_false, if_true] at CW
            go_enter Try.func4, Try.ntmps4
            go_wp2_with fail
            clear x0 x1 x2
            refine ((CR _ (HS.out.step HB.out)).out).mono ?_
            rintro e w1 ⟨rfl, hb1⟩
            have HB1 := Lib.hid (below_nxt HB.out hb1)
            have HX1 := Lib.hid (HX.out.step hb1)
            obtain ⟨x0, x1, x2⟩ := HX1.out
            clear hb1 HB HX CR
            go_wp2_with fail
            refine ((CT _ (HT.out.step HB1.out)).out).mono ?_
            rintro e w2 ⟨rfl, hb2⟩
            have HB2 := Lib.hid (below_nxt HB1.out hb2)
            have HX2 := Lib.hid (HX1.out.step hb2)
            clear hb2 x0 x1 x2 HB1 HX1 CT
            obtain ⟨x0, x1, x2⟩ := HX2.out
            go_wp2_with fail
            clear x0 x1 x2
            refine ((CH _ (HS.out.step HB2.out) (HT.out.step HB2.out)).out).mono ?_
            rintro e w3 ⟨rfl, hb3⟩
            have HB3 := Lib.hid (below_nxt HB2.out hb3)
            have HX3 := Lib.hid (HX2.out.step hb3)
            clear hb3 HB2 HX2 CH
            obtain ⟨x0, x1, x2⟩ := HX3.out
            go_wp2_with fail
            clear x0 x1 x2
            refine ((CW _ (HS.out.step HB3.out)).out).mono ?_
            rintro e w4 ⟨u4, rfl, hu4, hb4⟩
            have HB4 := Lib.hid (below_nxt HB3.out hb4)
            have HX4 := Lib.hid (HX3.out.step hb4)
            have HU4 := Lib.hid hu4
            have HN4 := Lib.hid hu4.nil0
            obtain ⟨uo, uc, rfl, -⟩ := hu4.opened
            clear hb4 hu4 HB3 HX3 CW
            obtain ⟨x0, x1, x2⟩ := HX4.out
            go_wp2_with fail
            refine (awake_any _).mono ?_
            rintro e wz ⟨rfl, hbz⟩
            have HBz := Lib.hid (below_nxt HB4.out hbz)
            clear hbz
            go_wp2
            go_ret
            exact ⟨rfl, HBz.out⟩
          · have hlw := Bn.witT_len (N : Int) R N
            have hH2 : Bn.hldV N R (Bn.witT N R N) = (true, 0) := by rw [Bn.hldV_of hc hlw (Bn.witT_num hN hR hBd hk hw), (Bn.witT_hld hR hk hw).1]
            have hH3 : Bn.hldV N (Bn.rws N (Bn.clo N (Bn.mx R))) (Bn.witT N R N) = (true, 0) := by rw [Bn.hldV_of (Bn.chk_clo hN hR hBd hk) hlw (Bn.witT_num hN hR hBd hk hw), (Bn.witT_hld hR hk hw).2]
            have hcv : Bn.closV N R = ((N : Int), Bn.rws N (Bn.clo N (Bn.mx R)), true, 0) := by rw [Bn.closV_small hN hc hR hBd, if_pos hk]
            have HGe := Lib.hid (fun (h : Bn.hldB N R ts = true) i (hi : i < N) => Bn.witT_ge (Bn.hldB_sat.1 h) hw hi)
            have CG2 := fun u W (h : SeesR W (.slice ao R.length cap) R) (g : SeeI W u (Bn.witT N R N)) (hn : ∀ n c, u = .slice none n c → c = 0) => Lib.hid (show Calls Try.prog 19 #[.agg #[.int .i64 (N : Int), .slice ao R.length cap], u] W (HolP (true, 0) W) by
              have := (CG u _ W h g hn).out
              rw [hH2] at this
              exact this)
            have CG3 := fun cv u W (h : SeesR W cv (Bn.rws N (Bn.clo N (Bn.mx R)))) (g : SeeI W u (Bn.witT N R N)) (hn : ∀ n c, u = .slice none n c → c = 0) => Lib.hid (show Calls Try.prog 19 #[.agg #[.int .i64 (N : Int), cv], u] W (HolP (true, 0) W) by
              have := bHol_any N cv u _ _ W h g hn
              rw [hH3] at this
              exact this)
            have CC2 := fun W (h : SeesR W (.slice ao R.length cap) R) => Lib.hid (show Calls Try.prog 21 #[.agg #[.int .i64 (N : Int), .slice ao R.length cap]] W fun e w' => ∃ v cy, e = .returned (.tuple #[v, cy, .bool true, .int .i64 0]) ∧ ValB w' v N (Bn.rws N (Bn.clo N (Bn.mx R))) ∧ Below W.heap.size W w' by
              refine ((CC W h).out).mono ?_
              rintro e w' ⟨v, cy, l, rfl, h1, -, -, -, h2⟩
              rw [hcv] at h1 ⊢
              exact ⟨v, cy, rfl, h1, h2⟩)
            have CE2 := fun i (hi : i < N) W (h : SeesR W (.slice ao R.length cap) R) => Lib.hid (show Calls Try.prog 22 #[.agg #[.int .i64 (N : Int), .slice ao R.length cap], .int .i64 ((i : Int) + 1)] W fun e w' => e = .returned (.tuple #[.int .i64 ((Bn.witT N R N).getD i 0), .int .i64 (Bn.cl N R 0 (i + 1)), .int .i64 0]) ∧ Below W.heap.size W w' by
              have := (CE ((i : Int) + 1) W h).out
              rw [Bn.extV_small hc hk hi] at this
              exact this)
            have HLw := Lib.hid hlw
            have hlv : (((Bn.witT N R N).length : Int) != (N : Int)) = false := by rw [hlw]; simp
            simp only [if_true] at CW
            clear hk hc hSh hR hBd CC CE CG hw hH2 hH3 hcv hlw
            generalize Bn.hldB N R ts = q at *
            generalize Bn.witT N R N = l at *
            generalize Bn.rws N (Bn.clo N (Bn.mx R)) = C at *
            go_enter Try.func4, Try.ntmps4
            go_wp2_with fail
            clear x0 x1 x2
            refine ((CR _ (HS.out.step HB.out)).out).mono ?_
            rintro e w1 ⟨rfl, hb1⟩
            have HB1 := Lib.hid (below_nxt HB.out hb1)
            have HX1 := Lib.hid (HX.out.step hb1)
            obtain ⟨x0, x1, x2⟩ := HX1.out
            clear hb1 HB HX CR
            go_wp2_with fail
            refine ((CT _ (HT.out.step HB1.out)).out).mono ?_
            rintro e w2 ⟨rfl, hb2⟩
            have HB2 := Lib.hid (below_nxt HB1.out hb2)
            have HX2 := Lib.hid (HX1.out.step hb2)
            clear hb2 x0 x1 x2 HB1 HX1 CT
            obtain ⟨x0, x1, x2⟩ := HX2.out
            go_wp2_with fail
            clear x0 x1 x2
            refine ((CH _ (HS.out.step HB2.out) (HT.out.step HB2.out)).out).mono ?_
            rintro e w3 ⟨rfl, hb3⟩
            have HB3 := Lib.hid (below_nxt HB2.out hb3)
            have HX3 := Lib.hid (HX2.out.step hb3)
            clear hb3 HB2 HX2 CH
            obtain ⟨x0, x1, x2⟩ := HX3.out
            go_wp2_with fail
            clear x0 x1 x2
            refine ((CW _ (HS.out.step HB3.out)).out).mono ?_
            rintro e w4 ⟨u4, rfl, hu4, hb4⟩
            have HB4 := Lib.hid (below_nxt HB3.out hb4)
            have HX4 := Lib.hid (HX3.out.step hb4)
            have HU4 := Lib.hid hu4
            have HN4 := Lib.hid hu4.nil0
            obtain ⟨uo, uc, rfl, -⟩ := hu4.opened
            clear hb4 hu4 HB3 HX3 CW
            obtain ⟨x0, x1, x2⟩ := HX4.out
            go_wp2_with fail
            clear x0 x1 x2
            refine ((CC2 _ (HS.out.step HB4.out)).out).mono ?_
            rintro e w5 ⟨v5, cy, rfl, ⟨c5, rfl, hc5⟩, hb5⟩
            obtain ⟨co, cc, rfl, -⟩ := id hc5
            have L5 := boxB_new w5 (N : Int) (.slice co C.length cc) 24
            have HW5 := Lib.hid (HX4.out.step hb5)
            obtain ⟨x0, x1, x2⟩ := HW5.out
            have HX5 := Lib.hid (HW5.out.step L5.2)
            have HC5 := Lib.hid (hc5.step L5.2)
            have HU5 := Lib.hid ((HU4.out.step hb5).step L5.2)
            have HB5 := Lib.hid (below_nxt (below_nxt HB4.out hb5) L5.2)
            have HZ5 := Lib.hid L5.1
            clear hb5 hc5 L5 HX4 HB4 HW5 CC2 HU4
            go_wp2_with fail
            clear x0 x1 x2
            generalize w5.alloc (.cells #[.int .i64 (N : Int), .slice co C.length cc] 24) = X5 at *
            generalize hk5 : w5.heap.size = k5 at *
            clear hk5
            refine ((CG2 _ X5 (HS.out.step HB5.out) HU5.out.see HN4.out).out).mono ?_
            rintro e w6 ⟨rfl, hb6⟩
            have HX6 := Lib.hid (HX5.out.step hb6)
            have HC6 := Lib.hid (HC5.out.step hb6)
            have HU6 := Lib.hid (HU5.out.step hb6)
            have HB6 := Lib.hid (below_nxt HB5.out hb6)
            obtain ⟨z0, z1, z2⟩ := HZ5.out.step hb6
            clear hb6 HX5 HC5 HU5 HB5 HZ5 CG2
            go_wp2_with fail
            clear z0 z1 z2
            refine ((CG3 _ _ w6 HC6.out HU6.out.see HN4.out).out).mono ?_
            rintro e w7 ⟨rfl, hb7⟩
            have HX7 := Lib.hid (HX6.out.step hb7)
            have HU7 := Lib.hid (HU6.out.step hb7)
            have HB7 := Lib.hid (below_nxt HB6.out hb7)
            obtain ⟨x0, x1, x2⟩ := HX7.out
            clear hb7 HX6 HC6 HU6 HB6 CG3
            go_wp2
            go_loopw [112] (fun s112 wr => ∃ i : Nat, i ≤ ts.length ∧ s112 = .int .i64 (i : Int) ∧ BoxB wr w.heap.size N (.slice ao R.length cap) ∧ Hid (Below w7.heap.size w7 wr)) (fun s112 _ => ts.length - (intOf s112).toNat)
            case atStart => exact ⟨0, Nat.zero_le _, rfl, HX7.out, Lib.hid (Below.refl _ _)⟩
            case round =>
              clear x0 x1 x2
              obtain ⟨i, hi, rfl, hB, HBW⟩ := hrel
              have HBx := Lib.hid hB
              obtain ⟨x0, x1, x2⟩ := hB
              by_cases hil : i < ts.length
              · have hiN : i < N := by have := HL.out; omega
                have hil2 : i < l.length := by have := HLw.out; omega
                have HW := Lib.hid (below_nxt HB7.out HBW.out)
                obtain ⟨t', c', hv, -, -, hC⟩ := HT.out.step HW.out
                simp only [Value.slice.injEq] at hv
                obtain ⟨rfl, -, rfl⟩ := hv
                obtain ⟨tb, toff, rfl, htb, c1⟩ := hC.at (Below.refl _ _) hil
                obtain ⟨t2', c2', hv2, -, -, hC2⟩ := (HU7.out.step HBW.out).see
                simp only [Value.slice.injEq] at hv2
                obtain ⟨rfl, -, rfl⟩ := hv2
                obtain ⟨ub, uoff, rfl, hub, c2⟩ := hC2.at (Below.refl _ _) hil2
                have HGi := Lib.hid (fun h => HGe.out h i hiN)
                have CEi := CE2 i hiN
                have HU8 := Lib.hid hub
                clear hC hC2 htb hub HN4
                generalize l.getD i 0 = y at *
                generalize ts.getD i 0 = x at *
                generalize Bn.cl (N : Int) R 0 (i + 1) = hgh at *
                have zi : (i : Int) < (ts.length : Int) := by omega
                have zi2 : (i : Int) < (l.length : Int) := by omega
                go_wp2_with fail
                clear x0 x1 x2
                refine ((CEi wr (HS.out.step HW.out)).out).mono ?_
                rintro e w8 ⟨rfl, hb8⟩
                have c3 := (hb8.cell (p := ⟨ub, uoff + i, none⟩) HU8.out).trans c2
                have HB8 := Lib.hid (below_nxt HBW.out hb8)
                have HX8 := Lib.hid (HBx.out.step hb8)
                clear hb8 c1 c2 CEi CE2 HGe
                cases q
                · go_wp2
                  exact ⟨⟨i + 1, by omega, by first | rfl | go_num, HX8.out, HB8⟩, by simp [intOf]; omega⟩
                · have hxy : decide (x < y) = false := decide_eq_false (by have := HGi.out rfl; omega)
                  clear HGi
                  go_wp2
                  exact ⟨⟨i + 1, by omega, by first | rfl | go_num, HX8.out, HB8⟩, by simp [intOf]; omega⟩
              · obtain rfl : i = ts.length := by omega
                go_wp2_with fail
                refine (awake_any _).mono ?_
                rintro e wz ⟨rfl, hbz⟩
                have HBz := Lib.hid (below_nxt (below_nxt HB7.out HBW.out) hbz)
                clear hbz
                go_wp2
                go_ret
                exact ⟨rfl, HBz.out⟩
      · clear hl hR hBd hSh hc CC CE CG CW CH
        go_enter Try.func4, Try.ntmps4
        go_wp2_with fail
        clear x0 x1 x2
        refine ((CR _ (HS.out.step HB.out)).out).mono ?_
        rintro e w1 ⟨rfl, hb1⟩
        have HB1 := Lib.hid (below_nxt HB.out hb1)
        have HX1 := Lib.hid (HX.out.step hb1)
        obtain ⟨x0, x1, x2⟩ := HX1.out
        clear hb1 HB HX CR
        go_wp2_with fail
        refine ((CT _ (HT.out.step HB1.out)).out).mono ?_
        rintro e w2 ⟨rfl, hb2⟩
        have HB2 := Lib.hid (below_nxt HB1.out hb2)
        have HX2 := Lib.hid (HX1.out.step hb2)
        clear hb2 x0 x1 x2 HB1 HX1 CT
        obtain ⟨x0, x1, x2⟩ := HX2.out
        go_wp2_with fail
        refine (awake_any _).mono ?_
        rintro e wz ⟨rfl, hbz⟩
        have HBz := Lib.hid (below_nxt HB2.out hbz)
        clear hbz
        go_wp2
        go_ret
        exact ⟨rfl, HBz.out⟩
    · have hlz : ((ts.length : Int) != (N : Int)) = true := by
        have : ¬ ((ts.length : Int) = (N : Int)) := by omega
        simpa using this
      clear hl hR hBd hSh hc CC CE CG CW CH CT
      go_enter Try.func4, Try.ntmps4
      go_wp2_with fail
      clear x0 x1 x2
      refine ((CR _ (HS.out.step HB.out)).out).mono ?_
      rintro e w1 ⟨rfl, hb1⟩
      have HB1 := Lib.hid (below_nxt HB.out hb1)
      have HX1 := Lib.hid (HX.out.step hb1)
      obtain ⟨x0, x1, x2⟩ := HX1.out
      clear hb1 HB HX CR
      go_wp2_with fail
      refine (awake_any _).mono ?_
      rintro e wz ⟨rfl, hbz⟩
      have HBz := Lib.hid (below_nxt HB1.out hbz)
      clear hbz
      go_wp2
      go_ret
      exact ⟨rfl, HBz.out⟩
end Go.Proofs.Ytaikegiohjpifaa
