/- Holds, ready and Sorted of the reference. -/
import Derived.Test.YtkjhockppkdakaaFB
namespace Dg
theorem contains_ci (l : List Nat) (x : Nat) : (ci l).contains (x : Int) = decide (x ∈ l) := by
  rw [Bool.eq_iff_iff, List.contains_iff_mem, decide_eq_true_eq]
  unfold ci
  rw [List.mem_map]
  constructor
  · rintro ⟨a, ha, e⟩
    obtain rfl : a = x := by omega
    exact ha
  · exact fun h => ⟨x, h, rfl⟩
/-- Is a vertex the next one that may come? -/
def Rdy (es : List (Nat × Nat)) (l : List Nat) (x : Nat) : Prop := x ∉ l ∧ ∀ u, (u, x) ∈ es → u ∈ l
theorem full_pk {n : Nat} {es : List (Nat × Nat)} (hF : (ordL n es).length = n) {j : Nat} (hj : j < n) : ∃ v, v < n ∧ Rdy es (ords n es j) v ∧ (∀ x, x < v → ¬ Rdy es (ords n es j) x) ∧ ords n es (j + 1) = ords n es j ++ [v] := by
  cases h : pk n es (ords n es j) with
  | some v =>
    obtain ⟨h1, h2, h3⟩ := pk_some.1 h
    exact ⟨v, h1, h2, h3, ords_some h⟩
  | none =>
    have h1 := full_len hF (j := j + 1) hj
    have h2 := full_len hF (j := j) (Nat.le_of_lt hj)
    have h3 := ords_none h 1
    rw [h3] at h1; omega
end Dg
namespace Go.Proofs.Ytkjhockppkdakaa
open Go.RowKit Go.Shelf

set_option maxHeartbeats 2000000 in
set_option maxRecDepth 100000 in
theorem rHolds_ok (l : List Nat) (x : Nat) (v : Value) (w : World) (hv : SeesI w v (Dg.ci l)) :
    Calls Try.prog 77 #[v, .int .i64 x] w fun e w' => e = .returned (.bool (decide (x ∈ l))) ∧ Below w.heap.size w w' := by
  obtain ⟨ao, cap, rfl, hc1, hc2, hC⟩ := hv.opened
  rw [Dg.ci_len] at *
  clear hv
  go_enter Try.func77, Try.ntmps77
  go_wp2
  go_loopw [5] (fun s5 wr => ∃ i : Nat, i ≤ l.length ∧ s5 = .int .i64 i ∧ Hid (Below w.heap.size w wr) ∧ Hid (∀ j, j < i → l.getD j 0 ≠ x)) (fun s5 _ => l.length - (intOf s5).toNat)
  case atStart => exact ⟨0, Nat.zero_le _, rfl, Lib.hid (Below.refl _ _), Lib.hid (fun j h => by omega)⟩
  case round =>
    obtain ⟨i, hi, rfl, HB, HN⟩ := hrel
    by_cases hil : i < l.length
    · obtain ⟨b, off, rfl, hb, c1⟩ := hC.at HB.out (i := i) (by rw [Dg.ci_len]; exact hil)
      rw [Dg.ci_at] at c1
      have HM := Lib.hid (Dg.getD_mem (d := (0 : Nat)) hil)
      have HQ : Hid (l.getD i 0 ≠ x → ∀ j, j < i + 1 → l.getD j 0 ≠ x) := Lib.hid (fun h j hj => by
        by_cases e : j = i
        · rw [e]; exact h
        · exact HN.out j (by omega))
      clear HN
      generalize l.getD i 0 = y at *
      by_cases e : y = x
      · have d1 : ((y : Int) == (x : Int)) = true := by simp [e]
        have HR : Hid (decide (x ∈ l) = true) := Lib.hid (by simp only [decide_eq_true_eq]; rw [← e]; exact HM.out)
        clear e HQ
        go_wp2
        go_ret
        exact ⟨ret_bool (by rw [HR.out]), HB.out⟩
      · have d1 : ((y : Int) == (x : Int)) = false := by simp; omega
        have HQ2 := Lib.hid (HQ.out e)
        clear e HQ
        go_wp2
        exact ⟨⟨i + 1, by omega, by first | rfl | go_num, HB, HQ2⟩, by simp [intOf]; omega⟩
    · obtain rfl : i = l.length := by omega
      have HR : Hid (decide (x ∈ l) = false) := Lib.hid (by
        simp only [decide_eq_false_iff_not]
        intro h
        obtain ⟨j, hj, e⟩ := Dg.mem_getD 0 h
        exact HN.out j hj e)
      go_wp2
      go_ret
      exact ⟨ret_bool (by rw [HR.out]), HB.out⟩

set_option maxHeartbeats 4000000 in
set_option maxRecDepth 100000 in
theorem rReady_ok (m : Nat) (es : List (Nat × Nat)) (l : List Nat) (x : Nat) (v lv : Value) (w : World) (d : Bool) (hle : es.length ≤ 4096) (hd : d = true ↔ Dg.Rdy es l x) (hv : SeesE w v (Dg.cst es)) (hL : SeesI w lv (Dg.ci l)) :
    Calls Try.prog 71 #[.agg #[.int .i64 m, v], lv, .int .i64 x] w fun e w' => e = .returned (.bool d) ∧ Below w.heap.size w w' := by
  have hCE0 : ∃ ao cap, v = .slice ao (Dg.cst es).length cap ∧ CellsE w ao (Dg.cst es) := by
    obtain ⟨ao', cap', h1, _, _, h4⟩ := hv
    exact ⟨ao', cap', h1, h4⟩
  obtain ⟨ao, cap, rfl, hC⟩ := hCE0
  rw [Dg.cst_len] at *
  obtain ⟨P0, L0, z0⟩ := gph_new w m (.slice ao es.length cap) 24
  generalize hX : w.alloc (.cells #[.int .i64 m, .slice ao es.length cap] 24) = X at *
  obtain ⟨-, p1, p2⟩ := id P0
  have HL := Lib.hid L0
  have SL := Lib.hid (hL.step L0)
  have HM := Lib.hid (fun i (hi : i < es.length) => Dg.getD_mem (d := ((0, 0) : Nat × Nat)) hi)
  have HD := Lib.hid hd
  clear L0 z0 hv hL hd
  go_enter Try.func71, Try.ntmps71
  go_wp2
  go_loopw [7] (fun s7 wr => ∃ i : Nat, i ≤ es.length ∧ s7 = .int .i64 i ∧ Hid (Below X.heap.size X wr) ∧ Hid (∀ j, j < i → (es.getD j (0, 0)).2 = x → (es.getD j (0, 0)).1 ∈ l)) (fun s7 _ => es.length - (intOf s7).toNat)
  case atStart => exact ⟨0, Nat.zero_le _, rfl, Lib.hid (Below.refl _ _), Lib.hid (fun j h => by omega)⟩
  case round =>
    obtain ⟨i, hi, rfl, HB, HN⟩ := hrel
    have HBw := Lib.hid (below_nxt HL.out HB.out)
    obtain ⟨-, g1, g2⟩ := P0.step HB.out
    clear p1 p2
    by_cases hil : i < es.length
    · obtain ⟨g, off, rfl, hg, c1, c2⟩ := hC.at HBw.out (i := i) (by rw [Dg.cst_len]; exact hil)
      rw [Dg.cst_at] at c1 c2
      have HMi := Lib.hid (HM.out i hil)
      have HQ : Hid (((es.getD i (0, 0)).2 = x → (es.getD i (0, 0)).1 ∈ l) → ∀ j, j < i + 1 → (es.getD j (0, 0)).2 = x → (es.getD j (0, 0)).1 ∈ l) := Lib.hid (fun h j hj => by
        by_cases e : j = i
        · rw [e]; exact h
        · exact HN.out j (by omega))
      clear HN HM
      generalize es.getD i (0, 0) = y at *
      by_cases e1 : y.2 = x
      · have d1 : ((y.2 : Int) == (x : Int)) = true := by simp [e1]
        have CH := Lib.hid (rHolds_ok l y.1 lv wr (SL.out.step HB.out))
        by_cases e2 : y.1 ∈ l
        · rw [show decide (y.1 ∈ l) = true by simp [e2]] at CH
          have HQ2 := Lib.hid (HQ.out (fun _ => e2))
          clear e1 e2 HQ
          go_wp2_with fail
          refine CH.out.mono ?_
          rintro e w2 ⟨rfl, hb⟩
          have HB2 := Lib.hid (below_nxt HB.out hb)
          clear hb
          go_wp2
          exact ⟨⟨i + 1, by omega, by first | rfl | go_num, HB2, HQ2⟩, by simp [intOf]; omega⟩
        · rw [show decide (y.1 ∈ l) = false by simp [e2]] at CH
          have HR : Hid (d = false) := Lib.hid (by
            cases hdd : d
            · rfl
            · have := (HD.out.1 hdd).2 y.1 (by rw [← e1]; exact HMi.out)
              exact absurd this e2)
          clear e1 e2 HQ
          go_wp2_with fail
          refine CH.out.mono ?_
          rintro e w2 ⟨rfl, hb⟩
          have HB2 := Lib.hid (below_nxt HBw.out hb)
          clear hb
          go_wp2
          go_ret
          exact ⟨ret_bool (by rw [HR.out]), HB2.out⟩
      · have d1 : ((y.2 : Int) == (x : Int)) = false := by simp; omega
        have HQ2 := Lib.hid (HQ.out (fun e => absurd e e1))
        clear e1 HQ
        go_wp2
        exact ⟨⟨i + 1, by omega, by first | rfl | go_num, HB, HQ2⟩, by simp [intOf]; omega⟩
    · obtain rfl : i = es.length := by omega
      have CH := Lib.hid (rHolds_ok l x lv wr (SL.out.step HB.out))
      have HR : Hid ((!decide (x ∈ l)) = d) := Lib.hid (by
        rw [Bool.eq_iff_iff, HD.out]
        unfold Dg.Rdy
        simp only [Bool.not_eq_true', decide_eq_false_iff_not]
        refine ⟨fun h => ⟨h, fun u hu => ?_⟩, fun h => h.1⟩
        obtain ⟨j, hj, e⟩ := Dg.mem_getD (0, 0) hu
        have := HN.out j hj (by rw [e])
        rw [e] at this; exact this)
      clear HN
      generalize decide (x ∈ l) = b at *
      go_wp2_with fail
      refine CH.out.mono ?_
      rintro e w2 ⟨rfl, hb⟩
      have HB2 := Lib.hid (below_nxt HBw.out hb)
      clear hb
      go_wp2
      go_ret
      exact ⟨ret_bool (by rw [HR.out]), HB2.out⟩

set_option maxHeartbeats 4000000 in
set_option maxRecDepth 100000 in
theorem rSorted_ok (m : Nat) (es : List (Nat × Nat)) (v : Value) (w : World) (hm : m ≤ 256) (hl : es.length ≤ 4096) (hF : (Dg.ordL m es).length = m) (hv : SeesE w v (Dg.cst es)) :
    Calls Try.prog 57 #[.agg #[.int .i64 m, v]] w fun e w' => ∃ u, e = .returned u ∧ SeesI w' u (Dg.ci (Dg.ordL m es)) ∧ Below w.heap.size w w' := by
  obtain ⟨i0, hi0, hz0, hz1, hz2⟩ := info_int
  have BX := fun (W : World) (o : Obj) => (Below.refl W.heap.size W).alloc (Nat.le_refl _) o
  have HPK := Lib.hid (fun j (hj : j < m) => Dg.full_pk hF hj)
  have HLN := Lib.hid (fun j (hj : j ≤ m) => Dg.full_len hF hj)
  have SG := Lib.hid hv
  obtain ⟨ao, cap, rfl⟩ := hv.slice
  rw [Dg.cst_len] at *
  obtain ⟨P, L0, z0⟩ := gph_new w m (.slice ao es.length cap) 24
  generalize hX : w.alloc (.cells #[.int .i64 m, .slice ao es.length cap] 24) = X at *
  obtain ⟨-, P1, P2⟩ := id P
  have HL := Lib.hid L0
  have SX := Lib.hid (SG.out.step L0)
  clear SG hv L0 z0 hF
  go_enter Try.func57, Try.ntmps57
  go_wp2
  go_loopw [3] (fun s3 wr => ∃ j : Nat, j ≤ m ∧ RowI X.heap.size 3 wr s3 (Dg.ci (Dg.ords m es j)) ∧ Hid (Below X.heap.size X wr)) (fun s3 _ => m - sLen s3)
  case atStart => exact ⟨0, Nat.zero_le _, RowI.nil _ _ _, Lib.hid (Below.refl _ _)⟩
  case round =>
    clear P1 P2
    obtain ⟨j, hj, hR, HB⟩ := hrel
    have HLj := HLN.out j hj
    obtain ⟨ra, rc, rfl⟩ := hR.form
    rw [Dg.ci_len, HLj]
    have HRj := Lib.hid hR
    rw [Dg.ci_len, HLj] at HRj
    obtain ⟨-, q1, q2⟩ := P.step HB.out
    by_cases hjm : j < m
    · obtain ⟨z, hzm, hz1', hz2', hz3⟩ := HPK.out j hjm
      have HLS : Hid (∀ x, Dg.Lst m (Dg.Rdy es (Dg.ords m es j)) 0 x → x = (z : Nat)) := Lib.hid (fun x h => h.least hzm hz1' (fun y hy => by
        rcases Nat.lt_or_ge y z with e | e
        · exact absurd hy (hz2' y e)
        · exact e))
      have HSU := Lib.hid hz3
      have HLst := Lib.hid (Dg.Lst.start m (Dg.Rdy es (Dg.ords m es j)))
      have Pw := P.step HB.out
      have SW := Lib.hid (SX.out.step HB.out)
      have SLw := Lib.hid hR.sees
      rw [Dg.ci_len, HLj] at SLw
      have HLJ := Lib.hid HLj
      obtain ⟨w0, hw0⟩ : ∃ w0, w0 = wr := ⟨_, rfl⟩
      subst hw0
      clear hR hz1' hz2' hz3 HLj
      go_wp2
      go_loopw [4, 5] (fun s4 s5 wr => ∃ (c : Nat) (x : Int), c ≤ m ∧ s5 = .int .i64 ((c : Int) - 1) ∧ s4 = .int .i64 x ∧ Hid (Dg.Lst m (Dg.Rdy es (Dg.ords m es j)) c x) ∧ Hid (Below w0.heap.size w0 wr)) (fun _ s5 _ => (intOf s5 + 1).toNat)
      case atStart => exact ⟨m, -1, Nat.le_refl _, rfl, rfl, HLst, Lib.hid (Below.refl _ _)⟩
      case round =>
        clear HLst q1 q2
        obtain ⟨c, x, hc, rfl, rfl, HLx, HB2⟩ := hrel
        cases c with
        | succ d =>
          rw [show ((d + 1 : Nat) : Int) - 1 = (d : Int) by omega]
          have hdm : d < m := by omega
          have hd0 : (0 : Int) ≤ (d : Int) := by omega
          obtain ⟨-, r1, r2⟩ := Pw.step HB2.out
          by_cases hrd : Dg.Rdy es (Dg.ords m es j) d
          · have CR := Lib.hid (rReady_ok m es (Dg.ords m es j) d _ _ wr true hl (by simp [hrd]) (SW.out.step HB2.out) (SLw.out.step HB2.out))
            have HH := Lib.hid (Dg.Lst.hit hdm hrd)
            clear hrd
            go_wp2_with fail
            refine CR.out.mono ?_
            rintro e w2 ⟨rfl, hb⟩
            have HB3 := Lib.hid (below_nxt HB2.out hb)
            clear hb
            go_wp2
            exact ⟨⟨d, (d : Int), by omega, by first | rfl | go_num, rfl, HH, HB3⟩, by simp [intOf]⟩
          · have CR := Lib.hid (rReady_ok m es (Dg.ords m es j) d _ _ wr false hl (by simp [hrd]) (SW.out.step HB2.out) (SLw.out.step HB2.out))
            have HH := Lib.hid (HLx.out.miss hrd)
            clear hrd
            go_wp2_with fail
            refine CR.out.mono ?_
            rintro e w2 ⟨rfl, hb⟩
            have HB3 := Lib.hid (below_nxt HB2.out hb)
            clear hb
            go_wp2
            exact ⟨⟨d, x, by omega, by first | rfl | go_num, rfl, HH, HB3⟩, by simp [intOf]⟩
        | zero =>
          have HX2 := Lib.hid (HLS.out x HLx.out)
          rw [HX2.out]
          have HRw := Lib.hid (HRj.out.below (C := w0.heap.size) HB2.out (Nat.le_refl _))
          have HBx := Lib.hid (HB.out.trans (HB2.out.mono HB.out.size))
          have hzl := HBx.out.size
          have hneg : ¬ ((0 : Int) ≤ ((0 : Nat) : Int) - 1) := by omega
          have hN2 : (Dg.ci (Dg.ords m es j)).length + [(z : Int)].length = j + 1 := by rw [Dg.ci_len, HLJ.out]; rfl
          have hcl : (Dg.ci (Dg.ords m es j)).length ≤ 256 := by rw [Dg.ci_len, HLJ.out]; omega
          have HPN2 : Hid (Dg.ci (Dg.ords m es (j + 1)) = Dg.ci (Dg.ords m es j) ++ [(z : Int)]) := Lib.hid (by rw [HSU.out, Dg.ci_append]; rfl)
          clear HLx
          go_wp2_with (at_builtin; refine wpList_append_int rfl _ _ 27 rfl 3 i0 Try.underlying27 hi0 hz0 hz1 hz2 _ _ (Dg.ci (Dg.ords m es j)) [(z : Int)] rfl rfl X.heap.size (HRw.out.step (BX _ _)) (SeesI.one _ _ _) (by simp; omega) (by simp; omega) ?_; intro a5 p5 w5 hr5 hg5 ho5; have hb5 := RowI.belowOwn (C := X.heap.size) (HRw.out.step (BX _ _)) hg5 (by simp; omega) (Nat.le_refl _); have HB5 := Lib.hid ((HBx.out.alloc HBx.out.size (.cells #[.int .i64 (z : Int)] 3)).trans hb5); have HR5 := Lib.hid hr5; rw [hN2] at HR5 ⊢; clear hr5 hg5 ho5 hb5)
          exact ⟨⟨j + 1, by omega, by rw [HPN2.out]; exact HR5.out, HB5⟩, by simp [sLen]; omega⟩
    · obtain rfl : j = m := by omega
      have hbk := Lib.hid (HL.out.trans (HB.out.mono HL.out.size))
      have HSE := Lib.hid hR.sees
      rw [Dg.ci_len, HLj] at HSE
      clear hR
      go_wp2
      exact bodyPost_ret (v := .slice ra j rc) (by simp [results, Try.results57, go_sem]) rfl ⟨_, rfl, HSE.out, hbk.out⟩
end Go.Proofs.Ytkjhockppkdakaa
