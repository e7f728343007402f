/- components of package digraph. -/
import Derived.Test.YtkjhockppkdakaaDt
namespace Go.Proofs.Ytkjhockppkdakaa
open Go.RowKit Go.Shelf

theorem MapI.ne {w : World} {B m b o : Nat} {f : Nat → Option Nat} {x : Value} (h : MapI w B m f) (hc : w.cell? ⟨b, o, none⟩ = some x) : b ≠ B := by
  rintro rfl
  obtain ⟨D, ⟨es, clock, hb, _⟩, _⟩ := h
  simp [World.cell?, hb] at hc
theorem CellsI.on {w : World} {ao : Option Addr} {l : List Int} {B m : Nat} {f : Nat → Option Nat} (h : CellsI w ao l) (hM : MapI w B m f) {i : Nat} (hi : i < l.length) :
    ∃ b off, ao = some ⟨b, off, none⟩ ∧ ∀ W, w.grownBy W (some B) → W.cell? ⟨b, off + i, none⟩ = some (.int .i64 (l.getD i 0)) := by
  obtain ⟨b, off, rfl, hb, c⟩ := h.at (Below.refl _ _) hi
  exact ⟨b, off, rfl, fun W hg => hg.cell c (by have := hM.ne c; simpa using this)⟩

set_option maxHeartbeats 4000000 in
set_option maxRecDepth 100000 in
theorem dComps_any (n : Nat) (es : List (Nat × Nat)) (v : Value) (w : World) (hE : Dg.Ok n es) (hn : n ≤ 16) (he : es.length ≤ 64) (hv : SeesE w v (Dg.cst es)) :
    Calls Try.prog 58 #[.agg #[.int .i64 n, v]] w fun e w' => ∃ b m, e = .returned (.map (some b)) ∧ w.heap.size ≤ b ∧ MapI w' b m (Dg.nf n es n 0) ∧ Below w.heap.size w w' := by
  have hmm := @run_makeMap Try.prog
  have CR := fun W h => Lib.hid (dRev_any n v (Dg.cst es) W (by rw [Dg.cst_len]; omega) h)
  rw [Dg.swp_cst] at CR
  have CN := fun W h => Lib.hid (dNb_any n v es W (by omega) (by omega) hE h)
  have CNr := fun rv W h => Lib.hid (dNb_any n rv (Dg.rv es) W (by omega) (by rw [Dg.rv_len]; omega) (Dg.rv_ok hE) h)
  have HV := Lib.hid hv
  obtain ⟨ao, cap, rfl⟩ := hv.slice
  obtain ⟨P0, L0, z0⟩ := gph_new w n (.slice ao (Dg.cst es).length cap) 24
  generalize hX : w.alloc (.cells #[.int .i64 n, .slice ao (Dg.cst es).length cap] 24) = X at *
  obtain ⟨p0, p1, p2⟩ := id P0
  have HL := Lib.hid L0
  have hzX : w.heap.size < X.heap.size := p0
  clear hv L0 z0
  go_enter Try.func58, Try.ntmps58
  have HD := Lib.hid (HL.out.drew)
  have g1 : X.drew.cell? ⟨w.heap.size, 0, none⟩ = some (.int .i64 n) := p1
  have g2 : X.drew.cell? ⟨w.heap.size, 1, none⟩ = some (.slice ao (Dg.cst es).length cap) := p2
  clear p1 p2
  go_wp2_with fail
  go_region_held3 (fun W => W.cell? ⟨w.heap.size, 0, none⟩ = some (.int .i64 n) ∧ W.cell? ⟨w.heap.size, 1, none⟩ = some (.slice ao (Dg.cst es).length cap))
    (first | (refine ⟨?_, ?_⟩ <;> with_reducible assumption) | (go_split_ands; refine ⟨?_, ?_⟩ <;> with_reducible assumption))
    (first
      | (go_at_call 50; (with_reducible refine ((CR _ (HV.out.step HB2.out)).out).mono ?_); rintro e w3 ⟨rv, rfl, hs3, hb⟩; have HB3 := Lib.hid (below_nxt HB2.out hb); have HSr := Lib.hid hs3; have HS3 := Lib.hid (HS2.out.step hb); have k3 := (hb.cell (p := ⟨w.heap.size, 0, none⟩) hz2).trans k1; have k4 := (hb.cell (p := ⟨w.heap.size, 1, none⟩) hz2).trans k2; have hz3 := Nat.lt_of_lt_of_le hz2 hb.size; clear hb hs3)
      | (go_at_call 47; (with_reducible refine ((CNr _ _ HSr.out).out).mono ?_); rintro e w4 ⟨bv, rfl, hs4, hb⟩; have HB4 := Lib.hid (below_nxt HB3.out hb); have HSb := Lib.hid hs4; have HS4 := Lib.hid (HS3.out.step hb); have k5 := (hb.cell (p := ⟨w.heap.size, 0, none⟩) hz3).trans k3; have k6 := (hb.cell (p := ⟨w.heap.size, 1, none⟩) hz3).trans k4; have hz4 := Nat.lt_of_lt_of_le hz3 hb.size; clear hb hs4)
      | (go_at_call 47; (with_reducible refine ((CN _ (HV.out.step HD.out)).out).mono ?_); rintro e w2 ⟨nv, rfl, hs2, hb⟩; have HB2 := Lib.hid (below_nxt HD.out hb); have HS2 := Lib.hid hs2; have k1 := (hb.cell (p := ⟨w.heap.size, 0, none⟩) p0).trans g1; have k2 := (hb.cell (p := ⟨w.heap.size, 1, none⟩) p0).trans g2; have hz2 : w.heap.size < w2.heap.size := Nat.lt_of_lt_of_le (show w.heap.size < X.drew.heap.size from p0) hb.size; clear hb hs2))
  have HN := HS4
  have HE := Lib.hid hE
  have M0 := MapI.new w4
  have HB5 := Lib.hid ((Below.refl w4.heap.size w4).alloc (Nat.le_refl _) (.map #[] 0))
  have k7 := (HB5.out.cell (p := ⟨w.heap.size, 0, none⟩) hz4).trans k5
  clear k1 k2 k3 k4 g1 g2 p0 hz2 hz3 HS2 HS3 CR CN CNr P0 hE
  have HK7 := Lib.hid k5
  clear k5 k6
  go_wp2
  go_loopw [6, 21] (fun s6 s21 wr => ∃ j m : Nat, j ≤ n ∧ m ≤ j * 16 ∧ s21 = .int .i64 j ∧ s6 = .int .i64 (Dg.cnt (Dg.isL n es) j : Nat) ∧ MapI wr w4.heap.size m (Dg.nf n es j 0) ∧ Hid (Below w4.heap.size w4 wr)) (fun _ s21 _ => n - (intOf s21).toNat)
  case atStart => exact ⟨0, 0, Nat.zero_le _, Nat.zero_le _, rfl, rfl, M0.congr (fun x _ => Dg.nf_zero n es x), HB5⟩
  case round =>
    clear M0 HB5 k7
    obtain ⟨j, m, hj, hm, rfl, rfl, hM, HB⟩ := hrel
    have HM := Lib.hid hM
    by_cases hjn : j < n
    · have hcs := Dg.cnt_succ (Dg.isL n es) j
      have hcl := Dg.cnt_le_n (Dg.isL n es) j
      cases hL : Dg.isL n es j
      · have hlk := hM.ok_some (x := j) (c := Dg.num n es j) (by omega) (Dg.nf_known HE.out hjn hL) true
        simp only [if_true] at hlk
        have HM2 := Lib.hid (HM.out.congr (fun x _ => Dg.nf_skip HE.out hL x))
        have HC : Hid (Dg.cnt (Dg.isL n es) (j + 1) = Dg.cnt (Dg.isL n es) j) := Lib.hid (by rw [hcs, hL]; rfl)
        clear hM hL hcs
        go_wp2
        exact ⟨⟨j + 1, m, by omega, by omega, by first | rfl | go_num, by rw [HC.out], HM2.out, HB⟩, by simp [intOf]; omega⟩
      · have hlk := hM.ok_none (x := j) (by omega) (Dg.nf_new HE.out hjn hL) true
        simp only [if_true] at hlk
        have HC : Hid (Dg.cnt (Dg.isL n es) (j + 1) = Dg.cnt (Dg.isL n es) j + 1) := Lib.hid (by rw [hcs, hL]; rfl)
        have HL1 := Lib.hid hL
        have CD := Lib.hid (fun W h => dDists_any n es j nv W HE.out hjn hn he h)
        have CB := Lib.hid (fun W h => dDists_any n (Dg.rv es) j bv W (Dg.rv_ok HE.out) hjn hn (by rw [Dg.rv_len]; omega) h)
        clear hM hL hcs
        go_wp2_with fail
        refine (CD.out _ (HN.out.step HB.out)).mono ?_
        rintro e w5 ⟨tv, rfl, hs5, hb⟩
        have HB5 := Lib.hid (below_nxt HB.out hb)
        have HM5 := Lib.hid (HM.out.step hb)
        have HT5 := Lib.hid hs5
        clear hb hs5 hlk
        go_wp2_with fail
        refine (CB.out _ (HSb.out.step HB5.out)).mono ?_
        rintro e w6 ⟨fv, rfl, hs6, hb⟩
        have HB6 := Lib.hid (below_nxt HB5.out hb)
        have HM6 := Lib.hid (HM5.out.step hb)
        have HT6 := HT5.out.step hb
        obtain ⟨ta, tc, rfl, ht1, ht2, hCt⟩ := HT6.opened
        obtain ⟨fa, fc, rfl, hf1, hf2, hCf⟩ := hs6.opened
        simp only [Dg.distL_len] at ht1 hf1 ⊢
        have HCT := Lib.hid hCt
        have HCF := Lib.hid hCf
        have k8 := (HB6.out.cell (p := ⟨w.heap.size, 0, none⟩) hz4).trans HK7.out
        clear hb hs6 HT6 hCt hCf CD CB HM HM5 HB HB5
        have HM0 : Hid (MapI w6 w4.heap.size m (Dg.nf n es j 0)) := HM6
        clear HM6
        go_wp2
        go_loopw [39] (fun s39 wr => ∃ i m2 : Nat, i ≤ n ∧ m2 ≤ j * 16 + i ∧ s39 = .int .i64 i ∧ MapI wr w4.heap.size m2 (Dg.nf n es j i) ∧ Hid (w6.grownBy wr (some w4.heap.size))) (fun s39 _ => n - (intOf s39).toNat)
        case atStart => exact ⟨0, m, Nat.zero_le _, hm, rfl, HM0.out, Lib.hid (grown_refl _ _)⟩
        case round =>
          clear k8
          obtain ⟨i, m2, hi, hm2, rfl, hM, HG⟩ := hrel
          have HMi := Lib.hid hM
          by_cases hin : i < n
          · obtain ⟨tb, to, rfl, ct⟩ := HCT.out.on HM0.out (i := i) (by rw [Dg.distL_len]; exact hin)
            obtain ⟨fb, fo, rfl, cf⟩ := HCF.out.on HM0.out (i := i) (by rw [Dg.distL_len]; exact hin)
            have c1 := ct wr HG.out
            have c2 := cf wr HG.out
            rw [Dg.distL_at hin] at c1 c2
            have hd1 := Dg.dist_ge (n := n) (E := es) (s := j) (v := i)
            have hd2 := Dg.dist_ge (n := n) (E := Dg.rv es) (s := j) (v := i)
            have hmu : Dg.mu n es j i = (decide (0 ≤ Dg.dist n es j i) && decide (0 ≤ Dg.dist n (Dg.rv es) j i)) := rfl
            have HPUT := Lib.hid (fun h y => Dg.nf_put HE.out hjn hin HL1.out h y)
            have HSAME := Lib.hid (fun h y => Dg.nf_same HE.out hjn hin HL1.out h y)
            have hcl2 := Dg.cnt_le_n (Dg.isL n es) j
            clear hM ct cf HCT HCF hcl
            generalize Dg.dist n es j i = d1 at *
            generalize Dg.dist n (Dg.rv es) j i = d2 at *
            by_cases e1 : d1 = -1
            · subst e1
              have HM2 := Lib.hid (HMi.out.congr (fun y _ => HSAME.out (by rw [hmu]; rfl) y))
              clear hmu HPUT HSAME
              go_wp2
              exact ⟨⟨i + 1, m2, by omega, by omega, by first | rfl | go_num, HM2.out, HG⟩, by simp [intOf]; omega⟩
            · by_cases e2 : d2 = -1
              · subst e2
                have HM2 := Lib.hid (HMi.out.congr (fun y _ => HSAME.out (by rw [hmu]; simp) y))
                clear hmu HPUT HSAME
                go_wp2
                exact ⟨⟨i + 1, m2, by omega, by omega, by first | rfl | go_num, HM2.out, HG⟩, by simp [intOf]; omega⟩
              · have HP := Lib.hid (HPUT.out (by rw [hmu]; simp; omega))
                have hne1 : (d1 != -1) = true := by simp [e1]
                have hne2 : (d2 != -1) = true := by simp [e2]
                clear hmu HPUT HSAME
                go_wp2_with (at_mapUpdate; refine wpList_put rfl _ _ _ rfl w4.heap.size m2 _ i (Dg.cnt (Dg.isL n es) j) rfl HMi.out (by omega) _ _ rfl rfl rfl rfl (by omega) (by omega) ?_; intro w7 hM7 hg7; have HM7 := Lib.hid (hM7.congr (fun y _ => HP.out y)); have HG7 := Lib.hid (grown_trans HG.out hg7); clear hM7 hg7)
                exact ⟨⟨i + 1, m2 + 1, by omega, by omega, by first | rfl | go_num, HM7.out, HG7⟩, by simp [intOf]; omega⟩
          · obtain rfl : n = i := by omega
            have HM2 := Lib.hid (HMi.out.congr (fun y _ => Dg.nf_all n es j y))
            have HB2 := Lib.hid (HB6.out.grown HG.out HB6.out.size (fun k hk => by cases hk; exact Nat.le_refl _))
            have hcl2 := Dg.cnt_le_n (Dg.isL n es) j
            clear hM
            go_wp2
            exact ⟨⟨j + 1, m2, by omega, by omega, by first | rfl | go_num, by rw [HC.out]; first | rfl | go_num, HM2.out, HB2⟩, by simp [intOf]; omega⟩
    · obtain rfl : n = j := by omega
      clear hM
      go_wp2
      exact bodyPost_ret (v := .map (some w4.heap.size)) (by simp [results, Try.results58, go_sem]) rfl ⟨_, _, rfl, Nat.le_of_lt hz4, HM.out, HB4.out.trans (HB.out.mono HB4.out.size)⟩
end Go.Proofs.Ytkjhockppkdakaa
