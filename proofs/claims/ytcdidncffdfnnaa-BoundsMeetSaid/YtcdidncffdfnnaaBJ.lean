/- Few and Witness of the reference. -/
import Derived.Test.YtcdidncffdfnnaaBI
namespace Go.Proofs.Ytcdidncffdfnnaa
open Go.RowKit
set_option maxHeartbeats 4000000 in
set_option maxRecDepth 100000 in
theorem rWit_any (n : Int) (v : Value) (R : List (List Int)) (w : World) (hs : SeesR w v R) :
    Calls Try.prog 36 #[.agg #[.int .i64 n, v]] w fun e w' => ∃ u, e = .returned (.tuple #[u, .int .i64 (Bn.witV n R).2]) ∧ SeesI w' u (Bn.witV n R).1 ∧ Below w.heap.size w w' := by
  obtain ⟨i0, hi0, hz0, hz1, hz2⟩ := info_int
  have CC := fun W (h : SeesR W v R) => Lib.hid (rChk_any n v R W h)
  have HS := Lib.hid hs
  obtain ⟨ao, cap, rfl, hcap1, hcap2, -⟩ := hs
  obtain ⟨B0, L0⟩ := boxB_new w n (.slice ao R.length cap) 24
  have HL := Lib.hid L0
  have HB := Lib.hid B0
  have hxv : ∀ q, Bn.cwE n R 0 [] = q → q ≠ 0 → Bn.witV n R = ([], q) := fun q h h2 => by unfold Bn.witV; rw [h, if_neg h2]
  clear L0 B0
  by_cases h1 : Bn.chk n R = 0
  · obtain ⟨N, rfl, hN, hSh, hR⟩ := Bn.chk_ok h1
    have hcix : Bn.cix N R 0 [] = 0 := by unfold Bn.cix; rw [if_pos h1]; simp
    have CPo := fun W (h : SeesR W (.slice ao R.length cap) R) => Lib.hid (rPoss_any N _ R W hSh hR h)
    rw [h1] at CC
    cases hok : Bn.ok N (Bn.mx R) <;> rw [hok] at CPo
    · have hr := hxv 16 (by unfold Bn.cwE; rw [hcix]; simp [hok]) (by decide)
      rw [hr]
      clear hr hxv hcix h1 hok
      go_enter Try.func36, Try.ntmps36
      go_wp2_with (first
        | (go_at_call 19; refine ((CC _ (HS.out.step HL.out)).out).mono ?_; rintro e w1 ⟨rfl, hb1⟩; have HB1 := Lib.hid (below_nxt HL.out hb1); obtain ⟨b0, b1, b2⟩ := HB.out.step hb1; clear hb1)
        | (go_at_call 74; refine ((CPo _ (HS.out.step HB1.out)).out).mono ?_; rintro e w3 ⟨rfl, hb3⟩; have HB3 := Lib.hid (below_nxt HB1.out hb3); clear hb3))
      exact bodyPost_ret (v := .tuple #[.slice none 0 0, .int .i64 16]) (by simp [results, Try.results36, go_sem]) rfl ⟨_, rfl, SeesI.nil _, HB3.out⟩
    · have hr : Bn.witV N R = if Bn.witN N R then (Bn.witT N R N, 0) else ([], 14) := by unfold Bn.witV; rw [if_pos (by unfold Bn.cwE; rw [hcix]; simp [hok])]; simp
      have CP := fun W (h : SeesR W (.slice ao R.length cap) R) => Lib.hid (rPaths_any N _ R W hSh hR h)
      have HE := Lib.hid (fun k (hk : k ≤ N) => Bn.pr_cl hR hok hk (Nat.zero_le N))
      have HB2 := Lib.hid (fun k (hk : k ≤ N) => Bn.bd_pr hR (r := N + 1) (by omega) hk (Nat.zero_le N))
      have HNo := Lib.hid (fun k (hk : k < N) (h : Bn.cl N R (k + 1) 0 = -1099511627776) => show Bn.witV N R = ([], 14) by
        rw [hr, if_neg]
        unfold Bn.witN
        intro g
        have := List.all_eq_true.1 g k (List.mem_range.2 (by simpa using hk))
        rw [h] at this; simp at this)
      have HYes := Lib.hid (fun (h : ∀ k, k < N → Bn.cl N R (k + 1) 0 ≠ -1099511627776) => show Bn.witV N R = (Bn.witT N R N, 0) by
        rw [hr, if_pos]
        unfold Bn.witN
        rw [List.all_eq_true]
        intro k hk
        have := h k (by simpa using List.mem_range.1 hk)
        simpa using this)
      clear hr hxv hcix h1 hok hSh hR
      generalize Bn.witV N R = q at *
      generalize Bn.pr N (Bn.mx R) (N + 1) = P at *
      go_enter Try.func36, Try.ntmps36
      go_wp2_with (first
        | (go_at_call 19; refine ((CC _ (HS.out.step HL.out)).out).mono ?_; rintro e w1 ⟨rfl, hb1⟩; have HB1 := Lib.hid (below_nxt HL.out hb1); have HBx1 := Lib.hid (HB.out.step hb1); obtain ⟨b0, b1, b2⟩ := HBx1.out; clear hb1)
        | (go_at_call 74; refine ((CPo _ (HS.out.step HB1.out)).out).mono ?_; rintro e w3 ⟨rfl, hb3⟩; have HB3 := Lib.hid (below_nxt HB1.out hb3); have HBx3 := Lib.hid (HBx1.out.step hb3); obtain ⟨d0, d1, d2⟩ := HBx3.out; clear hb3))
      refine ((CP _ (HS.out.step HB3.out)).out).mono ?_
      rintro e w4 ⟨v4, rfl, hO, hb4⟩
      obtain ⟨A, cp, f, c, rfl, hc1, hc2, hG⟩ := hO.form
      have HB4 := Lib.hid (below_nxt HB3.out hb4)
      have L4 := (Below.refl w4.heap.size w4).alloc (Nat.le_refl _) (.cells #[.int .i64 (N : Int), .slice (some ⟨A, 0, none⟩) (N + 1) cp] 24)
      have HB5 := Lib.hid (below_nxt HB4.out L4)
      have HG := Lib.hid (hG.step L4)
      have HP := Lib.hid (resI_new w4 (N : Int) (.slice (some ⟨A, 0, none⟩) (N + 1) cp) 24)
      have HBx5 := Lib.hid ((HBx3.out.step hb4).step L4)
      clear hb4 hO hG L4 b0 b1 b2 d0 d1 d2 CP CPo CC
      go_wp2
      generalize w4.alloc (.cells #[.int .i64 (N : Int), .slice (some ⟨A, 0, none⟩) (N + 1) cp] 24) = X at *
      generalize w4.heap.size = pb at *
      go_loopw [6, 7] (fun s6 s7 wr => ∃ k : Nat, k ≤ N ∧ s7 = .int .i64 ((k : Int) + 1) ∧ Hid (RowI X.heap.size 3 wr s6 (Bn.witT N R k)) ∧ Hid (Below X.heap.size X wr) ∧ Hid (∀ a, a < k → Bn.cl N R (a + 1) 0 ≠ -1099511627776)) (fun _ s7 _ => N + 1 - (intOf s7).toNat)
      case atStart => exact ⟨0, Nat.zero_le _, by simp, Lib.hid (RowI.nil _ _ _), Lib.hid (Below.refl _ _), Lib.hid (fun a h => by omega)⟩
      case round =>
        obtain ⟨k, hk, rfl, HR, HBW, HJ⟩ := hrel
        obtain ⟨ra, rc, hrv⟩ := HR.out.form
        rw [Bn.witT_len] at hrv
        subst hrv
        obtain ⟨b0, b1, b2⟩ := HBx5.out.step HBW.out
        obtain ⟨p0, p1, p2, p3, p4⟩ := HP.out.step HBW.out
        have hzw := HBW.out.size
        by_cases hkl : k < N
        · have hq : (k : Int) + 1 ≤ (N : Int) := by omega
          obtain ⟨g1, g2, g3⟩ := (HG.out.step HBW.out).at (show k + 1 < N + 1 by omega) (show 0 < N + 1 by omega)
          have he := HE.out (k + 1) (by omega)
          have hbd := HB2.out (k + 1) (by omega)
          have HS2 := Lib.hid (Bn.witT_succ N R k)
          have HNk := HNo.out k hkl
          have HJ2 : Hid (Bn.cl N R (k + 1) 0 ≠ -1099511627776 → ∀ a, a < k + 1 → Bn.cl N R (a + 1) 0 ≠ -1099511627776) := Lib.hid (fun h a ha => by
            by_cases e : a = k
            · rw [e]; exact h
            · exact HJ.out a (by omega))
          rw [← he] at HNk HJ2 HS2
          have HNk := Lib.hid HNk
          have hll := Bn.witT_len N R k
          have zk : (k : Int) + 1 < (N : Int) + 1 := by omega
          have hk1 : k + 1 < N + 1 := by omega
          clear he HE HB2 HNo HYes HJ
          generalize P (k + 1) 0 = y at *
          by_cases hc : y = -1099511627776
          · have HN2 := Lib.hid (HNk.out hc)
            subst hc
            clear HNk HJ2
            go_wp2
            exact bodyPost_ret (v := .tuple #[.slice none 0 0, .int .i64 14]) (by simp [results, Try.results36, go_sem]) rfl ⟨_, by first | rfl | (rw [HN2.out]; done) | (rw [HN2.out]; rfl), by first | exact SeesI.nil _ | (rw [HN2.out]; exact SeesI.nil _), HB5.out.trans (HBW.out.mono HB5.out.size)⟩
          · have HJ3 := Lib.hid (HJ2.out hc)
            have ho : Bn.opp y = -y := if_neg hc
            rw [ho] at HS2
            have HLen : Hid ((Bn.witT N R k).length + [-y].length ≤ 1048576) := Lib.hid (by rw [hll]; simp; omega)
            have HWT := Lib.hid (fun (o : Obj) => (HR.out.step ((Below.refl _ _).alloc (Nat.le_refl _) o)))
            have HN1 := Lib.hid (SeesI.one wr (-y) 3)
            obtain ⟨hb1, hb2⟩ := hbd
            have HLL := Lib.hid hll
            clear HNk HJ2 ho hll HR
            generalize Bn.witT N R k = l at *
            go_wp2_with (at_builtin; refine wpList_append_int rfl _ _ 25 rfl 3 i0 Try.underlying25 hi0 hz0 hz1 hz2 _ _ l [-y] rfl rfl X.heap.size (HWT.out _) HN1.out HLen.out (by simp; omega) ?_; intro a5 p5 w5 hr5 hg5 ho5; have hb5 := RowI.belowOwn (C := X.heap.size) (HWT.out _) hg5 (by simp; omega) (Nat.le_refl _); have HR5 := Lib.hid hr5; have HB5' := Lib.hid ((HBW.out.alloc hzw _).trans hb5); clear hr5 hg5 ho5 hb5)
            exact ⟨⟨k + 1, by omega, by first | rfl | go_num, by rw [HS2.out]; exact HR5, HB5', HJ3⟩, by simp [intOf]; omega⟩
        · obtain rfl : k = N := by omega
          have HQ := Lib.hid (HYes.out HJ.out)
          have HSe := Lib.hid HR.out.sees
          clear HE HB2 HNo HYes HJ
          go_wp2
          exact bodyPost_ret (v := .tuple #[.slice ra k rc, .int .i64 0]) (by simp [results, Try.results36, go_sem]) rfl ⟨_, by first | rfl | (rw [HQ.out]; done) | (rw [HQ.out]; rfl), by rw [HQ.out]; exact HSe.out, HB5.out.trans (HBW.out.mono HB5.out.size)⟩
  · have hr := hxv (Bn.chk n R) (by unfold Bn.cwE Bn.cix; rw [if_neg h1, if_neg h1]) h1
    rw [hr]
    clear hr hxv
    go_enter Try.func36, Try.ntmps36
    go_wp2_with (go_at_call 19; refine ((CC _ (HS.out.step HL.out)).out).mono ?_; rintro e w1 ⟨rfl, hb1⟩; have HB1 := Lib.hid (below_nxt HL.out hb1); clear hb1)
    exact bodyPost_ret (v := .tuple #[.slice none 0 0, .int .i64 (Bn.chk n R)]) (by simp [results, Try.results36, go_sem]) rfl ⟨_, rfl, SeesI.nil _, HB1.out⟩

set_option maxHeartbeats 4000000 in
set_option maxRecDepth 100000 in
theorem few_any (n : Int) (v : Value) (R : List (List Int)) (w : World) (hs : SeesR w v R) :
    Calls Try.prog 12 #[.agg #[.int .i64 n, v]] w fun e w' => e = .returned (.bool (Bn.few n R)) ∧ Below w.heap.size w w' := by
  have CC := fun W (h : SeesR W v R) => Lib.hid (rChk_any n v R W h)
  have HS := Lib.hid hs
  obtain ⟨ao, cap, rfl, hcap1, hcap2, -⟩ := hs
  obtain ⟨B0, L0⟩ := boxB_new w n (.slice ao R.length cap) 24
  have HL := Lib.hid L0
  have HB := Lib.hid B0
  clear L0 B0
  by_cases h1 : R.length ≤ 50
  · have HNo := Lib.hid (fun i (hi : i < R.length) (h : 50 < (R.getD i []).length) => show Bn.few n R = false by
      have : (R.all fun r => decide (r.length ≤ 50)) = false := by
        rw [List.all_eq_false]
        refine ⟨R[i], List.getElem_mem hi, ?_⟩
        rw [List.getD_eq_getElem?_getD, List.getElem?_eq_getElem hi] at h
        simpa using h
      unfold Bn.few; rw [this]; simp)
    have HYes := Lib.hid (fun (h : ∀ i, i < R.length → (R.getD i []).length ≤ 50) => show Bn.few n R = (decide (n ≤ 5) || decide (Bn.chk n R ≠ 0)) by
      have : (R.all fun r => decide (r.length ≤ 50)) = true := by
        rw [List.all_eq_true]
        intro r hr
        obtain ⟨i, hi, rfl⟩ := List.mem_iff_getElem.1 hr
        have := h i hi
        rw [List.getD_eq_getElem?_getD, List.getElem?_eq_getElem hi] at this
        simpa using this
      unfold Bn.few; rw [this]; simp [h1])
    generalize Bn.few n R = q at *
    go_enter Try.func12, Try.ntmps12
    obtain ⟨x0, x1, x2⟩ := HB.out
    go_wp2_with fail
    clear x0 x1 x2
    go_loopw [3] (fun s3 wr => ∃ i : Nat, i ≤ R.length ∧ s3 = .int .i64 (i : Int) ∧ BoxB wr w.heap.size n (.slice ao R.length cap) ∧ Hid (Below w.heap.size w wr) ∧ Hid (∀ a, a < i → (R.getD a []).length ≤ 50)) (fun s3 _ => R.length - (intOf s3).toNat)
    case atStart => exact ⟨0, Nat.zero_le _, rfl, HB.out, HL, Lib.hid (fun a h => by omega)⟩
    case round =>
      clear HB HL
      obtain ⟨i, hi, rfl, hB, HBW, HJ⟩ := hrel
      have HB := Lib.hid hB
      obtain ⟨x0, x1, x2⟩ := hB
      by_cases hil : i < R.length
      · obtain ⟨b, off, cap', ar, cr, hv, hb, c1, hc1, hc2, -⟩ := HS.out.at HBW.out hil
        simp only [Value.slice.injEq] at hv
        obtain ⟨rfl, -, rfl⟩ := hv
        have HNi := Lib.hid (HNo.out i hil)
        have HJ2 : Hid ((R.getD i []).length ≤ 50 → ∀ a, a < i + 1 → (R.getD a []).length ≤ 50) := Lib.hid (fun h a ha => by
          by_cases e : a = i
          · rw [e]; exact h
          · exact HJ.out a (by omega))
        have hq : (i : Int) < (R.length : Int) := by omega
        clear HNo HYes HJ
        generalize (R.getD i []).length = lr at *
        by_cases hlr : lr ≤ 50
        · have HJ3 := Lib.hid (HJ2.out hlr)
          clear HJ2 HNi
          go_wp2
          all_goals first | exact ⟨⟨i + 1, by omega, by first | rfl | go_num, HB.out, HBW, HJ3⟩, by simp [intOf]; omega⟩ | (exfalso; omega)
        · have HQ := Lib.hid (HNi.out (by omega))
          clear HJ2 HNi
          go_wp2
          all_goals first | exact bodyPost_ret (v := .bool false) (by simp [results, Try.results12, go_sem]) rfl ⟨by rw [HQ.out], HBW.out⟩ | (exfalso; omega)
      · obtain rfl : i = R.length := by omega
        have HQ := Lib.hid (HYes.out HJ.out)
        clear HNo HYes HJ
        by_cases h5 : n ≤ 5
        · have hq : q = true := by rw [HQ.out]; simp [h5]
          go_wp2
          all_goals first | exact bodyPost_ret (v := .bool true) (by simp [results, Try.results12, go_sem]) rfl ⟨by rw [hq], HBW.out⟩ | (exfalso; omega)
        · have hq : q = decide (Bn.chk n R ≠ 0) := by rw [HQ.out]; simp [h5]
          have HQ2 := Lib.hid hq
          clear hq
          go_wp2_with (go_at_call 19; refine ((CC _ (HS.out.step HBW.out)).out).mono ?_; rintro e w1 ⟨rfl, hb1⟩; have HB1 := Lib.hid (below_nxt HBW.out hb1); clear hb1)
          exact bodyPost_ret (v := .bool (Bn.chk n R != 0)) (by simp [results, Try.results12, go_sem]) rfl ⟨ret_bool (by rw [HQ2.out]; by_cases h : Bn.chk n R = 0 <;> simp [h]), HB1.out⟩
  · have hr : Bn.few n R = false := by unfold Bn.few; simp [h1]
    rw [hr]
    go_enter Try.func12, Try.ntmps12
    obtain ⟨x0, x1, x2⟩ := HB.out
    go_wp2
    all_goals first | (go_ret; exact ⟨rfl, HL.out⟩) | (exfalso; omega)
end Go.Proofs.Ytcdidncffdfnnaa
