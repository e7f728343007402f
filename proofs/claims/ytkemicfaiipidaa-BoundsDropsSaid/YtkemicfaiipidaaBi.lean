/- The errors of bounds: Check of the reference. -/
import Derived.Test.YtkemicfaiipidaaBh
namespace Go.Proofs.Ytkemicfaiipidaa
open Go.RowKit

set_option maxHeartbeats 4000000 in
set_option maxRecDepth 100000 in
theorem rChk_any (n : Int) (v : Value) (R : List (List Int)) (w : World) (hs : SeesR w v R) :
    Calls Try.prog 28 #[.agg #[.int .i64 n, v]] w fun e w' => e = .returned (.int .i64 (Bn.chk n R)) ∧ Below w.heap.size w w' := by
  have HS := Lib.hid hs
  obtain ⟨ao, cap, rfl, hcap1, hcap2, -⟩ := hs
  obtain ⟨P0, L0⟩ := boxB_new w n (.slice ao R.length cap) 24
  have HL := Lib.hid L0
  obtain ⟨p0, p1, p2⟩ := id P0
  clear L0
  by_cases h1 : Bn.idx 0 12 n = true
  · by_cases h2 : (R.length : Int) = n + 1
    · have hr : Bn.chk n R = if Bn.shpb n.toNat R then Bn.scn n.toNat R else 8 := by unfold Bn.chk; rw [if_pos h1, if_pos h2]
      have hb : 0 ≤ n ∧ n ≤ 12 := by unfold Bn.idx at h1; simpa using h1
      obtain ⟨N, rfl⟩ := Int.eq_ofNat_of_zero_le hb.1
      rw [Int.toNat_natCast] at hr
      have hN : N ≤ 12 := by omega
      have hl : R.length = N + 1 := by omega
      have HNo := Lib.hid (fun i (hi : i < R.length) (h : (R.getD i []).length ≠ N + 1) => show Bn.chk N R = 8 by rw [hr, Bn.shpb_no hi h]; rfl)
      have HYes := Lib.hid (fun (h : ∀ i, i < R.length → (R.getD i []).length = N + 1) => show Bn.chk N R = Bn.scn N R by rw [hr, Bn.shpb_yes h]; rfl)
      clear hr h1 h2 hb
      generalize Bn.chk N R = q at *
      generalize hK : R.length = K at *
      subst hl
      have HK := Lib.hid hK
      clear hK
      have k1 : ¬ (N : Int) < 0 := by omega
      have k2 : ¬ (12 : Int) < (N : Int) := by omega
      go_enter Try.func28, Try.ntmps28
      go_wp2
      go_loopw [3] (fun s3 wr => ∃ i : Nat, i ≤ N + 1 ∧ s3 = .int .i64 (i : Int) ∧ BoxB wr w.heap.size N (.slice ao (N + 1) cap) ∧ Hid (∀ a, a < i → (R.getD a []).length = N + 1) ∧ Hid (Below w.heap.size w wr)) (fun s3 _ => N + 1 - (intOf s3).toNat)
      case atStart => exact ⟨0, Nat.zero_le _, rfl, P0, Lib.hid (fun a h => by omega), HL⟩
      case round =>
        clear P0 HL p0 p1 p2
        obtain ⟨i, hi, rfl, hG, HJ, HB⟩ := hrel
        have HG := Lib.hid hG
        obtain ⟨g0, g1, g2⟩ := hG
        by_cases hil : i < N + 1
        · obtain ⟨b, off, cap', ar, cr, hv, hb, c1, hc1, hc2, -⟩ := HS.out.at HB.out (i := i) (by rw [HK.out]; exact hil)
          simp only [Value.slice.injEq] at hv
          obtain ⟨rfl, -, rfl⟩ := hv
          have HNi := Lib.hid (HNo.out i hil)
          have HJ2 : Hid ((R.getD i []).length = N + 1 → ∀ a, a < i + 1 → (R.getD a []).length = N + 1) := Lib.hid (fun h a ha => by
            by_cases e : a = i
            · rw [e]; exact h
            · exact HJ.out a (by omega))
          have hq : (i : Int) < (N : Int) + 1 := by omega
          clear HNo HYes HJ
          generalize (R.getD i []).length = lr at *
          by_cases hlr : lr = N + 1
          · subst hlr
            have HJ3 := Lib.hid (HJ2.out rfl)
            clear HJ2 HNi
            go_wp2
            go_quiet (fail)
            go_wp2
            exact ⟨⟨i + 1, by omega, rfl, HG.out, HJ3, Lib.hid (HB.out.trans (below_drewN _ _))⟩, by simp [intOf]; omega⟩
          · have HN8 := Lib.hid (HNi.out hlr)
            clear HJ2 HNi
            go_wp2
            go_quiet (fail)
            go_wp2
            all_goals first | exact bodyPost_ret (v := .int .i64 8) (by simp [results, Try.results28, go_sem]) rfl ⟨by rw [HN8.out], HB.out.trans (below_drewN _ _)⟩ | (exfalso; omega)
        · obtain rfl : i = N + 1 := by omega
          have HQ := Lib.hid (HYes.out HJ.out)
          have HLen := HJ
          clear HNo HYes HJ
          rw [show ((N + 1 : Nat) : Int) = (N : Int) + 1 from rfl]
          go_wp2
          go_loopw [4] (fun s4 wr => ∃ i : Nat, i ≤ N + 1 ∧ s4 = .int .i64 (i : Int) ∧ BoxB wr w.heap.size N (.slice ao (N + 1) cap) ∧ Hid (Bn.befE N R i 0) ∧ Hid (Below w.heap.size w wr)) (fun s4 _ => N + 1 - (intOf s4).toNat)
          case atStart => exact ⟨0, Nat.zero_le _, rfl, HG.out, Lib.hid (Bn.befE_zero N R), HB⟩
          case round =>
            clear HG HB g0 g1 g2
            obtain ⟨i, hi, rfl, hG, HJ, HB⟩ := hrel
            have HG := Lib.hid hG
            obtain ⟨g0, g1, g2⟩ := hG
            by_cases hil : i < N + 1
            · obtain ⟨b, off, cap', ar, cr, hv, hb, c0, hc1, hc2, hci⟩ := HS.out.at (Below.refl _ _) (i := i) (by rw [HK.out]; exact hil)
              simp only [Value.slice.injEq] at hv
              obtain ⟨rfl, -, rfl⟩ := hv
              have HC := Lib.hid hci
              have HLi := Lib.hid (HLen.out i hil)
              rw [HLi.out] at c0 hc1
              have HC0 := Lib.hid c0
              clear c0
              have hq : i ≤ N := by omega
              obtain ⟨wo, rfl⟩ : ∃ wo, wo = wr := ⟨_, rfl⟩
              clear hci
              go_wp2
              go_loopw [5] (fun s5 wr => ∃ j : Nat, j ≤ N + 1 ∧ s5 = .int .i64 (j : Int) ∧ BoxB wr w.heap.size N (.slice (some ⟨b, off, none⟩) (N + 1) cap) ∧ Hid (Bn.befE N R i j) ∧ Hid (Below w.heap.size w wr)) (fun s5 _ => N + 1 - (intOf s5).toNat)
              case atStart => exact ⟨0, Nat.zero_le _, rfl, HG.out, HJ, HB⟩
              case round =>
                clear HG HB HJ g0 g1 g2
                obtain ⟨j, hj, rfl, hG, HJ, HB⟩ := hrel
                have HG := Lib.hid hG
                obtain ⟨g0, g1, g2⟩ := hG
                by_cases hjl : j < N + 1
                · obtain ⟨d, o2, rfl, hd, c2⟩ := HC.out.at HB.out (i := j) (by rw [HLi.out]; exact hjl)
                  have c1 := (HB.out.cell (p := ⟨b, off + i, none⟩) hb).trans HC0.out
                  have c3 : wr.cell? ⟨d, o2 + j, none⟩ = some (.int .i64 (Bn.mx R i j)) := c2
                  have HJ2 := Lib.hid (Bn.befE_next HJ.out)
                  have HStop := Lib.hid (fun h => HQ.out.trans (Bn.scn_stop HJ.out (show i ≤ N by omega) (show j ≤ N by omega) h))
                  have CB := fun W => Lib.hid (rIn_any (Bn.mx R i j) W)
                  clear c2 HQ
                  unfold Bn.cellE Bn.isB at HJ2 HStop
                  generalize Bn.mx R i j = x at *
                  generalize Bn.num x = bb at *
                  by_cases hn : x = -1099511627776
                  · subst hn
                    simp only [beq_self_eq_true, Bool.true_or, if_true] at HJ2 HStop
                    by_cases hij : i = j
                    · subst hij
                      have HS3 : Hid (q = 3) := Lib.hid ((HStop.out (by simp)).trans (by simp))
                      clear HStop HJ2
                      go_wp2
                      exact bodyPost_ret (v := .int .i64 3) (by simp [results, Try.results28, go_sem]) rfl ⟨by rw [HS3.out], HB.out⟩
                    · have hij' : ¬ ((i : Int) = (j : Int)) := by omega
                      have HJ3 := Lib.hid (HJ2.out (by simp [hij]))
                      clear HStop HJ2
                      go_wp2
                      exact ⟨⟨j + 1, by omega, rfl, HG.out, HJ3, HB⟩, by simp [intOf]; omega⟩
                  · have hnb : (x == -1099511627776) = false := by simpa using hn
                    rw [hnb] at HJ2 HStop
                    simp only [Bool.false_or] at HJ2 HStop
                    clear hnb
                    cases bb
                    · go_wp2_with (go_at_call 41; refine ((CB _).out).mono ?_; rintro e w1 ⟨rfl, rfl⟩)
                      exact bodyPost_ret (v := .int .i64 2) (by simp [results, Try.results28, go_sem]) rfl ⟨by rw [HStop.out (by simp)]; rfl, HB.out⟩
                    · by_cases hx : i = j ∧ x ≠ 0
                      · obtain ⟨rfl, hx⟩ := hx
                        go_wp2_with (go_at_call 41; refine ((CB _).out).mono ?_; rintro e w1 ⟨rfl, rfl⟩)
                        exact bodyPost_ret (v := .int .i64 3) (by simp [results, Try.results28, go_sem]) rfl ⟨by rw [HStop.out (by simp [hx])]; simp [hx], HB.out⟩
                      · have HJ3 := Lib.hid (HJ2.out (by rw [if_pos rfl, if_neg hx]))
                        have hx' : (i : Int) = (j : Int) → x = 0 := fun e => by grind
                        clear hx HStop HJ2
                        by_cases hij : i = j
                        · subst hij
                          obtain rfl := hx' rfl
                          clear hx'
                          go_wp2_with (go_at_call 41; refine ((CB _).out).mono ?_; rintro e w1 ⟨rfl, rfl⟩)
                          exact ⟨⟨i + 1, by omega, rfl, HG.out, HJ3, HB⟩, by simp [intOf]; omega⟩
                        · have hij' : ¬ ((i : Int) = (j : Int)) := by omega
                          clear hx'
                          go_wp2_with (go_at_call 41; refine ((CB _).out).mono ?_; rintro e w1 ⟨rfl, rfl⟩)
                          exact ⟨⟨j + 1, by omega, rfl, HG.out, HJ3, HB⟩, by simp [intOf]; omega⟩
                · obtain rfl : j = N + 1 := by omega
                  have HJ2 := Lib.hid (Bn.befE_row HJ.out)
                  clear HJ HQ
                  go_wp2
                  exact ⟨⟨i + 1, by omega, rfl, HG.out, HJ2, HB⟩, by simp [intOf]; omega⟩
            · obtain rfl : i = N + 1 := by omega
              have HR := Lib.hid (HQ.out.trans (Bn.scn_all HJ.out))
              clear HQ HJ
              go_wp2
              exact bodyPost_ret (v := .int .i64 0) (by simp [results, Try.results28, go_sem]) rfl ⟨by rw [HR.out], HB.out⟩
    · have hr : Bn.chk n R = 8 := by unfold Bn.chk; rw [if_pos h1, if_neg h2]
      rw [hr]
      have hb : 0 ≤ n ∧ n ≤ 12 := by unfold Bn.idx at h1; simpa using h1
      obtain ⟨hb1, hb2⟩ := hb
      clear hr h1
      go_enter Try.func28, Try.ntmps28
      go_wp2
      all_goals first | (go_ret; exact ⟨rfl, HL.out⟩) | (exfalso; grind)
  · have hr : Bn.chk n R = 2 := by unfold Bn.chk; rw [if_neg h1]
    rw [hr]
    have h1' : Bn.idx 0 12 n = false := by simpa using h1
    clear hr h1
    go_enter Try.func28, Try.ntmps28
    go_wp2
    all_goals first | (go_ret; exact ⟨rfl, HL.out⟩) | (exfalso; unfold Bn.idx at h1'; grind)
end Go.Proofs.Ytkemicfaiipidaa

