/- The contracts of the reference's Check and num. -/
import Derived.Test.YtfphnoihkcnleaaGreatDoorRi
namespace Go.Proofs.YtfphnoihkcnleaaGreatDoor
open Go.RowKit

theorem bareB_le (s : ByteArray) : (bareB s).size ≤ s.size := by
  have h1 : (bareB s).size = (Fr.bare s.data.toList).length := bareB_size s
  have h2 : (Fr.bare s.data.toList).length ≤ s.data.toList.length := by
    cases s.data.toList with
    | nil => exact Nat.le_refl _
    | cons c l => simp only [Fr.bare]; split <;> simp
  have h3 : s.data.toList.length = s.size := rfl
  omega
theorem short_bare {s : ByteArray} (h : Fr.isLong s.data.toList = false) : (bareB s).size ≤ 60 := by
  unfold Fr.isLong at h
  have h1 := of_decide_eq_false h
  rw [bareB_size]; omega
theorem long_one (w : World) : IsNat .i64 1000000 (w.alloc (.cells #[.int .i64 1] 3)) (.slice (some ⟨w.heap.size, 0, none⟩) 1 1) 1 1 :=
  ⟨[1], (Row.one 0 _ _ _ (Nat.zero_le _) 1 _ rfl).sees, ⟨fun x hx => by rw [List.mem_singleton.1 hx]; omega, fun _ => by decide⟩, rfl, Nat.le_refl _⟩

theorem den_more {l : List UInt8} (h : Fr.isInt l = true) (hn : Fr.isNeg l = false) (h0 : l ≠ [48]) (h1 : l ≠ [49]) : 1 < Fr.dv l := by
  have h2 := Fr.isInt_render h
  rw [Fr.bare_of_not hn] at h2
  rcases Nat.lt_or_ge 1 (Fr.dv l) with h3 | h3
  · exact h3
  · exfalso
    rcases (show Fr.dv l = 0 ∨ Fr.dv l = 1 by omega) with h4 | h4
    · rw [h4] at h2; exact h0 h2.symm
    · rw [h4] at h2; exact h1 (h2.symm.trans (by decide))

set_option maxRecDepth 100000 in
set_option maxHeartbeats 1000000 in
theorem rCheck_rest (s : ByteArray) (w : World) (hs : s.size ≤ 800) (h1 : chkI (numB s).data.toList = 0) (h2 : chkI (denB s).data.toList = 0) (hc : (Fr.cut s.data.toList).2.isSome = true)
    (hd : Fr.isNeg (Fr.denT s.data.toList) = false) (hd0 : Fr.denT s.data.toList ≠ [48]) (hd1 : Fr.denT s.data.toList ≠ [49]) :
    Calls Tryz.prog 20 #[.string s] w fun e w' => e = .returned (.int .i64 (Fr.chk s.data.toList)) ∧ Below w.heap.size w w' := by
  have n1 := numB_size s
  have n2 := denB_size s
  have hden : Den s.data.toList := ⟨(chkI_zero h2).1, (chkI_zero h2).2, hc⟩
  have hpos := hden.pos
  have CS := Lib.hid (rSplit_any s w (by omega))
  have CN := Lib.hid (rinteger_lit h1 (by omega))
  have CD := Lib.hid (rinteger_lit h2 (by omega))
  have CL := Lib.hid (rslash_yes (by omega) hc)
  have CB := Lib.hid (rbare_any (numB s))
  have hm := den_more hden.int hd hd0 hd1
  have l1 := short_bare (s := numB s) (chkI_zero h1).2
  have l2 : (denB s).size ≤ 60 := by
    have h3 := short_bare (s := denB s) (chkI_zero h2).2
    have h4 : (bareB (denB s)).size = (Fr.bare (Fr.denT s.data.toList)).length := bareB_size (denB s)
    rw [Fr.bare_of_not hd] at h4
    have h5 : (denB s).size = (Fr.denT s.data.toList).length := rfl
    omega
  have k1 : (bareB (numB s)).data.toList.all Fr.isDig = true := Fr.isInt_all (chkI_zero h1).1
  have k2 : (denB s).data.toList.all Fr.isDig = true := by
    have h3 := Fr.isInt_all hden.int
    rw [Fr.bare_of_not hd] at h3
    exact h3
  have CR := fun W => Lib.hid (rread_own (bareB (numB s)) W (by omega) k1)
  have CQ := fun W => Lib.hid (rread_own (denB s) W (by omega) k2)
  have hv1 : Fr.dv (bareB (numB s)).data.toList = Fr.dv (Fr.bare (Fr.numT s.data.toList)) := rfl
  have hv2 : Fr.dv (denB s).data.toList = Fr.dv (Fr.denT s.data.toList) := rfl
  rw [hv1] at CR
  rw [hv2] at CQ
  have e0 : Fr.chk s.data.toList = if Nat.gcd (Fr.dv (Fr.bare (Fr.numT s.data.toList))) (Fr.dv (Fr.denT s.data.toList)) = 1 then 0 else 3 := by
    rw [chk_end h1 h2]
    unfold badEnd
    rw [hd, hc]
    have : decide (Fr.dv (Fr.denT s.data.toList) ≤ 1) = false := decide_eq_false (by omega)
    rw [this]
    by_cases hg : Nat.gcd (Fr.dv (Fr.bare (Fr.numT s.data.toList))) (Fr.dv (Fr.denT s.data.toList)) = 1
    · rw [if_pos hg, hg]; rfl
    · rw [if_neg hg]; simp [hg]
  rw [e0]
  have hf := first_neg hpos
  have hdl : (denB s).data.toList = Fr.denT s.data.toList := rfl
  rw [hdl, hd] at hf
  have htl : (denB s).toList = Fr.denT s.data.toList := by rw [ByteArray.toList_eq]; rfl
  have f1 : ¬ (((denB s)[0]'hpos).toNat : Int) = 45 := by
    rcases hf with hf | hf
    · cases hf.2
    · exact hf.1
  have f2 : ((denB s).toList == [48]) = false := by rw [htl]; simpa using hd0
  have f3 : ((denB s).toList == [49]) = false := by rw [htl]; simpa using hd1
  clear e0 h1 h2 n1 n2 hs hc hd hf hdl htl hden hd0 hd1 k1 k2 hv1 hv2
  obtain ⟨M, hM⟩ : ∃ M, Fr.dv (Fr.bare (Fr.numT s.data.toList)) = M := ⟨_, rfl⟩
  obtain ⟨K, hK⟩ : ∃ K, Fr.dv (Fr.denT s.data.toList) = K := ⟨_, rfl⟩
  rw [hM] at CR ⊢
  rw [hK] at CQ hm ⊢
  clear hM hK
  have hway : ∃ R c : Int, (if Nat.gcd M K = 1 then (0 : Int) else 3) = R ∧ Limb.cmpN (Nat.gcd M K) 1 = c ∧ ((R = 0 ∧ c = 0) ∨ (R = 3 ∧ (c != 0) = true)) := by
    refine ⟨_, _, rfl, rfl, ?_⟩
    by_cases hg : Nat.gcd M K = 1
    · exact .inl ⟨if_pos hg, Limb.cmp_eq hg⟩
    · refine .inr ⟨if_neg hg, ?_⟩
      rw [bne_iff_ne]
      intro h
      exact hg ((Limb.cmp_eq_zero _ _).1 h)
  obtain ⟨R, c, hR, hc, hway⟩ := hway
  rw [hR]
  have HC := Lib.hid hc
  clear hR hc
  generalize bareB (numB s) = ab at *
  generalize numB s = a at *
  generalize denB s = b at *
  rcases hway with ⟨rfl, rfl⟩ | ⟨rfl, hc0⟩
  all_goals
    go_enter Tryz.func20, Tryz.ntmps20
    go_wp2_with (first
      | (go_at_call 50; refine (CS.out).mono ?_; rintro e w' ⟨rfl, n0, rfl⟩)
      | (go_at_call 56; (with_reducible refine (CN.out _).mono ?_); rintro e w' ⟨rfl, rfl⟩)
      | (go_at_call 56; (with_reducible refine (CD.out _).mono ?_); rintro e w' ⟨rfl, rfl⟩)
      | (go_at_call 57; refine (CL.out _).mono ?_; rintro e w' ⟨r, rfl, rfl, hr⟩)
      | (go_at_call 55; refine (CB.out _).mono ?_; rintro e w' ⟨rfl, rfl⟩))
    refine ((CR _).out).mono ?_
    rintro e w1 ⟨r1, rfl, hb1, hr1, _⟩
    go_wp2_with fail
    refine ((CQ _).out).mono ?_
    rintro e w2 ⟨r2, rfl, hb2, hr2, _⟩
    have H1 := (hr1.below hb2 (Nat.le_refl _)).up (show ab.size / 6 + 1 ≤ 20 by omega)
    have H2 := hr2.up (show b.size / 6 + 1 ≤ 20 by omega)
    have hB2 := hb1.trans (hb2.mono hb1.size)
    clear hr1 hr2 hb2 hb1 CR CQ CS CN CD CL CB
    go_wp2_with fail
    refine (rshared_any _ _ M K 20 _ H1 H2 (by omega)).mono ?_
    rintro e w3 ⟨r3, rfl, hb3, hr3⟩
    have hB3 := hB2.trans (hb3.mono hB2.size)
    have hA := (Below.refl w3.heap.size w3).alloc (Nat.le_refl _) (.cells #[.int .i64 1] 3)
    have H3 := hr3.below hA (Nat.le_refl _)
    have hB4 := hB3.trans (hA.mono hB3.size)
    obtain ⟨r3a, r3l, r3c, rfl⟩ := hr3.form
    clear hr3 hb3 H1 H2 hA hB2 hB3
    go_wp2_with fail
    refine (rorder_nat H3 (long_one w3) HC.out).mono ?_
    rintro e w5 ⟨rfl, n5, rfl⟩
    go_wp2
    go_ret
    exact ⟨rfl, ((below_drewN w n0).trans hB4).trans (below_drewN _ _)⟩

theorem rCheck_any (s : ByteArray) (w : World) (hs : s.size ≤ 800) :
    Calls Tryz.prog 20 #[.string s] w fun e w' => e = .returned (.int .i64 (Fr.chk s.data.toList)) ∧ Below w.heap.size w w' := by
  have h1 := chkI_three (numB s).data.toList
  have h2 := chkI_three (denB s).data.toList
  obtain ⟨c, hc⟩ : ∃ c, chkI (numB s).data.toList = c := ⟨_, rfl⟩
  obtain ⟨d, hd⟩ : ∃ d, chkI (denB s).data.toList = d := ⟨_, rfl⟩
  by_cases h0 : c = 0 ∧ d = 0
  · obtain ⟨rfl, rfl⟩ := h0
    cases hs0 : (Fr.cut s.data.toList).2.isSome with
    | false => exact rCheck_whole s w hs hc hd hs0
    | true =>
      cases hn : Fr.isNeg (Fr.denT s.data.toList) with
      | true => exact rCheck_neg s w hs hc hd hs0 (.inl hn)
      | false =>
        by_cases e0 : Fr.denT s.data.toList = [48]
        · exact rCheck_neg s w hs hc hd hs0 (.inr ⟨hn, .inl e0⟩)
        · by_cases e1 : Fr.denT s.data.toList = [49]
          · exact rCheck_neg s w hs hc hd hs0 (.inr ⟨hn, .inr e1⟩)
          · exact rCheck_rest s w hs hc hd hs0 hn e0 e1
  · exact rCheck_early s w hs c d hc hd (by rw [hc] at h1; rw [hd] at h2; omega)

end Go.Proofs.YtfphnoihkcnleaaGreatDoor
