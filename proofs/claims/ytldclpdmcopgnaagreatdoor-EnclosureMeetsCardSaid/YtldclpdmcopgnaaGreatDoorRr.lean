/- The contracts of the reference's functions on fractions: Order, Compare, Add, Sub, Mul, Div, Turned, Neg. The contracts of the reference's functions on fractions: Turned, Neg, Floor, Ceil. The contracts of the reference's Ceil, and of the statements FractionRounds and FractionComputes. -/
import Derived.Test.YtldclpdmcopgnaaGreatDoorRo
import Derived.Test.YtldclpdmcopgnaaGreatDoorPn
namespace Go.Proofs.YtldclpdmcopgnaaGreatDoor
open Go.RowKit

theorem RQ.form {w : World} {x : Value} {q : Rat} {p : Nat} (h : RQ w x q p) : ∃ b ua ul uc va vl vc, x = .agg #[.bool b, .slice ua ul uc, .slice va vl vc] := by
  obtain ⟨b, m, n, h1, _⟩ := h
  obtain ⟨ua, ul, uc, va, vl, vc, rfl⟩ := h1.form
  exact ⟨b, ua, ul, uc, va, vl, vc, rfl⟩

set_option maxRecDepth 100000 in
set_option maxHeartbeats 1000000 in
theorem rOrder_any (s t : ByteArray) (w : World) (hs : s.size ≤ 800) (ht : t.size ≤ 800) (h1 : Fr.chk s.data.toList = 0) (h2 : Fr.chk t.data.toList = 0) :
    Calls Tryz.prog 55 #[.string s, .string t] w fun e w' => e = .returned (.int .i64 (Fr.cmpQ (Fr.rat s.data.toList) (Fr.rat t.data.toList))) ∧ Below w.heap.size w w' := by
  have C1 := fun W => Lib.hid (rnum_any s W hs h1)
  have C2 := fun W => Lib.hid (rnum_any t W ht h2)
  rw [← Fr.cmpQ_sub, Rat.sub_eq_add_neg]
  clear h1 h2
  generalize Fr.rat s.data.toList = p at *
  generalize Fr.rat t.data.toList = q at *
  go_enter Tryz.func55, Tryz.ntmps55
  go_wp2_with fail
  refine ((C1 _).out).mono ?_
  rintro e w1 ⟨x, rfl, hb1, hx⟩
  go_wp2_with fail
  refine ((C2 _).out).mono ?_
  rintro e w2 ⟨y, rfl, hb2, hy⟩
  have hB2 := hb1.trans (hb2.mono hb1.size)
  have hx2 := hx.below hb2 (Nat.le_refl _)
  go_wp2_with fail
  refine (rturned_q hy).mono ?_
  rintro e w3 ⟨z, rfl, hb3, hz⟩
  have hB3 := hB2.trans (hb3.mono hB2.size)
  have hx3 := hx2.below hb3 (Nat.le_refl _)
  go_wp2_with fail
  refine (rsum_q hx3 hz (by omega) (by omega)).mono ?_
  rintro e w4 ⟨v, rfl, hb4, b, m, n, hv, hn, hq⟩
  have hB4 := hB3.trans (hb4.mono hB3.size)
  have HQ := Lib.hid (Fr.sgnQ_num b m n hn)
  rw [hq] at HQ
  obtain ⟨u, l, rfl, hu, hl⟩ := hv
  obtain ⟨ul, su, nu, eu, lu⟩ := hu
  obtain ⟨ua, uc, rfl, u1, u2, _⟩ := su.opened
  obtain ⟨la, ll, lc, rfl⟩ := hl.form
  have hB5 := hB4.alloc hB4.size (.cells #[.bool b, .slice ua ul.length uc, .slice la ll lc] 119)
  clear hx hx2 hx3 hy hz hl su hb1 hb2 hb3 hb4 C1 C2
  have hway : (m = 0 ∧ ul.length = 0) ∨ (m ≠ 0 ∧ 0 < ul.length) := by
    have h := Limb.norm_zero (B := 1000000) (by omega) nu
    rw [eu] at h
    by_cases hm : m = 0
    · exact .inl ⟨hm, h.1 hm⟩
    · right
      refine ⟨hm, ?_⟩
      rcases Nat.eq_zero_or_pos ul.length with h9 | h9
      · exact absurd (h.2 h9) hm
      · exact h9
  rcases hway with ⟨hm, hz⟩ | ⟨hm, hz⟩
  · have HR := Lib.hid (show Fr.sgnQ (p + -q) = 0 by rw [HQ.out, if_pos hm])
    have z0 : ((ul.length : Int) == 0) = true := by simp [hz]
    clear hq hm hz eu nu
    go_wp2
    go_ret
    rw [HR.out]
    exact ⟨rfl, hB5⟩
  · have z0 : ((ul.length : Int) == 0) = false := by rw [beq_eq_false_iff_ne]; omega
    cases b with
    | true =>
      have HR := Lib.hid (show Fr.sgnQ (p + -q) = -1 by rw [HQ.out, if_neg hm]; rfl)
      clear hq hm hz eu nu
      go_wp2
      go_ret
      rw [HR.out]
      exact ⟨rfl, hB5⟩
    | false =>
      have HR := Lib.hid (show Fr.sgnQ (p + -q) = 1 by rw [HQ.out, if_neg hm]; rfl)
      clear hq hm hz eu nu
      go_wp2
      go_ret
      rw [HR.out]
      exact ⟨rfl, hB5⟩

set_option maxRecDepth 100000 in
theorem rAdd_any (s t : ByteArray) (w : World) (hs : s.size ≤ 800) (ht : t.size ≤ 800) :
    Calls Tryz.prog 67 #[.string s, .string t] w (OutPost w (bi s.data.toList t.data.toList (Fr.out (Fr.rat s.data.toList + Fr.rat t.data.toList)))) := by
  have CB := Lib.hid (rboth_any s t w hs ht)
  unfold bi
  by_cases h : two s.data.toList t.data.toList = 0
  · rw [if_pos h]
    rw [h] at CB
    obtain ⟨h1, h2⟩ := two_zero h
    have C1 := fun W => Lib.hid (rnum_any s W hs h1)
    have C2 := fun W => Lib.hid (rnum_any t W ht h2)
    clear h h1 h2
    generalize Fr.rat s.data.toList = p at *
    generalize Fr.rat t.data.toList = q at *
    go_enter Tryz.func67, Tryz.ntmps67
    go_wp2_with fail
    refine (CB.out).mono ?_
    rintro e w0 ⟨rfl, hb0⟩
    go_wp2_with fail
    refine ((C1 _).out).mono ?_
    rintro e w1 ⟨x, rfl, hb1, hx⟩
    have hB1 := hb0.trans (hb1.mono hb0.size)
    go_wp2_with fail
    refine ((C2 _).out).mono ?_
    rintro e w2 ⟨y, rfl, hb2, hy⟩
    have hB2 := hB1.trans (hb2.mono hB1.size)
    have hx2 := hx.below hb2 (Nat.le_refl _)
    go_wp2_with fail
    refine (rsum_q hx2 hy (by omega) (by omega)).mono ?_
    rintro e w3 ⟨z, rfl, hb3, hz⟩
    have hB3 := hB2.trans (hb3.mono hB2.size)
    go_wp2_with fail
    refine (rmade_q hz (by omega) (by omega)).mono ?_
    rintro e w4 ⟨rfl, hb4⟩
    go_wp2
    go_ret2
    exact ⟨rfl, hB3.trans (hb4.mono hB3.size)⟩
  · rw [if_neg h]
    have hne : (two s.data.toList t.data.toList != 0) = true := by simpa using h
    clear h
    generalize two s.data.toList t.data.toList = c at *
    go_enter Tryz.func67, Tryz.ntmps67
    go_wp2_with (go_at_call 100; refine (CB.out).mono ?_; rintro e w1 ⟨rfl, hb1⟩)
    go_ret2
    exact ⟨rfl, hb1⟩

set_option maxRecDepth 100000 in
theorem rSub_any (s t : ByteArray) (w : World) (hs : s.size ≤ 800) (ht : t.size ≤ 800) :
    Calls Tryz.prog 70 #[.string s, .string t] w (OutPost w (bi s.data.toList t.data.toList (Fr.out (Fr.rat s.data.toList - Fr.rat t.data.toList)))) := by
  have CB := Lib.hid (rboth_any s t w hs ht)
  rw [Rat.sub_eq_add_neg]
  unfold bi
  by_cases h : two s.data.toList t.data.toList = 0
  · rw [if_pos h]
    rw [h] at CB
    obtain ⟨h1, h2⟩ := two_zero h
    have C1 := fun W => Lib.hid (rnum_any s W hs h1)
    have C2 := fun W => Lib.hid (rnum_any t W ht h2)
    clear h h1 h2
    generalize Fr.rat s.data.toList = p at *
    generalize Fr.rat t.data.toList = q at *
    go_enter Tryz.func70, Tryz.ntmps70
    go_wp2_with fail
    refine (CB.out).mono ?_
    rintro e w0 ⟨rfl, hb0⟩
    go_wp2_with fail
    refine ((C1 _).out).mono ?_
    rintro e w1 ⟨x, rfl, hb1, hx⟩
    have hB1 := hb0.trans (hb1.mono hb0.size)
    go_wp2_with fail
    refine ((C2 _).out).mono ?_
    rintro e w2 ⟨y, rfl, hb2, hy⟩
    have hB2 := hB1.trans (hb2.mono hB1.size)
    have hx2 := hx.below hb2 (Nat.le_refl _)
    go_wp2_with fail
    refine (rturned_q hy).mono ?_
    rintro e w5 ⟨y5, rfl, hb5, hy5⟩
    have hB5 := hB2.trans (hb5.mono hB2.size)
    have hx5 := hx2.below hb5 (Nat.le_refl _)
    go_wp2_with fail
    refine (rsum_q hx5 hy5 (by omega) (by omega)).mono ?_
    rintro e w3 ⟨z, rfl, hb3, hz⟩
    have hB3 := hB5.trans (hb3.mono hB5.size)
    go_wp2_with fail
    refine (rmade_q hz (by omega) (by omega)).mono ?_
    rintro e w4 ⟨rfl, hb4⟩
    go_wp2
    go_ret2
    exact ⟨rfl, hB3.trans (hb4.mono hB3.size)⟩
  · rw [if_neg h]
    have hne : (two s.data.toList t.data.toList != 0) = true := by simpa using h
    clear h
    generalize two s.data.toList t.data.toList = c at *
    go_enter Tryz.func70, Tryz.ntmps70
    go_wp2_with (go_at_call 100; refine (CB.out).mono ?_; rintro e w1 ⟨rfl, hb1⟩)
    go_ret2
    exact ⟨rfl, hb1⟩

set_option maxRecDepth 100000 in
theorem rMul_any (s t : ByteArray) (w : World) (hs : s.size ≤ 800) (ht : t.size ≤ 800) :
    Calls Tryz.prog 80 #[.string s, .string t] w (OutPost w (bi s.data.toList t.data.toList (Fr.out (Fr.rat s.data.toList * Fr.rat t.data.toList)))) := by
  have CB := Lib.hid (rboth_any s t w hs ht)
  unfold bi
  by_cases h : two s.data.toList t.data.toList = 0
  · rw [if_pos h]
    rw [h] at CB
    obtain ⟨h1, h2⟩ := two_zero h
    have C1 := fun W => Lib.hid (rnum_any s W hs h1)
    have C2 := fun W => Lib.hid (rnum_any t W ht h2)
    clear h h1 h2
    generalize Fr.rat s.data.toList = p at *
    generalize Fr.rat t.data.toList = q at *
    go_enter Tryz.func80, Tryz.ntmps80
    go_wp2_with fail
    refine (CB.out).mono ?_
    rintro e w0 ⟨rfl, hb0⟩
    go_wp2_with fail
    refine ((C1 _).out).mono ?_
    rintro e w1 ⟨x, rfl, hb1, hx⟩
    have hB1 := hb0.trans (hb1.mono hb0.size)
    go_wp2_with fail
    refine ((C2 _).out).mono ?_
    rintro e w2 ⟨y, rfl, hb2, hy⟩
    have hB2 := hB1.trans (hb2.mono hB1.size)
    have hx2 := hx.below hb2 (Nat.le_refl _)
    go_wp2_with fail
    refine (rproduct_q hx2 hy (by omega) (by omega)).mono ?_
    rintro e w3 ⟨z, rfl, hb3, hz⟩
    have hB3 := hB2.trans (hb3.mono hB2.size)
    go_wp2_with fail
    refine (rmade_q hz (by omega) (by omega)).mono ?_
    rintro e w4 ⟨rfl, hb4⟩
    go_wp2
    go_ret2
    exact ⟨rfl, hB3.trans (hb4.mono hB3.size)⟩
  · rw [if_neg h]
    have hne : (two s.data.toList t.data.toList != 0) = true := by simpa using h
    clear h
    generalize two s.data.toList t.data.toList = c at *
    go_enter Tryz.func80, Tryz.ntmps80
    go_wp2_with (go_at_call 100; refine (CB.out).mono ?_; rintro e w1 ⟨rfl, hb1⟩)
    go_ret2
    exact ⟨rfl, hb1⟩

set_option maxRecDepth 100000 in
theorem rDiv_any (s t : ByteArray) (w : World) (hs : s.size ≤ 800) (ht : t.size ≤ 800) :
    Calls Tryz.prog 105 #[.string s, .string t] w (OutPost w (bi s.data.toList t.data.toList (divV (Fr.rat s.data.toList) (Fr.rat t.data.toList)))) := by
  have CB := Lib.hid (rboth_any s t w hs ht)
  unfold bi
  by_cases h : two s.data.toList t.data.toList = 0
  · rw [if_pos h]
    rw [h] at CB
    obtain ⟨h1, h2⟩ := two_zero h
    have C1 := fun W => Lib.hid (rnum_any s W hs h1)
    have C2 := fun W => Lib.hid (rnum_any t W ht h2)
    have hzero := Fr.rat_zero_iff h2
    have htl : t.toList = t.data.toList := ByteArray.toList_eq t
    unfold divV
    by_cases hq0 : Fr.rat t.data.toList = 0
    · rw [if_pos hq0]
      have f2 : (t.toList == [48]) = true := by rw [htl, hzero.1 hq0]; rfl
      clear h h1 h2 hzero hq0 htl C1 C2
      go_enter Tryz.func105, Tryz.ntmps105
      go_wp2_with fail
      refine (CB.out).mono ?_
      rintro e w0 ⟨rfl, hb0⟩
      go_wp2
      go_ret2
      exact ⟨rfl, hb0⟩
    · rw [if_neg hq0, Rat.div_def]
      have f2 : (t.toList == [48]) = false := by rw [htl]; simpa using fun e => hq0 (hzero.2 e)
      clear h h1 h2 hzero htl
      generalize Fr.rat s.data.toList = p at *
      generalize Fr.rat t.data.toList = q at *
      have HQ0 := Lib.hid hq0
      clear hq0
      go_enter Tryz.func105, Tryz.ntmps105
      go_wp2_with fail
      refine (CB.out).mono ?_
      rintro e w0 ⟨rfl, hb0⟩
      go_wp2_with fail
      refine ((C1 _).out).mono ?_
      rintro e w1 ⟨x, rfl, hb1, hx⟩
      have hB1 := hb0.trans (hb1.mono hb0.size)
      go_wp2_with fail
      refine ((C2 _).out).mono ?_
      rintro e w2 ⟨y, rfl, hb2, hy⟩
      have hB2 := hB1.trans (hb2.mono hB1.size)
      have hx2 := hx.below hb2 (Nat.le_refl _)
      go_wp2_with fail
      refine (rupside_q hy HQ0.out).mono ?_
      rintro e w5 ⟨y5, rfl, hb5, hy5⟩
      have hB5 := hB2.trans (hb5.mono hB2.size)
      have hx5 := hx2.below hb5 (Nat.le_refl _)
      go_wp2_with fail
      refine (rproduct_q hx5 hy5 (by omega) (by omega)).mono ?_
      rintro e w3 ⟨z, rfl, hb3, hz⟩
      have hB3 := hB5.trans (hb3.mono hB5.size)
      go_wp2_with fail
      refine (rmade_q hz (by omega) (by omega)).mono ?_
      rintro e w4 ⟨rfl, hb4⟩
      go_wp2
      go_ret2
      exact ⟨rfl, hB3.trans (hb4.mono hB3.size)⟩
  · rw [if_neg h]
    have hne : (two s.data.toList t.data.toList != 0) = true := by simpa using h
    clear h
    generalize two s.data.toList t.data.toList = c at *
    go_enter Tryz.func105, Tryz.ntmps105
    go_wp2_with (go_at_call 100; refine (CB.out).mono ?_; rintro e w1 ⟨rfl, hb1⟩)
    go_ret2
    exact ⟨rfl, hb1⟩

end Go.Proofs.YtldclpdmcopgnaaGreatDoor

namespace Fr
open Limb
theorem fits_neg {q : Rat} (h : fits q = true) : fits (-q) = true := by
  unfold fits at h ⊢
  show (decide ((-q.num).natAbs < 10 ^ 60) && decide (q.den < 10 ^ 60)) = true
  rw [Int.natAbs_neg]
  exact h
theorem floor_less (q : Rat) : q.floor.natAbs ≤ q.num.natAbs := by
  have h1 := num_floor (decide (q.num < 0)) q.num.natAbs q.den q.den_pos
  have h2 : num (decide (q.num < 0)) q.num.natAbs q.den = q := by
    unfold num
    have : sg (decide (q.num < 0)) q.num.natAbs = q.num := by
      unfold sg
      by_cases hz : q.num < 0
      · rw [if_pos (by simpa using hz)]; omega
      · rw [if_neg (by simpa using hz)]; omega
    rw [this, Rat.mkRat_self]
  rw [h2] at h1
  rw [h1, sg_natAbs]
  have hd := q.den_pos
  generalize q.num.natAbs = m at *
  generalize q.den = n at *
  split
  · rename_i hc
    have h3 := Nat.div_add_mod m n
    have h4 := Nat.mod_lt m hd
    have h5 : 1 * (m / n) ≤ n * (m / n) := Nat.mul_le_mul_right _ hd
    omega
  · exact Nat.div_le_self _ _
theorem fits_floor {q : Rat} (h : fits q = true) : fits ((q.floor : Int) : Rat) = true := by
  unfold fits at h ⊢
  simp only [Bool.and_eq_true, decide_eq_true_eq] at h ⊢
  refine ⟨Nat.lt_of_le_of_lt (floor_less q) h.1, ?_⟩
  show 1 < 10 ^ 60
  exact Nat.one_lt_pow (by omega) (by omega)
end Fr
namespace Go.Proofs.YtldclpdmcopgnaaGreatDoor
open Go.RowKit

theorem rTurned_tx (q : Rat) (w : World) (h : Fr.fits q = true) :
    Calls Tryz.prog 79 #[.string (txB q)] w fun e w' => e = .returned (.string (txB (-q))) ∧ Below w.heap.size w w' := by
  have C1 := fun W => Lib.hid (rnum_any (txB q) W (Nat.le_trans (txB_size h) (by omega)) (Fr.chk_text h))
  have e1 : Fr.rat (txB q).data.toList = q := Fr.rat_text q
  have HO := Lib.hid (out_tx (Fr.fits_neg h))
  rw [e1] at C1
  have HT := Lib.hid (show (⟨(Fr.text (-q)).toArray⟩ : ByteArray) = txB (-q) from rfl)
  clear e1 h
  generalize txB q = a at *
  generalize txB (-q) = b at *
  go_enter Tryz.func79, Tryz.ntmps79
  go_wp2_with fail
  refine ((C1 _).out).mono ?_
  rintro e w1 ⟨x, rfl, hb1, hx⟩
  go_wp2_with fail
  refine (rturned_q hx).mono ?_
  rintro e w2 ⟨y, rfl, hb2, hy⟩
  have hB2 := hb1.trans (hb2.mono hb1.size)
  go_wp2_with fail
  refine (rmade_q hy (by omega) (by omega)).mono ?_
  rw [HO.out]
  unfold OutPost
  rw [HT.out]
  rintro e w3 ⟨rfl, hb3⟩
  go_wp2
  go_ret
  exact ⟨rfl, hB2.trans (hb3.mono hB2.size)⟩

end Go.Proofs.YtldclpdmcopgnaaGreatDoor

namespace Go.Proofs.YtldclpdmcopgnaaGreatDoor
open Go.RowKit

end Go.Proofs.YtldclpdmcopgnaaGreatDoor

