/- The contracts of the reference's functions on fractions: Order, Compare, Add, Sub, Mul, Div, Turned, Neg. The contracts of the reference's functions on fractions: Turned, Neg, Floor, Ceil. The contracts of the reference's Ceil, and of the statements FractionRounds and FractionComputes. -/
import Derived.Test.YtfphnoihkcnleaaGreatDoorRo
import Derived.Test.YtfphnoihkcnleaaGreatDoorPn
namespace Go.Proofs.YtfphnoihkcnleaaGreatDoor
open Go.RowKit

theorem RQ.form {w : World} {x : Value} {q : Rat} {p : Nat} (h : RQ w x q p) : ∃ b ua ul uc va vl vc, x = .agg #[.bool b, .slice ua ul uc, .slice va vl vc] := by
  obtain ⟨b, m, n, h1, _⟩ := h
  obtain ⟨ua, ul, uc, va, vl, vc, rfl⟩ := h1.form
  exact ⟨b, ua, ul, uc, va, vl, vc, rfl⟩

set_option maxRecDepth 100000 in
set_option maxHeartbeats 1000000 in
theorem rOrder_any (s t : ByteArray) (w : World) (hs : s.size ≤ 800) (ht : t.size ≤ 800) (h1 : Fr.chk s.data.toList = 0) (h2 : Fr.chk t.data.toList = 0) :
    Calls Tryz.prog 74 #[.string s, .string t] w fun e w' => e = .returned (.int .i64 (Fr.cmpQ (Fr.rat s.data.toList) (Fr.rat t.data.toList))) ∧ Below w.heap.size w w' := by
  have C1 := fun W => Lib.hid (rnum_any s W hs h1)
  have C2 := fun W => Lib.hid (rnum_any t W ht h2)
  rw [← Fr.cmpQ_sub, Rat.sub_eq_add_neg]
  clear h1 h2
  generalize Fr.rat s.data.toList = p at *
  generalize Fr.rat t.data.toList = q at *
  go_enter Tryz.func74, Tryz.ntmps74
  go_wp2_with fail
  refine ((C1 _).out).mono ?_
  rintro e w1 ⟨x, rfl, hb1, hx⟩
  go_wp2_with fail
  refine ((C2 _).out).mono ?_
  rintro e w2 ⟨y, rfl, hb2, hy⟩
  have hB2 := hb1.trans (hb2.mono hb1.size)
  have hx2 := hx.below hb2 (Nat.le_refl _)
  go_wp2_with fail
  refine (rturned_q hy).mono ?_
  rintro e w3 ⟨z, rfl, hb3, hz⟩
  have hB3 := hB2.trans (hb3.mono hB2.size)
  have hx3 := hx2.below hb3 (Nat.le_refl _)
  go_wp2_with fail
  refine (rsum_q hx3 hz (by omega) (by omega)).mono ?_
  rintro e w4 ⟨v, rfl, hb4, b, m, n, hv, hn, hq⟩
  have hB4 := hB3.trans (hb4.mono hB3.size)
  have HQ := Lib.hid (Fr.sgnQ_num b m n hn)
  rw [hq] at HQ
  obtain ⟨u, l, rfl, hu, hl⟩ := hv
  obtain ⟨ul, su, nu, eu, lu⟩ := hu
  obtain ⟨ua, uc, rfl, u1, u2, _⟩ := su.opened
  obtain ⟨la, ll, lc, rfl⟩ := hl.form
  have hB5 := hB4.alloc hB4.size (.cells #[.bool b, .slice ua ul.length uc, .slice la ll lc] 93)
  clear hx hx2 hx3 hy hz hl su hb1 hb2 hb3 hb4 C1 C2
  have hway : (m = 0 ∧ ul.length = 0) ∨ (m ≠ 0 ∧ 0 < ul.length) := by
    have h := Limb.norm_zero (B := 1000000) (by omega) nu
    rw [eu] at h
    by_cases hm : m = 0
    · exact .inl ⟨hm, h.1 hm⟩
    · right
      refine ⟨hm, ?_⟩
      rcases Nat.eq_zero_or_pos ul.length with h9 | h9
      · exact absurd (h.2 h9) hm
      · exact h9
  rcases hway with ⟨hm, hz⟩ | ⟨hm, hz⟩
  · have HR := Lib.hid (show Fr.sgnQ (p + -q) = 0 by rw [HQ.out, if_pos hm])
    have z0 : ((ul.length : Int) == 0) = true := by simp [hz]
    clear hq hm hz eu nu
    go_wp2
    go_ret
    rw [HR.out]
    exact ⟨rfl, hB5⟩
  · have z0 : ((ul.length : Int) == 0) = false := by rw [beq_eq_false_iff_ne]; omega
    cases b with
    | true =>
      have HR := Lib.hid (show Fr.sgnQ (p + -q) = -1 by rw [HQ.out, if_neg hm]; rfl)
      clear hq hm hz eu nu
      go_wp2
      go_ret
      rw [HR.out]
      exact ⟨rfl, hB5⟩
    | false =>
      have HR := Lib.hid (show Fr.sgnQ (p + -q) = 1 by rw [HQ.out, if_neg hm]; rfl)
      clear hq hm hz eu nu
      go_wp2
      go_ret
      rw [HR.out]
      exact ⟨rfl, hB5⟩

theorem rCompare_any (s t : ByteArray) (w : World) (hs : s.size ≤ 800) (ht : t.size ≤ 800) :
    Calls Tryz.prog 34 #[.string s, .string t] w fun e w' => e = .returned (.tuple #[.int .i64 (if two s.data.toList t.data.toList = 0 then Fr.cmpQ (Fr.rat s.data.toList) (Fr.rat t.data.toList) else 0), .int .i64 (two s.data.toList t.data.toList)]) ∧ Below w.heap.size w w' := by
  have CB := Lib.hid (rboth_any s t w hs ht)
  by_cases h : two s.data.toList t.data.toList = 0
  · rw [if_pos h, h]
    rw [h] at CB
    obtain ⟨h1, h2⟩ := two_zero h
    have CO := fun W => Lib.hid (rOrder_any s t W hs ht h1 h2)
    clear h h1 h2
    generalize Fr.cmpQ (Fr.rat s.data.toList) (Fr.rat t.data.toList) = c at *
    go_enter Tryz.func34, Tryz.ntmps34
    go_wp2_with (first
      | (go_at_call 65; refine (CB.out).mono ?_; rintro e w1 ⟨rfl, hb1⟩)
      | (go_at_call 74; refine ((CO _).out).mono ?_; rintro e w2 ⟨rfl, hb2⟩))
    go_ret2
    exact ⟨rfl, hb1.trans (hb2.mono hb1.size)⟩
  · rw [if_neg h]
    have hne : (two s.data.toList t.data.toList != 0) = true := by simpa using h
    clear h
    generalize two s.data.toList t.data.toList = c at *
    go_enter Tryz.func34, Tryz.ntmps34
    go_wp2_with (go_at_call 65; refine (CB.out).mono ?_; rintro e w1 ⟨rfl, hb1⟩)
    go_ret2
    exact ⟨rfl, hb1⟩

set_option maxRecDepth 100000 in
theorem rAdd_any (s t : ByteArray) (w : World) (hs : s.size ≤ 800) (ht : t.size ≤ 800) :
    Calls Tryz.prog 26 #[.string s, .string t] w (OutPost w (bi s.data.toList t.data.toList (Fr.out (Fr.rat s.data.toList + Fr.rat t.data.toList)))) := by
  have CB := Lib.hid (rboth_any s t w hs ht)
  unfold bi
  by_cases h : two s.data.toList t.data.toList = 0
  · rw [if_pos h]
    rw [h] at CB
    obtain ⟨h1, h2⟩ := two_zero h
    have C1 := fun W => Lib.hid (rnum_any s W hs h1)
    have C2 := fun W => Lib.hid (rnum_any t W ht h2)
    clear h h1 h2
    generalize Fr.rat s.data.toList = p at *
    generalize Fr.rat t.data.toList = q at *
    go_enter Tryz.func26, Tryz.ntmps26
    go_wp2_with fail
    refine (CB.out).mono ?_
    rintro e w0 ⟨rfl, hb0⟩
    go_wp2_with fail
    refine ((C1 _).out).mono ?_
    rintro e w1 ⟨x, rfl, hb1, hx⟩
    have hB1 := hb0.trans (hb1.mono hb0.size)
    go_wp2_with fail
    refine ((C2 _).out).mono ?_
    rintro e w2 ⟨y, rfl, hb2, hy⟩
    have hB2 := hB1.trans (hb2.mono hB1.size)
    have hx2 := hx.below hb2 (Nat.le_refl _)
    go_wp2_with fail
    refine (rsum_q hx2 hy (by omega) (by omega)).mono ?_
    rintro e w3 ⟨z, rfl, hb3, hz⟩
    have hB3 := hB2.trans (hb3.mono hB2.size)
    go_wp2_with fail
    refine (rmade_q hz (by omega) (by omega)).mono ?_
    rintro e w4 ⟨rfl, hb4⟩
    go_wp2
    go_ret2
    exact ⟨rfl, hB3.trans (hb4.mono hB3.size)⟩
  · rw [if_neg h]
    have hne : (two s.data.toList t.data.toList != 0) = true := by simpa using h
    clear h
    generalize two s.data.toList t.data.toList = c at *
    go_enter Tryz.func26, Tryz.ntmps26
    go_wp2_with (go_at_call 65; refine (CB.out).mono ?_; rintro e w1 ⟨rfl, hb1⟩)
    go_ret2
    exact ⟨rfl, hb1⟩

set_option maxRecDepth 100000 in
theorem rSub_any (s t : ByteArray) (w : World) (hs : s.size ≤ 800) (ht : t.size ≤ 800) :
    Calls Tryz.prog 28 #[.string s, .string t] w (OutPost w (bi s.data.toList t.data.toList (Fr.out (Fr.rat s.data.toList - Fr.rat t.data.toList)))) := by
  have CB := Lib.hid (rboth_any s t w hs ht)
  rw [Rat.sub_eq_add_neg]
  unfold bi
  by_cases h : two s.data.toList t.data.toList = 0
  · rw [if_pos h]
    rw [h] at CB
    obtain ⟨h1, h2⟩ := two_zero h
    have C1 := fun W => Lib.hid (rnum_any s W hs h1)
    have C2 := fun W => Lib.hid (rnum_any t W ht h2)
    clear h h1 h2
    generalize Fr.rat s.data.toList = p at *
    generalize Fr.rat t.data.toList = q at *
    go_enter Tryz.func28, Tryz.ntmps28
    go_wp2_with fail
    refine (CB.out).mono ?_
    rintro e w0 ⟨rfl, hb0⟩
    go_wp2_with fail
    refine ((C1 _).out).mono ?_
    rintro e w1 ⟨x, rfl, hb1, hx⟩
    have hB1 := hb0.trans (hb1.mono hb0.size)
    go_wp2_with fail
    refine ((C2 _).out).mono ?_
    rintro e w2 ⟨y, rfl, hb2, hy⟩
    have hB2 := hB1.trans (hb2.mono hB1.size)
    have hx2 := hx.below hb2 (Nat.le_refl _)
    go_wp2_with fail
    refine (rturned_q hy).mono ?_
    rintro e w5 ⟨y5, rfl, hb5, hy5⟩
    have hB5 := hB2.trans (hb5.mono hB2.size)
    have hx5 := hx2.below hb5 (Nat.le_refl _)
    go_wp2_with fail
    refine (rsum_q hx5 hy5 (by omega) (by omega)).mono ?_
    rintro e w3 ⟨z, rfl, hb3, hz⟩
    have hB3 := hB5.trans (hb3.mono hB5.size)
    go_wp2_with fail
    refine (rmade_q hz (by omega) (by omega)).mono ?_
    rintro e w4 ⟨rfl, hb4⟩
    go_wp2
    go_ret2
    exact ⟨rfl, hB3.trans (hb4.mono hB3.size)⟩
  · rw [if_neg h]
    have hne : (two s.data.toList t.data.toList != 0) = true := by simpa using h
    clear h
    generalize two s.data.toList t.data.toList = c at *
    go_enter Tryz.func28, Tryz.ntmps28
    go_wp2_with (go_at_call 65; refine (CB.out).mono ?_; rintro e w1 ⟨rfl, hb1⟩)
    go_ret2
    exact ⟨rfl, hb1⟩

set_option maxRecDepth 100000 in
theorem rMul_any (s t : ByteArray) (w : World) (hs : s.size ≤ 800) (ht : t.size ≤ 800) :
    Calls Tryz.prog 30 #[.string s, .string t] w (OutPost w (bi s.data.toList t.data.toList (Fr.out (Fr.rat s.data.toList * Fr.rat t.data.toList)))) := by
  have CB := Lib.hid (rboth_any s t w hs ht)
  unfold bi
  by_cases h : two s.data.toList t.data.toList = 0
  · rw [if_pos h]
    rw [h] at CB
    obtain ⟨h1, h2⟩ := two_zero h
    have C1 := fun W => Lib.hid (rnum_any s W hs h1)
    have C2 := fun W => Lib.hid (rnum_any t W ht h2)
    clear h h1 h2
    generalize Fr.rat s.data.toList = p at *
    generalize Fr.rat t.data.toList = q at *
    go_enter Tryz.func30, Tryz.ntmps30
    go_wp2_with fail
    refine (CB.out).mono ?_
    rintro e w0 ⟨rfl, hb0⟩
    go_wp2_with fail
    refine ((C1 _).out).mono ?_
    rintro e w1 ⟨x, rfl, hb1, hx⟩
    have hB1 := hb0.trans (hb1.mono hb0.size)
    go_wp2_with fail
    refine ((C2 _).out).mono ?_
    rintro e w2 ⟨y, rfl, hb2, hy⟩
    have hB2 := hB1.trans (hb2.mono hB1.size)
    have hx2 := hx.below hb2 (Nat.le_refl _)
    go_wp2_with fail
    refine (rproduct_q hx2 hy (by omega) (by omega)).mono ?_
    rintro e w3 ⟨z, rfl, hb3, hz⟩
    have hB3 := hB2.trans (hb3.mono hB2.size)
    go_wp2_with fail
    refine (rmade_q hz (by omega) (by omega)).mono ?_
    rintro e w4 ⟨rfl, hb4⟩
    go_wp2
    go_ret2
    exact ⟨rfl, hB3.trans (hb4.mono hB3.size)⟩
  · rw [if_neg h]
    have hne : (two s.data.toList t.data.toList != 0) = true := by simpa using h
    clear h
    generalize two s.data.toList t.data.toList = c at *
    go_enter Tryz.func30, Tryz.ntmps30
    go_wp2_with (go_at_call 65; refine (CB.out).mono ?_; rintro e w1 ⟨rfl, hb1⟩)
    go_ret2
    exact ⟨rfl, hb1⟩

set_option maxRecDepth 100000 in
theorem rDiv_any (s t : ByteArray) (w : World) (hs : s.size ≤ 800) (ht : t.size ≤ 800) :
    Calls Tryz.prog 32 #[.string s, .string t] w (OutPost w (bi s.data.toList t.data.toList (divV (Fr.rat s.data.toList) (Fr.rat t.data.toList)))) := by
  have CB := Lib.hid (rboth_any s t w hs ht)
  unfold bi
  by_cases h : two s.data.toList t.data.toList = 0
  · rw [if_pos h]
    rw [h] at CB
    obtain ⟨h1, h2⟩ := two_zero h
    have C1 := fun W => Lib.hid (rnum_any s W hs h1)
    have C2 := fun W => Lib.hid (rnum_any t W ht h2)
    have hzero := Fr.rat_zero_iff h2
    have htl : t.toList = t.data.toList := ByteArray.toList_eq t
    unfold divV
    by_cases hq0 : Fr.rat t.data.toList = 0
    · rw [if_pos hq0]
      have f2 : (t.toList == [48]) = true := by rw [htl, hzero.1 hq0]; rfl
      clear h h1 h2 hzero hq0 htl C1 C2
      go_enter Tryz.func32, Tryz.ntmps32
      go_wp2_with fail
      refine (CB.out).mono ?_
      rintro e w0 ⟨rfl, hb0⟩
      go_wp2
      go_ret2
      exact ⟨rfl, hb0⟩
    · rw [if_neg hq0, Rat.div_def]
      have f2 : (t.toList == [48]) = false := by rw [htl]; simpa using fun e => hq0 (hzero.2 e)
      clear h h1 h2 hzero htl
      generalize Fr.rat s.data.toList = p at *
      generalize Fr.rat t.data.toList = q at *
      have HQ0 := Lib.hid hq0
      clear hq0
      go_enter Tryz.func32, Tryz.ntmps32
      go_wp2_with fail
      refine (CB.out).mono ?_
      rintro e w0 ⟨rfl, hb0⟩
      go_wp2_with fail
      refine ((C1 _).out).mono ?_
      rintro e w1 ⟨x, rfl, hb1, hx⟩
      have hB1 := hb0.trans (hb1.mono hb0.size)
      go_wp2_with fail
      refine ((C2 _).out).mono ?_
      rintro e w2 ⟨y, rfl, hb2, hy⟩
      have hB2 := hB1.trans (hb2.mono hB1.size)
      have hx2 := hx.below hb2 (Nat.le_refl _)
      go_wp2_with fail
      refine (rupside_q hy HQ0.out).mono ?_
      rintro e w5 ⟨y5, rfl, hb5, hy5⟩
      have hB5 := hB2.trans (hb5.mono hB2.size)
      have hx5 := hx2.below hb5 (Nat.le_refl _)
      go_wp2_with fail
      refine (rproduct_q hx5 hy5 (by omega) (by omega)).mono ?_
      rintro e w3 ⟨z, rfl, hb3, hz⟩
      have hB3 := hB5.trans (hb3.mono hB5.size)
      go_wp2_with fail
      refine (rmade_q hz (by omega) (by omega)).mono ?_
      rintro e w4 ⟨rfl, hb4⟩
      go_wp2
      go_ret2
      exact ⟨rfl, hB3.trans (hb4.mono hB3.size)⟩
  · rw [if_neg h]
    have hne : (two s.data.toList t.data.toList != 0) = true := by simpa using h
    clear h
    generalize two s.data.toList t.data.toList = c at *
    go_enter Tryz.func32, Tryz.ntmps32
    go_wp2_with (go_at_call 65; refine (CB.out).mono ?_; rintro e w1 ⟨rfl, hb1⟩)
    go_ret2
    exact ⟨rfl, hb1⟩

end Go.Proofs.YtfphnoihkcnleaaGreatDoor

namespace Fr
open Limb
theorem fits_neg {q : Rat} (h : fits q = true) : fits (-q) = true := by
  unfold fits at h ⊢
  show (decide ((-q.num).natAbs < 10 ^ 60) && decide (q.den < 10 ^ 60)) = true
  rw [Int.natAbs_neg]
  exact h
theorem floor_less (q : Rat) : q.floor.natAbs ≤ q.num.natAbs := by
  have h1 := num_floor (decide (q.num < 0)) q.num.natAbs q.den q.den_pos
  have h2 : num (decide (q.num < 0)) q.num.natAbs q.den = q := by
    unfold num
    have : sg (decide (q.num < 0)) q.num.natAbs = q.num := by
      unfold sg
      by_cases hz : q.num < 0
      · rw [if_pos (by simpa using hz)]; omega
      · rw [if_neg (by simpa using hz)]; omega
    rw [this, Rat.mkRat_self]
  rw [h2] at h1
  rw [h1, sg_natAbs]
  have hd := q.den_pos
  generalize q.num.natAbs = m at *
  generalize q.den = n at *
  split
  · rename_i hc
    have h3 := Nat.div_add_mod m n
    have h4 := Nat.mod_lt m hd
    have h5 : 1 * (m / n) ≤ n * (m / n) := Nat.mul_le_mul_right _ hd
    omega
  · exact Nat.div_le_self _ _
theorem fits_floor {q : Rat} (h : fits q = true) : fits ((q.floor : Int) : Rat) = true := by
  unfold fits at h ⊢
  simp only [Bool.and_eq_true, decide_eq_true_eq] at h ⊢
  refine ⟨Nat.lt_of_le_of_lt (floor_less q) h.1, ?_⟩
  show 1 < 10 ^ 60
  exact Nat.one_lt_pow (by omega) (by omega)
end Fr
namespace Go.Proofs.YtfphnoihkcnleaaGreatDoor
open Go.RowKit

theorem rTurned_tx (q : Rat) (w : World) (h : Fr.fits q = true) :
    Calls Tryz.prog 77 #[.string (txB q)] w fun e w' => e = .returned (.string (txB (-q))) ∧ Below w.heap.size w w' := by
  have C1 := fun W => Lib.hid (rnum_any (txB q) W (Nat.le_trans (txB_size h) (by omega)) (Fr.chk_text h))
  have e1 : Fr.rat (txB q).data.toList = q := Fr.rat_text q
  have HO := Lib.hid (out_tx (Fr.fits_neg h))
  rw [e1] at C1
  have HT := Lib.hid (show (⟨(Fr.text (-q)).toArray⟩ : ByteArray) = txB (-q) from rfl)
  clear e1 h
  generalize txB q = a at *
  generalize txB (-q) = b at *
  go_enter Tryz.func77, Tryz.ntmps77
  go_wp2_with fail
  refine ((C1 _).out).mono ?_
  rintro e w1 ⟨x, rfl, hb1, hx⟩
  go_wp2_with fail
  refine (rturned_q hx).mono ?_
  rintro e w2 ⟨y, rfl, hb2, hy⟩
  have hB2 := hb1.trans (hb2.mono hb1.size)
  go_wp2_with fail
  refine (rmade_q hy (by omega) (by omega)).mono ?_
  rw [HO.out]
  unfold OutPost
  rw [HT.out]
  rintro e w3 ⟨rfl, hb3⟩
  go_wp2
  go_ret
  exact ⟨rfl, hB2.trans (hb3.mono hB2.size)⟩

theorem rNeg_any (s : ByteArray) (w : World) (hs : s.size ≤ 800) :
    Calls Tryz.prog 36 #[.string s] w (OutPost w (un s.data.toList (Fr.out (-(Fr.rat s.data.toList))))) := by
  have CC := Lib.hid (rCheck_any s w hs)
  unfold un
  by_cases h : Fr.chk s.data.toList = 0
  · rw [if_pos h, out_tx (Fr.fits_neg (Fr.fits_rat h))]
    rw [h] at CC
    have hf := Fr.fits_rat h
    have e0 := txB_of h
    have HT := Lib.hid (show (⟨(Fr.text (-(Fr.rat s.data.toList))).toArray⟩ : ByteArray) = txB (-(Fr.rat s.data.toList)) from rfl)
    unfold OutPost
    rw [HT.out]
    have CT := fun W => Lib.hid (rTurned_tx _ W hf)
    rw [← e0] at CT
    clear h hf e0 HT
    generalize txB (-(Fr.rat s.data.toList)) = b at *
    go_enter Tryz.func36, Tryz.ntmps36
    go_wp2_with (first
      | (go_at_call 20; refine (CC.out).mono ?_; rintro e w1 ⟨rfl, hb1⟩)
      | (go_at_call 77; refine ((CT _).out).mono ?_; rintro e w2 ⟨rfl, hb2⟩))
    go_ret2
    exact ⟨rfl, hb1.trans (hb2.mono hb1.size)⟩
  · rw [if_neg h]
    have hne : (Fr.chk s.data.toList != 0) = true := by simpa using h
    clear h
    generalize Fr.chk s.data.toList = c at *
    go_enter Tryz.func36, Tryz.ntmps36
    go_wp2_with (go_at_call 20; refine (CC.out).mono ?_; rintro e w1 ⟨rfl, hb1⟩)
    go_ret2
    exact ⟨rfl, hb1⟩

set_option maxRecDepth 100000 in
set_option maxHeartbeats 1000000 in
theorem rFloor_any (s : ByteArray) (w : World) (hs : s.size ≤ 800) :
    Calls Tryz.prog 38 #[.string s] w (OutPost w (un s.data.toList (Fr.out (((Fr.rat s.data.toList).floor : Int) : Rat)))) := by
  have CC := Lib.hid (rCheck_any s w hs)
  unfold un
  by_cases h : Fr.chk s.data.toList = 0
  · rw [if_pos h]
    rw [h] at CC
    have C1 := fun W => Lib.hid (rnum_any s W hs h)
    clear h
    generalize Fr.rat s.data.toList = q at *
    go_enter Tryz.func38, Tryz.ntmps38
    go_wp2_with fail
    refine (CC.out).mono ?_
    rintro e w0 ⟨rfl, hb0⟩
    go_wp2_with fail
    refine ((C1 _).out).mono ?_
    rintro e w1 ⟨x, rfl, hb1, b, m, n, hx, hn, hq⟩
    have hB1 := hb0.trans (hb1.mono hb0.size)
    obtain ⟨u, v, rfl, hu, hv⟩ := hx
    obtain ⟨ua, ul, uc, rfl⟩ := hu.form
    obtain ⟨va, vl, vc, rfl⟩ := hv.form
    have hA := (Below.refl w1.heap.size w1).alloc (Nat.le_refl _) (.cells #[.bool b, .slice ua ul uc, .slice va vl vc] 93)
    have HU := Lib.hid (hu.below hA (Nat.le_refl _))
    have HV := Lib.hid (hv.below hA (Nat.le_refl _))
    have hB2 := hB1.trans (hA.mono hB1.size)
    have HF := Lib.hid (Fr.floor_num b m n hn)
    rw [hq] at HF
    clear hu hv hA hb0 hb1 hB1 C1
    go_wp2_with fail
    refine (rquot_any HU.out HV.out hn (by omega) (by omega)).mono ?_
    rintro e w3 ⟨r, t, rfl, hb3, hr, ht⟩
    have hB3 := hB2.trans (hb3.mono hB2.size)
    have k0 : w3.cell? ⟨w1.heap.size, 0, none⟩ = some (.bool b) := (hb3.cell (p := ⟨w1.heap.size, 0, none⟩) (by simp)).trans (by simp)
    have hs3 : w1.heap.size + 1 ≤ w3.heap.size := by have := hb3.size; simpa using this
    obtain ⟨tl, st, nt, et, lt⟩ := ht
    obtain ⟨ta, tc, rfl, t1, t2, _⟩ := st.opened
    obtain ⟨ra, rl, rc, rfl⟩ := hr.form
    clear hb3 st hq
    by_cases hcase : b = true ∧ 0 < m % n
    · obtain ⟨rfl, hmn⟩ := hcase
      have hpos : 0 < tl.length := by rw [← Limb.norm_pos (B := 1000000) (by omega) nt, et]; exact hmn
      rw [if_pos ⟨rfl, hmn⟩] at HF
      have hA := (Below.refl w3.heap.size w3).alloc (Nat.le_refl _) (.cells #[.int .i64 1] 3)
      have CP := Lib.hid (rplus_nat (hr.below hA (Nat.le_refl _)) (long_one w3) (by omega) (by omega))
      have hB4 := hB3.trans (hA.mono hB3.size)
      clear hr hmn et nt
      go_wp2_with fail
      refine (CP.out).mono ?_
      rintro e w5 ⟨r5, rfl, hb5, hr5, _⟩
      have hB5 := hB4.trans (hb5.mono hB4.size)
      have k5 : w5.cell? ⟨w1.heap.size, 0, none⟩ = some (.bool true) := (hb5.cell (p := ⟨w1.heap.size, 0, none⟩) (by simp; omega)).trans (by simp [World.cell?_alloc_lt, k0, show w1.heap.size < w3.heap.size by omega])
      have hA5 := (Below.refl w5.heap.size w5).alloc (Nat.le_refl _) (.cells #[.int .i64 1] 3)
      have H5 := (hr5.below hA5 (Nat.le_refl _)).up (show 20 + 1 + 1 ≤ 40 by omega)
      obtain ⟨r5a, r5l, r5c, rfl⟩ := hr5.form
      clear hA hr5 hb5 CP
      go_wp2_with fail
      refine (rmade_any _ true (m / n + 1) 1 40 _ ⟨_, _, rfl, H5, (long_one w5).up (by omega)⟩ (by omega) (by omega) (by omega)).mono ?_
      rw [HF.out]
      rintro e w6 ⟨rfl, hb6⟩
      have hB6 := (hB5.trans (hA5.mono hB5.size)).trans (hb6.mono (Nat.le_trans hB5.size hA5.size))
      go_wp2
      go_ret2
      exact ⟨rfl, hB6⟩
    · rw [if_neg hcase] at HF
      have hA5 := (Below.refl w3.heap.size w3).alloc (Nat.le_refl _) (.cells #[.int .i64 1] 3)
      have H5 := (hr.below hA5 (Nat.le_refl _)).up (show 20 ≤ 40 by omega)
      have hway : b = false ∨ (b = true ∧ tl.length = 0) := by
        cases b with
        | false => exact .inl rfl
        | true =>
          right
          refine ⟨rfl, ?_⟩
          rcases Nat.eq_zero_or_pos tl.length with h | h
          · exact h
          · exact absurd ⟨rfl, by rw [← et]; exact (Limb.norm_pos (by omega) nt).2 h⟩ hcase
      clear hr hcase et nt
      rcases hway with rfl | ⟨rfl, hz⟩
      · go_wp2_with fail
        refine (rmade_any _ false (m / n) 1 40 _ ⟨_, _, rfl, H5, (long_one w3).up (by omega)⟩ (by omega) (by omega) (by omega)).mono ?_
        rw [HF.out]
        rintro e w6 ⟨rfl, hb6⟩
        have hB6 := (hB3.trans (hA5.mono hB3.size)).trans (hb6.mono (Nat.le_trans hB3.size hA5.size))
        go_wp2
        go_ret2
        exact ⟨rfl, hB6⟩
      · have hneg : ¬ 0 < tl.length := by omega
        clear hz
        go_wp2_with fail
        refine (rmade_any _ true (m / n) 1 40 _ ⟨_, _, rfl, H5, (long_one w3).up (by omega)⟩ (by omega) (by omega) (by omega)).mono ?_
        rw [HF.out]
        rintro e w6 ⟨rfl, hb6⟩
        have hB6 := (hB3.trans (hA5.mono hB3.size)).trans (hb6.mono (Nat.le_trans hB3.size hA5.size))
        go_wp2
        go_ret2
        exact ⟨rfl, hB6⟩
  · rw [if_neg h]
    have hne : (Fr.chk s.data.toList != 0) = true := by simpa using h
    clear h
    generalize Fr.chk s.data.toList = c at *
    go_enter Tryz.func38, Tryz.ntmps38
    go_wp2_with (go_at_call 20; refine (CC.out).mono ?_; rintro e w1 ⟨rfl, hb1⟩)
    go_ret2
    exact ⟨rfl, hb1⟩

end Go.Proofs.YtfphnoihkcnleaaGreatDoor

namespace Go.Proofs.YtfphnoihkcnleaaGreatDoor
open Go.RowKit

set_option maxRecDepth 100000 in
theorem rCeil_any (s : ByteArray) (w : World) (hs : s.size ≤ 800) :
    Calls Tryz.prog 40 #[.string s] w (OutPost w (un s.data.toList (Fr.out (-(((-(Fr.rat s.data.toList)).floor : Int) : Rat))))) := by
  have CC := Lib.hid (rCheck_any s w hs)
  unfold un
  by_cases h : Fr.chk s.data.toList = 0
  · rw [if_pos h]
    rw [h] at CC
    have hf := Fr.fits_rat h
    have e0 := txB_of h
    have hfn := Fr.fits_neg hf
    have hfl := Fr.fits_floor hfn
    have CT := fun W => Lib.hid (rTurned_tx _ W hf)
    rw [← e0] at CT
    have CF := fun W => Lib.hid (rFloor_any (txB (-(Fr.rat s.data.toList))) W (Nat.le_trans (txB_size hfn) (by omega)))
    unfold un at CF
    rw [txB_list, if_pos (Fr.chk_text hfn), Fr.rat_text, out_tx hfl] at CF
    have CU := fun W => Lib.hid (rTurned_tx _ W hfl)
    rw [out_tx (Fr.fits_neg hfl)]
    have HT := Lib.hid (show (⟨(Fr.text (-(((-(Fr.rat s.data.toList)).floor : Int) : Rat))).toArray⟩ : ByteArray) = txB (-(((-(Fr.rat s.data.toList)).floor : Int) : Rat)) from rfl)
    have HV := Lib.hid (show (⟨(Fr.text (((-(Fr.rat s.data.toList)).floor : Int) : Rat)).toArray⟩ : ByteArray) = txB (((-(Fr.rat s.data.toList)).floor : Int) : Rat) from rfl)
    unfold OutPost at CF ⊢
    simp only [HT.out]
    simp only [HV.out] at CF
    clear h hf e0 hfn hfl HT HV
    generalize txB (-(((-(Fr.rat s.data.toList)).floor : Int) : Rat)) = c at *
    generalize txB (((-(Fr.rat s.data.toList)).floor : Int) : Rat) = b at *
    generalize txB (-(Fr.rat s.data.toList)) = a at *
    go_enter Tryz.func40, Tryz.ntmps40
    go_wp2_with fail
    refine (CC.out).mono ?_
    rintro e w1 ⟨rfl, hb1⟩
    go_wp2_with fail
    refine ((CT _).out).mono ?_
    rintro e w2 ⟨rfl, hb2⟩
    have hB2 := hb1.trans (hb2.mono hb1.size)
    go_wp2_with fail
    refine ((CF _).out).mono ?_
    rintro e w3 ⟨rfl, hb3⟩
    have hB3 := hB2.trans (hb3.mono hB2.size)
    go_wp2_with fail
    refine ((CU _).out).mono ?_
    rintro e w4 ⟨rfl, hb4⟩
    have hB4 := hB3.trans (hb4.mono hB3.size)
    go_wp2
    go_ret2
    exact ⟨rfl, hB4⟩
  · rw [if_neg h]
    have hne : (Fr.chk s.data.toList != 0) = true := by simpa using h
    clear h
    generalize Fr.chk s.data.toList = c at *
    go_enter Tryz.func40, Tryz.ntmps40
    go_wp2_with (go_at_call 20; refine (CC.out).mono ?_; rintro e w1 ⟨rfl, hb1⟩)
    go_ret2
    exact ⟨rfl, hb1⟩

theorem lawRounds_few (s : ByteArray) (w : World) (hst : St w) (hs : s.size ≤ 9223372036854775807) (h : ¬ s.size ≤ 180) :
    Calls Tryz.prog 6 #[.string s] w fun e w' => e = .returned (.bool true) ∧ Below w.heap.size w w' := by
  have CF := Lib.hid (rFew_no s w hs h)
  have CA := Lib.hid (awake_any w hst)
  clear h hst
  go_enter Tryz.func6, Tryz.ntmps6
  go_wp2_with (first
    | (go_at_call 11; refine (CF.out).mono ?_; rintro e w' ⟨rfl, rfl⟩)
    | (go_at_call 12; refine (CA.out).mono ?_; rintro e w1 ⟨rfl, hb1⟩))
  go_ret
  exact ⟨rfl, hb1⟩

set_option maxRecDepth 100000 in
theorem lawRounds_any (s : ByteArray) (w : World) (hst : St w) (hs : s.size ≤ 9223372036854775807) :
    Calls Tryz.prog 6 #[.string s] w fun e w' => e = .returned (.bool true) ∧ Below w.heap.size w w' := by
  by_cases h : s.size ≤ 180
  · have CF := Lib.hid (rFew_yes s w h)
    have C1 := fun W (hW : Below w.heap.size w W) => Lib.hid (fNeg_any s W (hst.next hW) (by omega))
    have C2 := fun W => Lib.hid (rNeg_any s W (by omega))
    have C3 := fun W (hW : Below w.heap.size w W) => Lib.hid (fFloor_any s W (hst.next hW) (by omega))
    have C4 := fun W => Lib.hid (rFloor_any s W (by omega))
    have C5 := fun W (hW : Below w.heap.size w W) => Lib.hid (fCeil_any s W (hst.next hW) (by omega))
    have C6 := fun W => Lib.hid (rCeil_any s W (by omega))
    have CA := fun W (hW : Below w.heap.size w W) => Lib.hid (awake_any W (hst.next hW))
    unfold OutPost at C1 C2 C3 C4 C5 C6
    clear h hst
    generalize un s.data.toList (Fr.out (-(Fr.rat s.data.toList))) = o1 at *
    generalize un s.data.toList (Fr.out (((Fr.rat s.data.toList).floor : Int) : Rat)) = o2 at *
    generalize un s.data.toList (Fr.out (-(((-(Fr.rat s.data.toList)).floor : Int) : Rat))) = o3 at *
    obtain ⟨l1, e1⟩ := o1
    obtain ⟨l2, e2⟩ := o2
    obtain ⟨l3, e3⟩ := o3
    simp only [] at C1 C2 C3 C4 C5 C6
    generalize (⟨l1.toArray⟩ : ByteArray) = a1 at *
    generalize (⟨l2.toArray⟩ : ByteArray) = a2 at *
    generalize (⟨l3.toArray⟩ : ByteArray) = a3 at *
    go_enter Tryz.func6, Tryz.ntmps6
    go_wp2_with (go_at_call 11; refine (CF.out).mono ?_; rintro e w' ⟨rfl, rfl⟩)
    refine ((C1 _ (Below.refl _ _)).out).mono ?_
    rintro e w1 ⟨rfl, hb1⟩
    go_wp2_with fail
    refine ((C2 _).out).mono ?_
    rintro e w2 ⟨rfl, hb2⟩
    have hB2 := hb1.trans (hb2.mono hb1.size)
    go_wp2_with fail
    refine ((C3 _ hB2).out).mono ?_
    rintro e w3 ⟨rfl, hb3⟩
    have hB3 := hB2.trans (hb3.mono hB2.size)
    go_wp2_with fail
    refine ((C4 _).out).mono ?_
    rintro e w4 ⟨rfl, hb4⟩
    have hB4 := hB3.trans (hb4.mono hB3.size)
    go_wp2_with fail
    refine ((C5 _ hB4).out).mono ?_
    rintro e w5 ⟨rfl, hb5⟩
    have hB5 := hB4.trans (hb5.mono hB4.size)
    go_wp2_with fail
    refine ((C6 _).out).mono ?_
    rintro e w6 ⟨rfl, hb6⟩
    have hB6 := hB5.trans (hb6.mono hB5.size)
    go_wp2_with fail
    refine ((CA _ hB6).out).mono ?_
    rintro e w7 ⟨rfl, hb7⟩
    have hB7 := hB6.trans (hb7.mono hB6.size)
    go_wp2
    go_ret
    exact ⟨rfl, hB7⟩
  · exact lawRounds_few s w hst hs h

theorem lawComputes_few (s t : ByteArray) (w : World) (hst : St w) (hs : s.size ≤ 9223372036854775807) (ht : t.size ≤ 9223372036854775807) (h : ¬ s.size ≤ 180 ∨ (s.size ≤ 180 ∧ ¬ t.size ≤ 180)) :
    Calls Tryz.prog 5 #[.string s, .string t] w fun e w' => e = .returned (.bool true) ∧ Below w.heap.size w w' := by
  have CA := Lib.hid (awake_any w hst)
  rcases h with h | ⟨h, h'⟩
  · have CF := Lib.hid (rFew_no s w hs h)
    clear h hst
    go_enter Tryz.func5, Tryz.ntmps5
    go_wp2_with (first
      | (go_at_call 11; (with_reducible refine (CF.out).mono ?_); rintro e w' ⟨rfl, rfl⟩)
      | (go_at_call 12; refine (CA.out).mono ?_; rintro e w1 ⟨rfl, hb1⟩))
    go_ret
    exact ⟨rfl, hb1⟩
  · have CF := Lib.hid (rFew_yes s w h)
    have CG := Lib.hid (rFew_no t w ht h')
    clear h h' hst
    go_enter Tryz.func5, Tryz.ntmps5
    go_wp2_with (first
      | (go_at_call 11; (with_reducible refine (CF.out).mono ?_); rintro e w' ⟨rfl, rfl⟩)
      | (go_at_call 11; (with_reducible refine (CG.out).mono ?_); rintro e w' ⟨rfl, rfl⟩)
      | (go_at_call 12; refine (CA.out).mono ?_; rintro e w1 ⟨rfl, hb1⟩))
    go_ret
    exact ⟨rfl, hb1⟩

set_option maxRecDepth 100000 in
set_option maxHeartbeats 1000000 in
theorem lawComputes_any (s t : ByteArray) (w : World) (hst : St w) (hs : s.size ≤ 9223372036854775807) (ht : t.size ≤ 9223372036854775807) :
    Calls Tryz.prog 5 #[.string s, .string t] w fun e w' => e = .returned (.bool true) ∧ Below w.heap.size w w' := by
  by_cases h : s.size ≤ 180
  · by_cases h' : t.size ≤ 180
    · have CF := Lib.hid (rFew_yes s w h)
      have CG := Lib.hid (rFew_yes t w h')
      have C1 := fun W (hW : Below w.heap.size w W) => Lib.hid (fAdd_any s t W (hst.next hW) (by omega) (by omega))
      have C2 := fun W => Lib.hid (rAdd_any s t W (by omega) (by omega))
      have C3 := fun W (hW : Below w.heap.size w W) => Lib.hid (fSub_any s t W (hst.next hW) (by omega) (by omega))
      have C4 := fun W => Lib.hid (rSub_any s t W (by omega) (by omega))
      have C5 := fun W (hW : Below w.heap.size w W) => Lib.hid (fMul_any s t W (hst.next hW) (by omega) (by omega))
      have C6 := fun W => Lib.hid (rMul_any s t W (by omega) (by omega))
      have C7 := fun W (hW : Below w.heap.size w W) => Lib.hid (fDiv_any s t W (hst.next hW) (by omega) (by omega))
      have C8 := fun W => Lib.hid (rDiv_any s t W (by omega) (by omega))
      have C9 := fun W (hW : Below w.heap.size w W) => Lib.hid (fCompare_any s t W (hst.next hW) (by omega) (by omega))
      have C10 := fun W => Lib.hid (rCompare_any s t W (by omega) (by omega))
      have CA := fun W (hW : Below w.heap.size w W) => Lib.hid (awake_any W (hst.next hW))
      unfold OutPost at C1 C2 C3 C4 C5 C6 C7 C8
      clear h h' hst
      generalize bi s.data.toList t.data.toList (Fr.out (Fr.rat s.data.toList + Fr.rat t.data.toList)) = o1 at *
      generalize bi s.data.toList t.data.toList (Fr.out (Fr.rat s.data.toList - Fr.rat t.data.toList)) = o2 at *
      generalize bi s.data.toList t.data.toList (Fr.out (Fr.rat s.data.toList * Fr.rat t.data.toList)) = o3 at *
      generalize bi s.data.toList t.data.toList (divV (Fr.rat s.data.toList) (Fr.rat t.data.toList)) = o4 at *
      generalize (if two s.data.toList t.data.toList = 0 then Fr.cmpQ (Fr.rat s.data.toList) (Fr.rat t.data.toList) else 0) = c5 at *
      generalize two s.data.toList t.data.toList = e5 at *
      obtain ⟨l1, e1⟩ := o1
      obtain ⟨l2, e2⟩ := o2
      obtain ⟨l3, e3⟩ := o3
      obtain ⟨l4, e4⟩ := o4
      simp only [] at C1 C2 C3 C4 C5 C6 C7 C8
      generalize (⟨l1.toArray⟩ : ByteArray) = a1 at *
      generalize (⟨l2.toArray⟩ : ByteArray) = a2 at *
      generalize (⟨l3.toArray⟩ : ByteArray) = a3 at *
      generalize (⟨l4.toArray⟩ : ByteArray) = a4 at *
      go_enter Tryz.func5, Tryz.ntmps5
      go_wp2_with (first
        | (go_at_call 11; (with_reducible refine (CF.out).mono ?_); rintro e w' ⟨rfl, rfl⟩)
        | (go_at_call 11; (with_reducible refine (CG.out).mono ?_); rintro e w' ⟨rfl, rfl⟩))
      refine ((C1 _ (Below.refl _ _)).out).mono ?_
      rintro e w1 ⟨rfl, hb1⟩
      go_wp2_with fail
      refine ((C2 _).out).mono ?_
      rintro e w2 ⟨rfl, hb2⟩
      have hB2 := hb1.trans (hb2.mono hb1.size)
      go_wp2_with fail
      refine ((C3 _ hB2).out).mono ?_
      rintro e w3 ⟨rfl, hb3⟩
      have hB3 := hB2.trans (hb3.mono hB2.size)
      go_wp2_with fail
      refine ((C4 _).out).mono ?_
      rintro e w4 ⟨rfl, hb4⟩
      have hB4 := hB3.trans (hb4.mono hB3.size)
      go_wp2_with fail
      refine ((C5 _ hB4).out).mono ?_
      rintro e w5 ⟨rfl, hb5⟩
      have hB5 := hB4.trans (hb5.mono hB4.size)
      go_wp2_with fail
      refine ((C6 _).out).mono ?_
      rintro e w6 ⟨rfl, hb6⟩
      have hB6 := hB5.trans (hb6.mono hB5.size)
      go_wp2_with fail
      refine ((C7 _ hB6).out).mono ?_
      rintro e w7 ⟨rfl, hb7⟩
      have hB7 := hB6.trans (hb7.mono hB6.size)
      go_wp2_with fail
      refine ((C8 _).out).mono ?_
      rintro e w8 ⟨rfl, hb8⟩
      have hB8 := hB7.trans (hb8.mono hB7.size)
      go_wp2_with fail
      refine ((C9 _ hB8).out).mono ?_
      rintro e w9 ⟨rfl, hb9⟩
      have hB9 := hB8.trans (hb9.mono hB8.size)
      go_wp2_with fail
      refine ((C10 _).out).mono ?_
      rintro e w10 ⟨rfl, hb10⟩
      have hB10 := hB9.trans (hb10.mono hB9.size)
      go_wp2_with fail
      refine ((CA _ hB10).out).mono ?_
      rintro e w11 ⟨rfl, hb11⟩
      have hB11 := hB10.trans (hb11.mono hB10.size)
      go_wp2
      go_ret
      exact ⟨rfl, hB11⟩
    · exact lawComputes_few s t w hst hs ht (.inr ⟨h, h'⟩)
  · exact lawComputes_few s t w hst hs ht (.inl h)

end Go.Proofs.YtfphnoihkcnleaaGreatDoor
