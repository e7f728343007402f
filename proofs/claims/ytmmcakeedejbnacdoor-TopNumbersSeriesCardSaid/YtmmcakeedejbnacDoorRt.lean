/- The contracts of the reference's Make, Of and Whole. -/
import Derived.Test.YtmmcakeedejbnacDoorRs
namespace Go.Proofs.YtmmcakeedejbnacDoor
open Go.RowKit

theorem rMake_first (s t : ByteArray) (w : World) (hs : s.size ≤ 800) (h : chkI s.data.toList ≠ 0) :
    Calls Tryd.prog 58 #[.string s, .string t] w (OutPost w ([], chkI s.data.toList)) := by
  have CN := Lib.hid (rinteger_any s w (by omega))
  have hne : (chkI s.data.toList != 0) = true := by simpa using h
  clear h
  generalize chkI s.data.toList = c at *
  go_enter Tryd.func58, Tryd.ntmps58
  go_wp2_with (go_at_call 76; refine (CN.out).mono ?_; rintro e w' ⟨rfl, rfl⟩)
  go_ret2
  exact ⟨rfl, Below.refl _ _⟩

theorem rMake_second (s t : ByteArray) (w : World) (hs : s.size ≤ 800) (ht : t.size ≤ 800) (h0 : chkI s.data.toList = 0) (h : chkI t.data.toList ≠ 0) :
    Calls Tryd.prog 58 #[.string s, .string t] w (OutPost w ([], chkI t.data.toList)) := by
  have CN := Lib.hid (rinteger_lit h0 (by omega) w)
  have CD := Lib.hid (rinteger_any t w (by omega))
  have hne : (chkI t.data.toList != 0) = true := by simpa using h
  clear h h0
  generalize chkI t.data.toList = c at *
  go_enter Tryd.func58, Tryd.ntmps58
  go_wp2_with fail
  refine (CN.out).mono ?_
  rintro e w' ⟨rfl, rfl⟩
  go_wp2_with fail
  refine (CD.out).mono ?_
  rintro e w' ⟨rfl, rfl⟩
  go_wp2
  go_ret2
  exact ⟨rfl, Below.refl _ _⟩

theorem rMake_zero (s t : ByteArray) (w : World) (hs : s.size ≤ 800) (ht : t.size ≤ 800) (h0 : chkI s.data.toList = 0) (h : chkI t.data.toList = 0) (hz : t.data.toList = [48]) :
    Calls Tryd.prog 58 #[.string s, .string t] w (OutPost w ([], 10)) := by
  have CN := Lib.hid (rinteger_lit h0 (by omega) w)
  have CD := Lib.hid (rinteger_lit h (by omega) w)
  have hz2 : (t.toList == [48]) = true := by rw [toList_eq_iff, hz]; rfl
  clear h h0 hz
  go_enter Tryd.func58, Tryd.ntmps58
  go_wp2_with fail
  refine (CN.out).mono ?_
  rintro e w' ⟨rfl, rfl⟩
  go_wp2_with fail
  refine (CD.out).mono ?_
  rintro e w' ⟨rfl, rfl⟩
  go_wp2
  go_ret2
  exact ⟨rfl, Below.refl _ _⟩

theorem int_pos {s : ByteArray} (h : Fr.isInt s.data.toList = true) : 0 < s.size := by
  rcases Nat.eq_zero_or_pos s.size with h1 | h1
  · exact absurd (List.eq_nil_of_length_eq_zero (show s.data.toList.length = 0 from h1)) (Fr.isInt_nonempty h)
  · exact h1

set_option maxRecDepth 100000 in
set_option maxHeartbeats 4000000 in
theorem rMake_rest (s t : ByteArray) (w : World) (hs : s.size ≤ 800) (ht : t.size ≤ 800) (h0 : chkI s.data.toList = 0) (h : chkI t.data.toList = 0) (hz : t.data.toList ≠ [48]) :
    Calls Tryd.prog 58 #[.string s, .string t] w (OutPost w (Fr.out ((Fr.sv s.data.toList : Rat) / (Fr.sv t.data.toList : Rat)))) := by
  obtain ⟨g1, g2⟩ := chkI_zero h0
  obtain ⟨h1, h2⟩ := chkI_zero h
  have hz2 : (t.toList == [48]) = false := by rw [toList_eq_iff]; simpa using hz
  have hpos : 0 < Fr.dv (Fr.bare t.data.toList) := by
    rcases Nat.eq_zero_or_pos (Fr.dv (Fr.bare t.data.toList)) with h9 | h9
    · exfalso
      have h8 := Fr.isInt_render h1
      rw [h9] at h8
      rcases Fr.isInt_head h1 with h7 | h7
      · rw [← h8] at h7; exact h7 rfl
      · exact hz h7
    · exact h9
  have hq : Fr.num (Fr.isNeg s.data.toList != Fr.isNeg t.data.toList) (Fr.dv (Fr.bare s.data.toList)) (Fr.dv (Fr.bare t.data.toList)) = ((Fr.sv s.data.toList : Rat) / (Fr.sv t.data.toList : Rat)) := by
    have h9 := Fr.num_div (Fr.isNeg s.data.toList) (Fr.isNeg t.data.toList) (Fr.dv (Fr.bare s.data.toList)) 1 (Fr.dv (Fr.bare t.data.toList)) 1 hpos (by omega)
    rw [Nat.mul_one, Nat.one_mul, Fr.num_int, Fr.num_int] at h9
    exact h9
  rw [← hq]
  have l1 := short_bare (s := s) g2
  have l2 := short_bare (s := t) h2
  have k1 : (bareB s).data.toList.all Fr.isDig = true := Fr.isInt_all g1
  have k2 : (bareB t).data.toList.all Fr.isDig = true := Fr.isInt_all h1
  have p1 := int_pos g1
  have p2 := int_pos h1
  have f1 := first_is p1 (show Fr.isNeg s.data.toList = Fr.isNeg s.data.toList from rfl)
  have f2 := first_is p2 (show Fr.isNeg t.data.toList = Fr.isNeg t.data.toList from rfl)
  have CN := fun W => Lib.hid (rinteger_lit h0 (by omega) W)
  have CD := fun W => Lib.hid (rinteger_lit h (by omega) W)
  have B1 := Lib.hid (rbare_any s)
  have B2 := Lib.hid (rbare_any t)
  have CR := fun W => Lib.hid (rread_own (bareB s) W (by omega) k1)
  have CQ := fun W => Lib.hid (rread_own (bareB t) W (by omega) k2)
  have hv1 : Fr.dv (bareB s).data.toList = Fr.dv (Fr.bare s.data.toList) := rfl
  have hv2 : Fr.dv (bareB t).data.toList = Fr.dv (Fr.bare t.data.toList) := rfl
  rw [hv1] at CR
  rw [hv2] at CQ
  clear h h0 hz hq g1 g2 h1 h2 k1 k2 hv1 hv2
  generalize Fr.isNeg s.data.toList = b at *
  generalize Fr.isNeg t.data.toList = c at *
  generalize Fr.dv (Fr.bare s.data.toList) = M at *
  generalize Fr.dv (Fr.bare t.data.toList) = K at *
  generalize bareB s = sb at *
  generalize bareB t = tb at *
  go_enter Tryd.func58, Tryd.ntmps58
  go_wp2_with fail
  refine ((CN _).out).mono ?_
  rintro e w' ⟨rfl, rfl⟩
  go_wp2_with fail
  refine ((CD _).out).mono ?_
  rintro e w' ⟨rfl, rfl⟩
  go_wp2_with fail
  go_region_held3 (fun W => True)
    (exact trivial)
    (first
      | (go_at_call 79; (with_reducible refine (B1.out _).mono ?_); rintro e w' ⟨rfl, rfl⟩)
      | (go_at_call 79; (with_reducible refine (B2.out _).mono ?_); rintro e w' ⟨rfl, rfl⟩)
      | (go_at_call 78; (with_reducible refine ((CR _).out).mono ?_); rintro e w1 ⟨r1, rfl, hb1, hr1, _⟩)
      | (go_at_call 78; (with_reducible refine ((CQ _).out).mono ?_); rintro e w2 ⟨r2, rfl, hb2, hr2, _⟩; have H1 := (hr1.below hb2 (Nat.le_refl _)).up (show sb.size / 6 + 1 ≤ 20 by omega); have H2 := hr2.up (show tb.size / 6 + 1 ≤ 20 by omega); obtain ⟨r1a, r1l, r1c, rfl⟩ := hr1.form; obtain ⟨r2a, r2l, r2c, rfl⟩ := hr2.form)
      | (go_at_call 77; refine (rmade_any _ (b != c) M K 20 _ ⟨_, _, rfl, H1, H2⟩ hpos (by omega) (by omega)).mono ?_; rintro e w4 ⟨rfl, hb4⟩))
  all_goals
    have hB2 := hb1.trans (hb2.mono hb1.size)
    have hB4 : Below w.heap.size w w4 := ((Below.refl _ _).drew).trans (hB2.trans (hb4.mono hB2.size))
    clear hb1 hb2 hb4 hB2 hr1 hr2 H1 H2
    go_wp2
    go_ret2
    exact ⟨rfl, hB4⟩

/-- What Make returns. -/
theorem rMake_any (s t : ByteArray) (w : World) (hs : s.size ≤ 800) (ht : t.size ≤ 800) :
    Calls Tryd.prog 58 #[.string s, .string t] w (OutPost w (mkV s.data.toList t.data.toList)) := by
  unfold mkV
  by_cases h0 : chkI s.data.toList = 0
  · rw [if_pos h0]
    by_cases h : chkI t.data.toList = 0
    · rw [if_pos h]
      by_cases hz : t.data.toList = [48]
      · rw [if_pos hz]; exact rMake_zero s t w hs ht h0 h hz
      · rw [if_neg hz]; exact rMake_rest s t w hs ht h0 h hz
    · rw [if_neg h]; exact rMake_second s t w hs ht h0 h
  · rw [if_neg h0]; exact rMake_first s t w hs h0

theorem rOf_any (a b : Int) (w : World) (ha : -9223372036854775808 ≤ a ∧ a < 9223372036854775808) (hb : -9223372036854775808 ≤ b ∧ b < 9223372036854775808) :
    Calls Tryd.prog 43 #[.int .i64 a, .int .i64 b] w (OutPost w (ofV a b)) := by
  have CA := fun W => Lib.hid (rtext_any a W ha.1 (by omega))
  have CB := fun W => Lib.hid (rtext_any b W hb.1 (by omega))
  have la : (ByteArray.mk (Fr.itxt a).toArray).size ≤ 800 := by have := (Fr.itxt_len a ha).2; simp [ByteArray.size]; omega
  have lb : (ByteArray.mk (Fr.itxt b).toArray).size ≤ 800 := by have := (Fr.itxt_len b hb).2; simp [ByteArray.size]; omega
  have CM := fun W => Lib.hid (rMake_any _ _ W la lb)
  have e : mkV (ByteArray.mk (Fr.itxt a).toArray).data.toList (ByteArray.mk (Fr.itxt b).toArray).data.toList = ofV a b := mkV_itxt a b ha hb
  rw [e] at CM
  clear la lb e
  generalize ofV a b = o at *
  generalize (Fr.itxt a).toArray = x at *
  generalize (Fr.itxt b).toArray = y at *
  clear ha hb
  go_enter Tryd.func43, Tryd.ntmps43
  go_wp2_with fail
  refine ((CA _).out).mono ?_
  rintro e w1 ⟨rfl, hb1⟩
  go_wp2_with fail
  refine ((CB _).out).mono ?_
  rintro e w2 ⟨rfl, hb2⟩
  have hB2 := hb1.trans (hb2.mono hb1.size)
  go_wp2_with fail
  refine ((CM _).out).mono ?_
  rintro e w3 ⟨rfl, hb3⟩
  go_wp2
  go_ret2
  exact ⟨rfl, hB2.trans (hb3.mono hB2.size)⟩
theorem rWhole_any (n : Int) (w : World) (h0 : -9223372036854775808 ≤ n) (h1 : n ≤ 9223372036854775807) :
    Calls Tryd.prog 24 #[.int .i64 n] w fun e w' => e = .returned (.string ⟨(Fr.itxt n).toArray⟩) ∧ Below w.heap.size w w' := by
  have CI := fun W => Lib.hid (rtext_any n W h0 h1)
  generalize Fr.itxt n = l at *
  clear h0 h1
  go_enter Tryd.func24, Tryd.ntmps24
  go_wp2_with fail
  refine ((CI _).out).mono ?_
  rintro e w1 ⟨rfl, hb1⟩
  go_wp2
  go_ret
  exact ⟨rfl, hb1⟩

end Go.Proofs.YtmmcakeedejbnacDoor

