/- The contracts of Add, Sub, Mul, Div, Compare, Whole of package fraction. The contracts of Make, Of and Sum of package fraction. The contracts of package fraction on the texts of rational numbers that are not too large. The contract of awake of the statements about fractions: the examples of the chapter. -/
import Derived.Test.YtmmcakeedejbnacDoorPl
import Derived.Test.YtmmcakeedejbnacDoorNum
namespace Go.Proofs.YtmmcakeedejbnacDoor
open Go.RowKit

theorem below_more (w : World) (q : Nat) (os : Array Obj) : Below w.heap.size w (Go.Sort.grow (w.drewN q) os) :=
  ⟨rfl, rfl, rfl, by simp [Go.Sort.grow], fun i hi => by
    show ((w.drewN q).heap ++ os)[i]? = _
    rw [Array.getElem?_append_left (by show i < w.heap.size; omega)]
    rfl⟩

/-- The quotient of two numbers, or the error. -/
def divV (p q : Rat) : List UInt8 × Int := if q = 0 then ([], 10) else Fr.out (p / q)
theorem compute_0 (s t : ByteArray) (w : World) (hst : St w) (hs : s.size ≤ 800) (ht : t.size ≤ 800) :
    Calls Tryd.prog 42 #[.int .i64 0, .string s, .string t] w (OutPost w (bi s.data.toList t.data.toList (Fr.out (Fr.rat s.data.toList + Fr.rat t.data.toList)))) := by
  unfold bi
  by_cases h : two s.data.toList t.data.toList = 0
  · rw [if_pos h]
    exact compute_add s t w hst hs ht h
  · rw [if_neg h]
    exact compute_bad _ s t w hst hs ht h
theorem fAdd_any (s t : ByteArray) (w : World) (hst : St w) (hs : s.size ≤ 800) (ht : t.size ≤ 800) :
    Calls Tryd.prog 23 #[.string s, .string t] w (OutPost w (bi s.data.toList t.data.toList (Fr.out (Fr.rat s.data.toList + Fr.rat t.data.toList)))) := by
  have CC := Lib.hid (compute_0 s t w hst hs ht)
  clear hst
  generalize bi s.data.toList t.data.toList (Fr.out (Fr.rat s.data.toList + Fr.rat t.data.toList)) = o at *
  go_enter Tryd.func23, Tryd.ntmps23
  go_wp2_with (go_at_call 42; refine (CC.out).mono ?_; rintro e w1 ⟨rfl, hb1⟩)
  go_ret2
  exact ⟨rfl, hb1⟩
theorem compute_1 (s t : ByteArray) (w : World) (hst : St w) (hs : s.size ≤ 800) (ht : t.size ≤ 800) :
    Calls Tryd.prog 42 #[.int .i64 1, .string s, .string t] w (OutPost w (bi s.data.toList t.data.toList (Fr.out (Fr.rat s.data.toList - Fr.rat t.data.toList)))) := by
  unfold bi
  by_cases h : two s.data.toList t.data.toList = 0
  · rw [if_pos h]
    exact compute_subtract s t w hst hs ht h
  · rw [if_neg h]
    exact compute_bad _ s t w hst hs ht h
theorem fSub_any (s t : ByteArray) (w : World) (hst : St w) (hs : s.size ≤ 800) (ht : t.size ≤ 800) :
    Calls Tryd.prog 20 #[.string s, .string t] w (OutPost w (bi s.data.toList t.data.toList (Fr.out (Fr.rat s.data.toList - Fr.rat t.data.toList)))) := by
  have CC := Lib.hid (compute_1 s t w hst hs ht)
  clear hst
  generalize bi s.data.toList t.data.toList (Fr.out (Fr.rat s.data.toList - Fr.rat t.data.toList)) = o at *
  go_enter Tryd.func20, Tryd.ntmps20
  go_wp2_with (go_at_call 42; refine (CC.out).mono ?_; rintro e w1 ⟨rfl, hb1⟩)
  go_ret2
  exact ⟨rfl, hb1⟩
theorem compute_2 (s t : ByteArray) (w : World) (hst : St w) (hs : s.size ≤ 800) (ht : t.size ≤ 800) :
    Calls Tryd.prog 42 #[.int .i64 2, .string s, .string t] w (OutPost w (bi s.data.toList t.data.toList (Fr.out (Fr.rat s.data.toList * Fr.rat t.data.toList)))) := by
  unfold bi
  by_cases h : two s.data.toList t.data.toList = 0
  · rw [if_pos h]
    exact compute_multiply s t w hst hs ht h
  · rw [if_neg h]
    exact compute_bad _ s t w hst hs ht h
theorem compute_3 (s t : ByteArray) (w : World) (hst : St w) (hs : s.size ≤ 800) (ht : t.size ≤ 800) :
    Calls Tryd.prog 42 #[.int .i64 3, .string s, .string t] w (OutPost w (bi s.data.toList t.data.toList (divV (Fr.rat s.data.toList) (Fr.rat t.data.toList)))) := by
  unfold bi
  by_cases h : two s.data.toList t.data.toList = 0
  · rw [if_pos h]
    unfold divV
    by_cases hq : Fr.rat t.data.toList = 0
    · rw [if_pos hq]
      exact compute_zero s t w hst hs ht h hq
    · rw [if_neg hq]
      exact compute_divide s t w hst hs ht h hq
  · rw [if_neg h]
    exact compute_bad _ s t w hst hs ht h
set_option maxRecDepth 100000 in
set_option maxHeartbeats 2000000 in
theorem fCompare_any (s t : ByteArray) (w : World) (hst : St w) (hs : s.size ≤ 800) (ht : t.size ≤ 800) :
    Calls Tryd.prog 47 #[.string s, .string t] w fun e w' => e = .returned (.tuple #[.int .i64 (if two s.data.toList t.data.toList = 0 then Fr.cmpQ (Fr.rat s.data.toList) (Fr.rat t.data.toList) else 0), .int .i64 (two s.data.toList t.data.toList)]) ∧ Below w.heap.size w w' := by
  by_cases h : two s.data.toList t.data.toList = 0
  · rw [if_pos h, h]
    obtain ⟨h1, h2⟩ := two_zero h
    have CB := fun W hW => Lib.hid (both_good s t W (hst.next hW) hs ht h1 h2)
    clear hst h h1 h2
    generalize Fr.rat s.data.toList = p at *
    generalize Fr.rat t.data.toList = q at *
    go_enter Tryd.func47, Tryd.ntmps47
    go_wp2_with fail
    refine ((CB _ (by first | exact Below.refl _ _ | exact (Below.refl _ _).alloc (Nat.le_refl _) _ | exact ((Below.refl _ _).alloc (Nat.le_refl _) _).alloc (by simp) _)).out).mono ?_
    rintro e w1 ⟨x, y, rfl, hb1, hx, hy⟩
    obtain ⟨xb, xa, xl, xc, ya, yl, yc, rfl⟩ := hx.form
    obtain ⟨zb, za, zl, zc, ta, tl, tc, rfl⟩ := hy.form
    have hA : Below w1.heap.size w1 ((w1.alloc (.cells #[.bool xb, .slice xa xl xc, .slice ya yl yc] 81)).alloc (.cells #[.bool zb, .slice za zl zc, .slice ta tl tc] 81)) := ((Below.refl _ _).alloc (Nat.le_refl _) _).alloc (by simp) _
    have HX := Lib.hid (hx.below hA (Nat.le_refl _))
    have HY := Lib.hid (hy.below hA (Nat.le_refl _))
    have hB1 := hb1.trans (hA.mono hb1.size)
    clear hx hy hb1 hA
    go_wp2_with fail
    refine (subtract_q HX.out HY.out).mono ?_
    rintro e w3 ⟨v3, rfl, hb3, hv3, _⟩
    have hB2 := hB1.trans (hb3.mono hB1.size)
    go_wp2_with fail
    refine (sign_q hv3).mono ?_
    rintro e w4 ⟨rfl, hb4⟩
    have hB3 := hB2.trans (hb4.mono hB2.size)
    rw [Fr.cmpQ_sub]
    go_wp2
    go_ret2
    exact ⟨rfl, hB3⟩
  · rw [if_neg h]
    have CB := fun W hW => Lib.hid (both_bad s t W (hst.next hW) hs ht h)
    have hne : (two s.data.toList t.data.toList != 0) = true := by simpa using h
    clear hst h
    generalize two s.data.toList t.data.toList = c at *
    go_enter Tryd.func47, Tryd.ntmps47
    go_wp2_with fail
    refine ((CB _ (by first | exact Below.refl _ _ | exact (Below.refl _ _).alloc (Nat.le_refl _) _ | exact ((Below.refl _ _).alloc (Nat.le_refl _) _).alloc (by simp) _)).out).mono ?_
    rintro e w1 ⟨rfl, hb1⟩
    go_wp2
    go_ret2
    exact ⟨rfl, (hb1.alloc hb1.size _).alloc (by simp; have := hb1.size; omega) _⟩

theorem fWhole_any (n : Int) (w : World) (hst : St w) (h0 : -9223372036854775808 ≤ n) (h1 : n ≤ 9223372036854775807) :
    Calls Tryd.prog 41 #[.int .i64 n] w fun e w' => e = .returned (.string ⟨(Fr.itxt n).toArray⟩) ∧ Below w.heap.size w w' := by
  have CI := Lib.hid (Tryd.strconv_Itoa n h0 h1 w hst.pow10)
  rw [Fr.itoa_text] at CI
  clear hst
  generalize Fr.itxt n = l at *
  go_enter Tryd.func41, Tryd.ntmps41
  go_wp2_with (go_at_call 39; refine (CI.out).mono ?_; rintro e w1 ⟨rfl, k, os, hw1⟩; have hb1 : Below w.heap.size w w1 := (by rw [hw1]; exact below_more w k os); clear hw1)
  go_ret
  exact ⟨rfl, hb1⟩

end Go.Proofs.YtmmcakeedejbnacDoor

namespace Go.Proofs.YtmmcakeedejbnacDoor
open Go.RowKit

/-- The error of an integer text. -/
def chkI (l : List UInt8) : Int := if Fr.isInt l then (if Fr.isLong l then 11 else 0) else 3
theorem chkI_zero {l : List UInt8} (h : chkI l = 0) : Fr.isInt l = true ∧ Fr.isLong l = false := by
  unfold chkI at h
  cases h1 : Fr.isInt l with
  | false => rw [h1] at h; simp at h
  | true =>
    cases h2 : Fr.isLong l with
    | false => exact ⟨rfl, rfl⟩
    | true => rw [h1, h2] at h; simp at h
theorem chkI_bad {l : List UInt8} (h : chkI l ≠ 0) : (Fr.isInt l = false ∧ chkI l = 3) ∨ (Fr.isInt l = true ∧ Fr.isLong l = true ∧ chkI l = 11) := by
  unfold chkI at h ⊢
  cases h1 : Fr.isInt l with
  | false => exact .inl ⟨rfl, rfl⟩
  | true =>
    cases h2 : Fr.isLong l with
    | false => rw [h1, h2] at h; simp at h
    | true => exact .inr ⟨rfl, rfl, rfl⟩

theorem pick0 (s t : ByteArray) (w : World) : (Instr.index 76 (.agg #[.string s, .string t]) (.int .i64 0)).run Tryd.prog w = .ok (.string s) w := by kernel_rfl
theorem pick1 (s t : ByteArray) (w : World) : (Instr.index 76 (.agg #[.string s, .string t]) (.int .i64 1)).run Tryd.prog w = .ok (.string t) w := by kernel_rfl

theorem make_first (s t : ByteArray) (w : World) (hs : s.size ≤ 800) (h : chkI s.data.toList ≠ 0) :
    Calls Tryd.prog 38 #[.string s, .string t] w (OutPost w ([], chkI s.data.toList)) := by
  have i0 := pick0 s t
  rcases chkI_bad h with ⟨h1, h2⟩ | ⟨h1, h3, h2⟩
  · rw [h2]
    have CN := Lib.hid (isInt_lit (s := s) h1 (by omega))
    clear h h1 h2
    go_enter Tryd.func38, Tryd.ntmps38
    go_wp2
    go_loop [11] (fun u11 => u11 = .int .i64 0) (fun u11 => 0)
    case atStart => exact rfl
    case round =>
      subst hrel
      go_wp2_with (go_at_call 48; (with_reducible refine (CN.out _).mono ?_); rintro e w' ⟨rfl, rfl⟩)
      go_ret2
      exact ⟨rfl, Below.refl _ _⟩
  · rw [h2]
    have CN := Lib.hid (isInt_lit (s := s) h1 (by omega))
    have CL := Lib.hid (isLong_lit (s := s) h3)
    clear h h1 h2 h3
    go_enter Tryd.func38, Tryd.ntmps38
    go_wp2
    go_loop [11] (fun u11 => u11 = .int .i64 0) (fun u11 => 0)
    case atStart => exact rfl
    case round =>
      subst hrel
      go_wp2_with (first
        | (go_at_call 48; (with_reducible refine (CN.out _).mono ?_); rintro e w' ⟨rfl, rfl⟩)
        | (go_at_call 49; (with_reducible refine (CL.out _).mono ?_); rintro e w' ⟨rfl, rfl⟩))
      go_ret2
      exact ⟨rfl, Below.refl _ _⟩

theorem make_second (s t : ByteArray) (w : World) (hs : s.size ≤ 800) (ht : t.size ≤ 800) (h0 : chkI s.data.toList = 0) (h : chkI t.data.toList ≠ 0) :
    Calls Tryd.prog 38 #[.string s, .string t] w (OutPost w ([], chkI t.data.toList)) := by
  have i0 := pick0 s t
  have i1 := pick1 s t
  obtain ⟨g1, g2⟩ := chkI_zero h0
  have CN := Lib.hid (isInt_lit (s := s) g1 (by omega))
  have CL := Lib.hid (isLong_lit (s := s) g2)
  rcases chkI_bad h with ⟨h1, h2⟩ | ⟨h1, h3, h2⟩
  · rw [h2]
    have DN := Lib.hid (isInt_lit (s := t) h1 (by omega))
    clear h h1 h2 h0 g1 g2
    go_enter Tryd.func38, Tryd.ntmps38
    go_wp2
    go_loop [11] (fun u11 => ∃ j : Nat, j ≤ 1 ∧ u11 = .int .i64 j) (fun u11 => 1 - (intOf u11).toNat)
    case atStart => exact ⟨0, by omega, rfl⟩
    case round =>
      obtain ⟨j, hj, rfl⟩ := hrel
      rcases (show j = 0 ∨ j = 1 by omega) with rfl | rfl
      · go_wp2_with (first
          | (go_at_call 48; (with_reducible refine (CN.out _).mono ?_); rintro e w' ⟨rfl, rfl⟩)
          | (go_at_call 49; (with_reducible refine (CL.out _).mono ?_); rintro e w' ⟨rfl, rfl⟩))
        go_round
        case rel => exact ⟨1, by omega, by go_num⟩
        case measure => simp [intOf]
      · go_wp2_with (go_at_call 48; (with_reducible refine (DN.out _).mono ?_); rintro e w' ⟨rfl, rfl⟩)
        go_ret2
        exact ⟨rfl, Below.refl _ _⟩
  · rw [h2]
    have DN := Lib.hid (isInt_lit (s := t) h1 (by omega))
    have DL := Lib.hid (isLong_lit (s := t) h3)
    clear h h1 h2 h0 g1 g2 h3
    go_enter Tryd.func38, Tryd.ntmps38
    go_wp2
    go_loop [11] (fun u11 => ∃ j : Nat, j ≤ 1 ∧ u11 = .int .i64 j) (fun u11 => 1 - (intOf u11).toNat)
    case atStart => exact ⟨0, by omega, rfl⟩
    case round =>
      obtain ⟨j, hj, rfl⟩ := hrel
      rcases (show j = 0 ∨ j = 1 by omega) with rfl | rfl
      · go_wp2_with (first
          | (go_at_call 48; (with_reducible refine (CN.out _).mono ?_); rintro e w' ⟨rfl, rfl⟩)
          | (go_at_call 49; (with_reducible refine (CL.out _).mono ?_); rintro e w' ⟨rfl, rfl⟩))
        go_round
        case rel => exact ⟨1, by omega, by go_num⟩
        case measure => simp [intOf]
      · go_wp2_with (first
          | (go_at_call 48; (with_reducible refine (DN.out _).mono ?_); rintro e w' ⟨rfl, rfl⟩)
          | (go_at_call 49; (with_reducible refine (DL.out _).mono ?_); rintro e w' ⟨rfl, rfl⟩))
        go_ret2
        exact ⟨rfl, Below.refl _ _⟩

theorem toList_eq_iff (t : ByteArray) (l : List UInt8) : (t.toList == l) = (t.data.toList == l) := by rw [ByteArray.toList_eq]

set_option maxRecDepth 100000 in
set_option maxHeartbeats 2000000 in
theorem make_rest (s t : ByteArray) (w : World) (hs : s.size ≤ 800) (ht : t.size ≤ 800) (h0 : chkI s.data.toList = 0) (h : chkI t.data.toList = 0) :
    Calls Tryd.prog 38 #[.string s, .string t] w (OutPost w (if t.data.toList = [48] then ([], 10) else Fr.out ((Fr.sv s.data.toList : Rat) / (Fr.sv t.data.toList : Rat)))) := by
  have i0 := pick0 s t
  have i1 := pick1 s t
  obtain ⟨g1, g2⟩ := chkI_zero h0
  have CN := Lib.hid (isInt_lit (s := s) g1 (by omega))
  have CL := Lib.hid (isLong_lit (s := s) g2)
  obtain ⟨h1, h2⟩ := chkI_zero h
  have DN := Lib.hid (isInt_lit (s := t) h1 (by omega))
  have DL := Lib.hid (isLong_lit (s := t) h2)
  by_cases hz : t.data.toList = [48]
  · rw [if_pos hz]
    have hz2 : (t.toList == [48]) = true := by rw [toList_eq_iff, hz]; rfl
    clear h h1 h2 h0 g1 g2 hz
    go_enter Tryd.func38, Tryd.ntmps38
    go_wp2
    go_loop [11] (fun u11 => ∃ j : Nat, j ≤ 2 ∧ u11 = .int .i64 j) (fun u11 => 2 - (intOf u11).toNat)
    case atStart => exact ⟨0, by omega, rfl⟩
    case round =>
      obtain ⟨j, hj, rfl⟩ := hrel
      rcases (show j = 0 ∨ j = 1 ∨ j = 2 by omega) with rfl | rfl | rfl
      · go_wp2_with (first
          | (go_at_call 48; (with_reducible refine (CN.out _).mono ?_); rintro e w' ⟨rfl, rfl⟩)
          | (go_at_call 49; (with_reducible refine (CL.out _).mono ?_); rintro e w' ⟨rfl, rfl⟩))
        go_round
        case rel => exact ⟨1, by omega, by go_num⟩
        case measure => simp [intOf]
      · go_wp2_with (first
          | (go_at_call 48; (with_reducible refine (DN.out _).mono ?_); rintro e w' ⟨rfl, rfl⟩)
          | (go_at_call 49; (with_reducible refine (DL.out _).mono ?_); rintro e w' ⟨rfl, rfl⟩))
        go_round
        case rel => exact ⟨2, by omega, by go_num⟩
        case measure => simp [intOf]
      · go_wp2
        go_ret2
        exact ⟨rfl, Below.refl _ _⟩
  · rw [if_neg hz]
    have hz2 : (t.toList == [48]) = false := by rw [toList_eq_iff]; simpa using hz
    have hpos : 0 < Fr.dv (Fr.bare t.data.toList) := by
      rcases Nat.eq_zero_or_pos (Fr.dv (Fr.bare t.data.toList)) with h9 | h9
      · exfalso
        have h8 := Fr.isInt_render h1
        rw [h9] at h8
        rcases Fr.isInt_head h1 with h7 | h7
        · rw [← h8] at h7; exact h7 rfl
        · exact hz h7
      · exact h9
    have IS := fun W => Lib.hid (integer_any s W (by omega) (Fr.isInt_all g1))
    have IT := fun W => Lib.hid (integer_any t W (by omega) (Fr.isInt_all h1))
    have hq : Fr.num (Fr.isNeg s.data.toList) (Fr.dv (Fr.bare s.data.toList)) 1 / Fr.num (Fr.isNeg t.data.toList) (Fr.dv (Fr.bare t.data.toList)) 1 = ((Fr.sv s.data.toList : Rat) / (Fr.sv t.data.toList : Rat)) := by
      rw [Fr.num_int, Fr.num_int]; rfl
    rw [← hq]
    clear h h1 h2 h0 g1 g2 hz hq
    generalize Fr.isNeg s.data.toList = b at *
    generalize Fr.isNeg t.data.toList = c at *
    generalize Fr.dv (Fr.bare s.data.toList) = m at *
    generalize Fr.dv (Fr.bare t.data.toList) = k at *
    go_enter Tryd.func38, Tryd.ntmps38
    go_wp2
    go_loop [11] (fun u11 => ∃ j : Nat, j ≤ 2 ∧ u11 = .int .i64 j) (fun u11 => 2 - (intOf u11).toNat)
    case atStart => exact ⟨0, by omega, rfl⟩
    case round =>
      obtain ⟨j, hj, rfl⟩ := hrel
      rcases (show j = 0 ∨ j = 1 ∨ j = 2 by omega) with rfl | rfl | rfl
      · go_wp2_with (first
          | (go_at_call 48; (with_reducible refine (CN.out _).mono ?_); rintro e w' ⟨rfl, rfl⟩)
          | (go_at_call 49; (with_reducible refine (CL.out _).mono ?_); rintro e w' ⟨rfl, rfl⟩))
        go_round
        case rel => exact ⟨1, by omega, by go_num⟩
        case measure => simp [intOf]
      · go_wp2_with (first
          | (go_at_call 48; (with_reducible refine (DN.out _).mono ?_); rintro e w' ⟨rfl, rfl⟩)
          | (go_at_call 49; (with_reducible refine (DL.out _).mono ?_); rintro e w' ⟨rfl, rfl⟩))
        go_round
        case rel => exact ⟨2, by omega, by go_num⟩
        case measure => simp [intOf]
      · go_wp2_with fail
        refine ((IS _).out).mono ?_
        rintro e w1 ⟨x, rfl, hb1, hx, _⟩
        go_wp2_with fail
        refine ((IT _).out).mono ?_
        rintro e w2 ⟨y, rfl, hb2, hy, _⟩
        go_wp2_with fail
        refine (divide_any x y b c m 1 k 1 120 120 w2 (hx.below hb2 (Nat.le_refl _)) hy (by omega) hpos (by omega) (by omega) (by omega)).mono ?_
        rintro e w3 ⟨z, rfl, hb3, hz, _⟩
        go_wp2_with fail
        refine (frac_q hz (by omega)).mono ?_
        rintro e w4 ⟨rfl, hb4⟩
        go_wp2
        go_ret2
        exact ⟨rfl, ((hb1.trans (hb2.mono hb1.size)).trans (hb3.mono (Nat.le_trans hb1.size hb2.size))).trans (hb4.mono (Nat.le_trans (Nat.le_trans hb1.size hb2.size) hb3.size))⟩

/-- What Make returns. -/
def mkV (m n : List UInt8) : List UInt8 × Int :=
  if chkI m = 0 then (if chkI n = 0 then (if n = [48] then ([], 10) else Fr.out ((Fr.sv m : Rat) / (Fr.sv n : Rat))) else ([], chkI n)) else ([], chkI m)

theorem fMake_any (s t : ByteArray) (w : World) (hs : s.size ≤ 800) (ht : t.size ≤ 800) :
    Calls Tryd.prog 38 #[.string s, .string t] w (OutPost w (mkV s.data.toList t.data.toList)) := by
  unfold mkV
  by_cases h0 : chkI s.data.toList = 0
  · rw [if_pos h0]
    by_cases h : chkI t.data.toList = 0
    · rw [if_pos h]; exact make_rest s t w hs ht h0 h
    · rw [if_neg h]; exact make_second s t w hs ht h0 h
  · rw [if_neg h0]; exact make_first s t w hs h0

/-- What Of returns. -/
def ofV (a b : Int) : List UInt8 × Int := if b = 0 then ([], 10) else Fr.out ((a : Rat) / (b : Rat))
theorem chkI_itxt (a : Int) (h : -9223372036854775808 ≤ a ∧ a < 9223372036854775808) : chkI (Fr.itxt a) = 0 := by
  unfold chkI; rw [(Fr.itxt_int a).1, (Fr.itxt_len a h).1]; rfl
theorem itxt_zero (a : Int) : Fr.itxt a = [48] ↔ a = 0 := by
  constructor
  · intro h
    have h1 := (Fr.itxt_int a).2
    rw [h] at h1
    rw [← h1]; rfl
  · rintro rfl; rfl
theorem mkV_itxt (a b : Int) (ha : -9223372036854775808 ≤ a ∧ a < 9223372036854775808) (hb : -9223372036854775808 ≤ b ∧ b < 9223372036854775808) : mkV (Fr.itxt a) (Fr.itxt b) = ofV a b := by
  unfold mkV ofV
  rw [if_pos (chkI_itxt a ha), if_pos (chkI_itxt b hb), (Fr.itxt_int a).2, (Fr.itxt_int b).2]
  by_cases h : b = 0
  · rw [if_pos h, if_pos ((itxt_zero b).2 h)]
  · rw [if_neg h, if_neg (fun h1 => h ((itxt_zero b).1 h1))]

theorem fOf_any (a b : Int) (w : World) (hst : St w) (ha : -9223372036854775808 ≤ a ∧ a < 9223372036854775808) (hb : -9223372036854775808 ≤ b ∧ b < 9223372036854775808) :
    Calls Tryd.prog 18 #[.int .i64 a, .int .i64 b] w (OutPost w (ofV a b)) := by
  have CA := Lib.hid (Tryd.strconv_Itoa a ha.1 (by omega) w hst.pow10)
  have CB := fun W (hW : Below w.heap.size w W) => Lib.hid (Tryd.strconv_Itoa b hb.1 (by omega) W (hst.next hW).pow10)
  simp only [Fr.itoa_text] at CA CB
  have la : (ByteArray.mk (Fr.itxt a).toArray).size ≤ 800 := by have := (Fr.itxt_len a ha).2; simp [ByteArray.size]; omega
  have lb : (ByteArray.mk (Fr.itxt b).toArray).size ≤ 800 := by have := (Fr.itxt_len b hb).2; simp [ByteArray.size]; omega
  have CM := fun W => Lib.hid (fMake_any _ _ W la lb)
  have e : mkV (ByteArray.mk (Fr.itxt a).toArray).data.toList (ByteArray.mk (Fr.itxt b).toArray).data.toList = ofV a b := mkV_itxt a b ha hb
  rw [e] at CM
  clear hst la lb e
  generalize ofV a b = o at *
  generalize (Fr.itxt a).toArray = x at *
  generalize (Fr.itxt b).toArray = y at *
  clear ha hb
  go_enter Tryd.func18, Tryd.ntmps18
  go_wp2_with fail
  refine (CA.out).mono ?_
  rintro e w1 ⟨rfl, k, os, hw1⟩
  have hb1 : Below w.heap.size w w1 := by rw [hw1]; exact below_more w k os
  clear hw1
  go_wp2_with fail
  refine ((CB _ hb1).out).mono ?_
  rintro e w2 ⟨rfl, k2, os2, hw2⟩
  have hb2 : Below w1.heap.size w1 w2 := by rw [hw2]; exact below_more w1 k2 os2
  have hB2 := hb1.trans (hb2.mono hb1.size)
  clear hw2
  go_wp2_with fail
  refine ((CM _).out).mono ?_
  rintro e w3 ⟨rfl, hb3⟩
  go_wp2
  go_ret2
  exact ⟨rfl, hB2.trans (hb3.mono hB2.size)⟩

end Go.Proofs.YtmmcakeedejbnacDoor

namespace Go.Proofs.YtmmcakeedejbnacDoor
open Go.RowKit

/-- The text of a rational number. -/
def txB (q : Rat) : ByteArray := ⟨(Fr.text q).toArray⟩
theorem txB_list (q : Rat) : (txB q).data.toList = Fr.text q := rfl
theorem txB_size {q : Rat} (h : Fr.fits q = true) : (txB q).size ≤ 122 := Fr.text_len h
theorem txB_of {s : ByteArray} (h : Fr.chk s.data.toList = 0) : s = txB (Fr.rat s.data.toList) := bytes_eq (Fr.text_rat h).symm
theorem txB_inj {p q : Rat} : txB p = txB q ↔ p = q := by
  constructor
  · intro h
    exact Fr.text_inj.1 (congrArg (fun b : ByteArray => b.data.toList) h)
  · rintro rfl; rfl
theorem txB_beq (p q : Rat) : ((txB p).toList == (txB q).toList) = decide (p = q) := by
  rw [ByteArray.toList_eq, ByteArray.toList_eq, txB_list, txB_list]
  by_cases h : p = q
  · subst h; simp
  · rw [decide_eq_false h, beq_eq_false_iff_ne]
    exact fun e => h (Fr.text_inj.1 e)

def TxPost (w : World) (q : Rat) (e : Ending) (w' : World) : Prop := e = .returned (.tuple #[.string (txB q), .int .i64 0]) ∧ Below w.heap.size w w'

theorem bi_tx {p q : Rat} (hp : Fr.fits p = true) (hq : Fr.fits q = true) (o : List UInt8 × Int) : bi (Fr.text p) (Fr.text q) o = o := by
  unfold bi two
  rw [if_pos (Fr.chk_text hp), if_pos (Fr.chk_text hq)]
theorem out_tx {q : Rat} (h : Fr.fits q = true) : Fr.out q = (Fr.text q, 0) := by unfold Fr.out; rw [if_pos h]

section
variable {p q r : Rat} (hp : Fr.fits p = true) (hq : Fr.fits q = true) (hr : Fr.fits r = true) (w : World) (hst : St w)
include hp hst
include hq hr in
theorem add_tx (h : p + q = r) : Calls Tryd.prog 23 #[.string (txB p), .string (txB q)] w (TxPost w r) := by
  have h1 := fAdd_any (txB p) (txB q) w hst (Nat.le_trans (txB_size hp) (by omega)) (Nat.le_trans (txB_size hq) (by omega))
  rw [txB_list, txB_list, bi_tx hp hq, Fr.rat_text, Fr.rat_text, h, out_tx hr] at h1
  exact h1
include hq hr in
theorem sub_tx (h : p - q = r) : Calls Tryd.prog 20 #[.string (txB p), .string (txB q)] w (TxPost w r) := by
  have h1 := fSub_any (txB p) (txB q) w hst (Nat.le_trans (txB_size hp) (by omega)) (Nat.le_trans (txB_size hq) (by omega))
  rw [txB_list, txB_list, bi_tx hp hq, Fr.rat_text, Fr.rat_text, h, out_tx hr] at h1
  exact h1
include hq in
theorem cmp_tx {c : Int} (h : Fr.cmpQ p q = c) : Calls Tryd.prog 47 #[.string (txB p), .string (txB q)] w fun e w' => e = .returned (.tuple #[.int .i64 c, .int .i64 0]) ∧ Below w.heap.size w w' := by
  have h1 := fCompare_any (txB p) (txB q) w hst (Nat.le_trans (txB_size hp) (by omega)) (Nat.le_trans (txB_size hq) (by omega))
  unfold two at h1
  rw [txB_list, txB_list, if_pos (Fr.chk_text hp), Fr.chk_text hq, if_pos rfl, Fr.rat_text, Fr.rat_text, h] at h1
  exact h1
theorem check_tx : Calls Tryd.prog 40 #[.string (txB p)] w fun e w' => e = .returned (.int .i64 0) ∧ Below w.heap.size w w' := by
  have h1 := fCheck_any (txB p) w hst (Nat.le_trans (txB_size hp) (by omega))
  rw [txB_list, Fr.chk_text hp] at h1
  exact h1
end

theorem chkI_tx {z : Int} (h : Fr.fits (z : Rat) = true) : chkI (Fr.text (z : Rat)) = 0 := by
  have h1 := Fr.chk_text h
  obtain ⟨h2, _, h3, _⟩ := Fr.chk_zero h1
  have h4 := (Fr.cut_text (z : Rat)).1
  have e : Fr.numT (Fr.text (z : Rat)) = Fr.text (z : Rat) := by
    rw [h4]
    unfold Fr.text
    rw [show ((z : Int) : Rat).num = z from rfl, show ((z : Int) : Rat).den = 1 from rfl, if_pos rfl, List.append_nil]
  rw [e] at h2 h3
  unfold chkI
  rw [h2, h3]
  rfl
theorem sv_tx (z : Int) : Fr.sv (Fr.text (z : Rat)) = z := by
  have h := (Fr.sign_text (z : Rat)).2.2.2
  have e : (if ((z : Int) : Rat).num < 0 then [45] else []) ++ Fr.render ((z : Int) : Rat).num.natAbs = Fr.text (z : Rat) := by
    unfold Fr.text
    rw [show ((z : Int) : Rat).den = 1 from rfl, if_pos rfl, List.append_nil]
  rw [e] at h
  exact h
theorem text_zero_iff (z : Int) : Fr.text (z : Rat) = [48] ↔ z = 0 := by
  constructor
  · intro h
    have h1 := sv_tx z
    rw [h] at h1
    rw [← h1]; rfl
  · rintro rfl; rfl
theorem make_tx {m n : Int} {r : Rat} (hm : Fr.fits (m : Rat) = true) (hn : Fr.fits (n : Rat) = true) (h0 : n ≠ 0) (hr : Fr.fits r = true) (h : (m : Rat) / (n : Rat) = r) (w : World) :
    Calls Tryd.prog 38 #[.string (txB (m : Rat)), .string (txB (n : Rat))] w (TxPost w r) := by
  have h1 := fMake_any (txB (m : Rat)) (txB (n : Rat)) w (Nat.le_trans (txB_size hm) (by omega)) (Nat.le_trans (txB_size hn) (by omega))
  unfold mkV at h1
  rw [txB_list, txB_list, if_pos (chkI_tx hm), if_pos (chkI_tx hn), if_neg (fun e => h0 ((text_zero_iff n).1 e)), sv_tx, sv_tx, h, out_tx hr] at h1
  exact h1
theorem whole_tx (n : Int) (w : World) (hst : St w) (h0 : -9223372036854775808 ≤ n) (h1 : n ≤ 9223372036854775807) :
    Calls Tryd.prog 41 #[.int .i64 n] w fun e w' => e = .returned (.string (txB (n : Rat))) ∧ Below w.heap.size w w' := fWhole_any n w hst h0 h1

end Go.Proofs.YtmmcakeedejbnacDoor

namespace Go.Proofs.YtmmcakeedejbnacDoor
open Go.RowKit

def exA : ByteArray := ⟨#[51, 47, 50, 48]⟩
def exB : ByteArray := ⟨#[50, 47, 49, 53]⟩
def exC : ByteArray := ⟨#[45, 49, 49, 47, 52]⟩

theorem awake_add : bi exA.data.toList exB.data.toList (Fr.out (Fr.rat exA.data.toList + Fr.rat exB.data.toList)) = ([49, 55, 47, 54, 48], 0) := by decide +kernel
theorem awake_sub : bi exA.data.toList exB.data.toList (Fr.out (Fr.rat exA.data.toList - Fr.rat exB.data.toList)) = ([49, 47, 54, 48], 0) := by decide +kernel
theorem awake_mul : bi exA.data.toList exB.data.toList (Fr.out (Fr.rat exA.data.toList * Fr.rat exB.data.toList)) = ([49, 47, 53, 48], 0) := by decide +kernel
theorem awake_div : bi exA.data.toList exB.data.toList (divV (Fr.rat exA.data.toList) (Fr.rat exB.data.toList)) = ([57, 47, 56], 0) := by decide +kernel
theorem awake_floor : un exC.data.toList (Fr.out (((Fr.rat exC.data.toList).floor : Int) : Rat)) = ([45, 51], 0) := by decide +kernel
theorem awake_ceil : un exC.data.toList (Fr.out (-(((-(Fr.rat exC.data.toList)).floor : Int) : Rat))) = ([45, 50], 0) := by decide +kernel
theorem awake_of : ofV 26 (-10) = ([45, 49, 51, 47, 53], 0) := by decide +kernel
theorem awake_chk1 : Fr.chk (ByteArray.mk #[49, 50, 47, 56]).data.toList = 3 := by decide +kernel
theorem awake_chk2 : Fr.chk (ByteArray.mk #[52, 47, 49]).data.toList = 3 := by decide +kernel
theorem awake_whole : Fr.itxt (-7) = [45, 55] := by decide +kernel

end Go.Proofs.YtmmcakeedejbnacDoor

