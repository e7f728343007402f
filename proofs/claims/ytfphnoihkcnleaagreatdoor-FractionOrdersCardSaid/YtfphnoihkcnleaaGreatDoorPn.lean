/- The contracts of Make, Of and Sum of package fraction. -/
import Derived.Test.YtfphnoihkcnleaaGreatDoorPm
namespace Go.Proofs.YtfphnoihkcnleaaGreatDoor
open Go.RowKit

/-- The error of an integer text. -/
def chkI (l : List UInt8) : Int := if Fr.isInt l then (if Fr.isLong l then 11 else 0) else 3
theorem chkI_zero {l : List UInt8} (h : chkI l = 0) : Fr.isInt l = true ∧ Fr.isLong l = false := by
  unfold chkI at h
  cases h1 : Fr.isInt l with
  | false => rw [h1] at h; simp at h
  | true =>
    cases h2 : Fr.isLong l with
    | false => exact ⟨rfl, rfl⟩
    | true => rw [h1, h2] at h; simp at h
theorem chkI_bad {l : List UInt8} (h : chkI l ≠ 0) : (Fr.isInt l = false ∧ chkI l = 3) ∨ (Fr.isInt l = true ∧ Fr.isLong l = true ∧ chkI l = 11) := by
  unfold chkI at h ⊢
  cases h1 : Fr.isInt l with
  | false => exact .inl ⟨rfl, rfl⟩
  | true =>
    cases h2 : Fr.isLong l with
    | false => rw [h1, h2] at h; simp at h
    | true => exact .inr ⟨rfl, rfl, rfl⟩

theorem pick0 (s t : ByteArray) (w : World) : (Instr.index 106 (.agg #[.string s, .string t]) (.int .i64 0)).run Tryz.prog w = .ok (.string s) w := by kernel_rfl
theorem pick1 (s t : ByteArray) (w : World) : (Instr.index 106 (.agg #[.string s, .string t]) (.int .i64 1)).run Tryz.prog w = .ok (.string t) w := by kernel_rfl

theorem make_first (s t : ByteArray) (w : World) (hs : s.size ≤ 800) (h : chkI s.data.toList ≠ 0) :
    Calls Tryz.prog 48 #[.string s, .string t] w (OutPost w ([], chkI s.data.toList)) := by
  have i0 := pick0 s t
  rcases chkI_bad h with ⟨h1, h2⟩ | ⟨h1, h3, h2⟩
  · rw [h2]
    have CN := Lib.hid (isInt_lit (s := s) h1 (by omega))
    clear h h1 h2
    go_enter Tryz.func48, Tryz.ntmps48
    go_wp2
    go_loop [11] (fun u11 => u11 = .int .i64 0) (fun u11 => 0)
    case atStart => exact rfl
    case round =>
      subst hrel
      go_wp2_with (go_at_call 84; (with_reducible refine (CN.out _).mono ?_); rintro e w' ⟨rfl, rfl⟩)
      go_ret2
      exact ⟨rfl, Below.refl _ _⟩
  · rw [h2]
    have CN := Lib.hid (isInt_lit (s := s) h1 (by omega))
    have CL := Lib.hid (isLong_lit (s := s) h3)
    clear h h1 h2 h3
    go_enter Tryz.func48, Tryz.ntmps48
    go_wp2
    go_loop [11] (fun u11 => u11 = .int .i64 0) (fun u11 => 0)
    case atStart => exact rfl
    case round =>
      subst hrel
      go_wp2_with (first
        | (go_at_call 84; (with_reducible refine (CN.out _).mono ?_); rintro e w' ⟨rfl, rfl⟩)
        | (go_at_call 85; (with_reducible refine (CL.out _).mono ?_); rintro e w' ⟨rfl, rfl⟩))
      go_ret2
      exact ⟨rfl, Below.refl _ _⟩

theorem make_second (s t : ByteArray) (w : World) (hs : s.size ≤ 800) (ht : t.size ≤ 800) (h0 : chkI s.data.toList = 0) (h : chkI t.data.toList ≠ 0) :
    Calls Tryz.prog 48 #[.string s, .string t] w (OutPost w ([], chkI t.data.toList)) := by
  have i0 := pick0 s t
  have i1 := pick1 s t
  obtain ⟨g1, g2⟩ := chkI_zero h0
  have CN := Lib.hid (isInt_lit (s := s) g1 (by omega))
  have CL := Lib.hid (isLong_lit (s := s) g2)
  rcases chkI_bad h with ⟨h1, h2⟩ | ⟨h1, h3, h2⟩
  · rw [h2]
    have DN := Lib.hid (isInt_lit (s := t) h1 (by omega))
    clear h h1 h2 h0 g1 g2
    go_enter Tryz.func48, Tryz.ntmps48
    go_wp2
    go_loop [11] (fun u11 => ∃ j : Nat, j ≤ 1 ∧ u11 = .int .i64 j) (fun u11 => 1 - (intOf u11).toNat)
    case atStart => exact ⟨0, by omega, rfl⟩
    case round =>
      obtain ⟨j, hj, rfl⟩ := hrel
      rcases (show j = 0 ∨ j = 1 by omega) with rfl | rfl
      · go_wp2_with (first
          | (go_at_call 84; (with_reducible refine (CN.out _).mono ?_); rintro e w' ⟨rfl, rfl⟩)
          | (go_at_call 85; (with_reducible refine (CL.out _).mono ?_); rintro e w' ⟨rfl, rfl⟩))
        go_round
        case rel => exact ⟨1, by omega, by go_num⟩
        case measure => simp [intOf]
      · go_wp2_with (go_at_call 84; (with_reducible refine (DN.out _).mono ?_); rintro e w' ⟨rfl, rfl⟩)
        go_ret2
        exact ⟨rfl, Below.refl _ _⟩
  · rw [h2]
    have DN := Lib.hid (isInt_lit (s := t) h1 (by omega))
    have DL := Lib.hid (isLong_lit (s := t) h3)
    clear h h1 h2 h0 g1 g2 h3
    go_enter Tryz.func48, Tryz.ntmps48
    go_wp2
    go_loop [11] (fun u11 => ∃ j : Nat, j ≤ 1 ∧ u11 = .int .i64 j) (fun u11 => 1 - (intOf u11).toNat)
    case atStart => exact ⟨0, by omega, rfl⟩
    case round =>
      obtain ⟨j, hj, rfl⟩ := hrel
      rcases (show j = 0 ∨ j = 1 by omega) with rfl | rfl
      · go_wp2_with (first
          | (go_at_call 84; (with_reducible refine (CN.out _).mono ?_); rintro e w' ⟨rfl, rfl⟩)
          | (go_at_call 85; (with_reducible refine (CL.out _).mono ?_); rintro e w' ⟨rfl, rfl⟩))
        go_round
        case rel => exact ⟨1, by omega, by go_num⟩
        case measure => simp [intOf]
      · go_wp2_with (first
          | (go_at_call 84; (with_reducible refine (DN.out _).mono ?_); rintro e w' ⟨rfl, rfl⟩)
          | (go_at_call 85; (with_reducible refine (DL.out _).mono ?_); rintro e w' ⟨rfl, rfl⟩))
        go_ret2
        exact ⟨rfl, Below.refl _ _⟩

theorem toList_eq_iff (t : ByteArray) (l : List UInt8) : (t.toList == l) = (t.data.toList == l) := by rw [ByteArray.toList_eq]

set_option maxRecDepth 100000 in
set_option maxHeartbeats 2000000 in
theorem make_rest (s t : ByteArray) (w : World) (hs : s.size ≤ 800) (ht : t.size ≤ 800) (h0 : chkI s.data.toList = 0) (h : chkI t.data.toList = 0) :
    Calls Tryz.prog 48 #[.string s, .string t] w (OutPost w (if t.data.toList = [48] then ([], 10) else Fr.out ((Fr.sv s.data.toList : Rat) / (Fr.sv t.data.toList : Rat)))) := by
  have i0 := pick0 s t
  have i1 := pick1 s t
  obtain ⟨g1, g2⟩ := chkI_zero h0
  have CN := Lib.hid (isInt_lit (s := s) g1 (by omega))
  have CL := Lib.hid (isLong_lit (s := s) g2)
  obtain ⟨h1, h2⟩ := chkI_zero h
  have DN := Lib.hid (isInt_lit (s := t) h1 (by omega))
  have DL := Lib.hid (isLong_lit (s := t) h2)
  by_cases hz : t.data.toList = [48]
  · rw [if_pos hz]
    have hz2 : (t.toList == [48]) = true := by rw [toList_eq_iff, hz]; rfl
    clear h h1 h2 h0 g1 g2 hz
    go_enter Tryz.func48, Tryz.ntmps48
    go_wp2
    go_loop [11] (fun u11 => ∃ j : Nat, j ≤ 2 ∧ u11 = .int .i64 j) (fun u11 => 2 - (intOf u11).toNat)
    case atStart => exact ⟨0, by omega, rfl⟩
    case round =>
      obtain ⟨j, hj, rfl⟩ := hrel
      rcases (show j = 0 ∨ j = 1 ∨ j = 2 by omega) with rfl | rfl | rfl
      · go_wp2_with (first
          | (go_at_call 84; (with_reducible refine (CN.out _).mono ?_); rintro e w' ⟨rfl, rfl⟩)
          | (go_at_call 85; (with_reducible refine (CL.out _).mono ?_); rintro e w' ⟨rfl, rfl⟩))
        go_round
        case rel => exact ⟨1, by omega, by go_num⟩
        case measure => simp [intOf]
      · go_wp2_with (first
          | (go_at_call 84; (with_reducible refine (DN.out _).mono ?_); rintro e w' ⟨rfl, rfl⟩)
          | (go_at_call 85; (with_reducible refine (DL.out _).mono ?_); rintro e w' ⟨rfl, rfl⟩))
        go_round
        case rel => exact ⟨2, by omega, by go_num⟩
        case measure => simp [intOf]
      · go_wp2
        go_ret2
        exact ⟨rfl, Below.refl _ _⟩
  · rw [if_neg hz]
    have hz2 : (t.toList == [48]) = false := by rw [toList_eq_iff]; simpa using hz
    have hpos : 0 < Fr.dv (Fr.bare t.data.toList) := by
      rcases Nat.eq_zero_or_pos (Fr.dv (Fr.bare t.data.toList)) with h9 | h9
      · exfalso
        have h8 := Fr.isInt_render h1
        rw [h9] at h8
        rcases Fr.isInt_head h1 with h7 | h7
        · rw [← h8] at h7; exact h7 rfl
        · exact hz h7
      · exact h9
    have IS := fun W => Lib.hid (integer_any s W (by omega) (Fr.isInt_all g1))
    have IT := fun W => Lib.hid (integer_any t W (by omega) (Fr.isInt_all h1))
    have hq : Fr.num (Fr.isNeg s.data.toList) (Fr.dv (Fr.bare s.data.toList)) 1 / Fr.num (Fr.isNeg t.data.toList) (Fr.dv (Fr.bare t.data.toList)) 1 = ((Fr.sv s.data.toList : Rat) / (Fr.sv t.data.toList : Rat)) := by
      rw [Fr.num_int, Fr.num_int]; rfl
    rw [← hq]
    clear h h1 h2 h0 g1 g2 hz hq
    generalize Fr.isNeg s.data.toList = b at *
    generalize Fr.isNeg t.data.toList = c at *
    generalize Fr.dv (Fr.bare s.data.toList) = m at *
    generalize Fr.dv (Fr.bare t.data.toList) = k at *
    go_enter Tryz.func48, Tryz.ntmps48
    go_wp2
    go_loop [11] (fun u11 => ∃ j : Nat, j ≤ 2 ∧ u11 = .int .i64 j) (fun u11 => 2 - (intOf u11).toNat)
    case atStart => exact ⟨0, by omega, rfl⟩
    case round =>
      obtain ⟨j, hj, rfl⟩ := hrel
      rcases (show j = 0 ∨ j = 1 ∨ j = 2 by omega) with rfl | rfl | rfl
      · go_wp2_with (first
          | (go_at_call 84; (with_reducible refine (CN.out _).mono ?_); rintro e w' ⟨rfl, rfl⟩)
          | (go_at_call 85; (with_reducible refine (CL.out _).mono ?_); rintro e w' ⟨rfl, rfl⟩))
        go_round
        case rel => exact ⟨1, by omega, by go_num⟩
        case measure => simp [intOf]
      · go_wp2_with (first
          | (go_at_call 84; (with_reducible refine (DN.out _).mono ?_); rintro e w' ⟨rfl, rfl⟩)
          | (go_at_call 85; (with_reducible refine (DL.out _).mono ?_); rintro e w' ⟨rfl, rfl⟩))
        go_round
        case rel => exact ⟨2, by omega, by go_num⟩
        case measure => simp [intOf]
      · go_wp2_with fail
        refine ((IS _).out).mono ?_
        rintro e w1 ⟨x, rfl, hb1, hx, _⟩
        go_wp2_with fail
        refine ((IT _).out).mono ?_
        rintro e w2 ⟨y, rfl, hb2, hy, _⟩
        go_wp2_with fail
        refine (divide_any x y b c m 1 k 1 120 120 w2 (hx.below hb2 (Nat.le_refl _)) hy (by omega) hpos (by omega) (by omega) (by omega)).mono ?_
        rintro e w3 ⟨z, rfl, hb3, hz, _⟩
        go_wp2_with fail
        refine (frac_q hz (by omega)).mono ?_
        rintro e w4 ⟨rfl, hb4⟩
        go_wp2
        go_ret2
        exact ⟨rfl, ((hb1.trans (hb2.mono hb1.size)).trans (hb3.mono (Nat.le_trans hb1.size hb2.size))).trans (hb4.mono (Nat.le_trans (Nat.le_trans hb1.size hb2.size) hb3.size))⟩

/-- What Make returns. -/
def mkV (m n : List UInt8) : List UInt8 × Int :=
  if chkI m = 0 then (if chkI n = 0 then (if n = [48] then ([], 10) else Fr.out ((Fr.sv m : Rat) / (Fr.sv n : Rat))) else ([], chkI n)) else ([], chkI m)

theorem fMake_any (s t : ByteArray) (w : World) (hs : s.size ≤ 800) (ht : t.size ≤ 800) :
    Calls Tryz.prog 48 #[.string s, .string t] w (OutPost w (mkV s.data.toList t.data.toList)) := by
  unfold mkV
  by_cases h0 : chkI s.data.toList = 0
  · rw [if_pos h0]
    by_cases h : chkI t.data.toList = 0
    · rw [if_pos h]; exact make_rest s t w hs ht h0 h
    · rw [if_neg h]; exact make_second s t w hs ht h0 h
  · rw [if_neg h0]; exact make_first s t w hs h0

/-- What Of returns. -/
def ofV (a b : Int) : List UInt8 × Int := if b = 0 then ([], 10) else Fr.out ((a : Rat) / (b : Rat))
theorem chkI_itxt (a : Int) (h : -9223372036854775808 ≤ a ∧ a < 9223372036854775808) : chkI (Fr.itxt a) = 0 := by
  unfold chkI; rw [(Fr.itxt_int a).1, (Fr.itxt_len a h).1]; rfl
theorem itxt_zero (a : Int) : Fr.itxt a = [48] ↔ a = 0 := by
  constructor
  · intro h
    have h1 := (Fr.itxt_int a).2
    rw [h] at h1
    rw [← h1]; rfl
  · rintro rfl; rfl
theorem mkV_itxt (a b : Int) (ha : -9223372036854775808 ≤ a ∧ a < 9223372036854775808) (hb : -9223372036854775808 ≤ b ∧ b < 9223372036854775808) : mkV (Fr.itxt a) (Fr.itxt b) = ofV a b := by
  unfold mkV ofV
  rw [if_pos (chkI_itxt a ha), if_pos (chkI_itxt b hb), (Fr.itxt_int a).2, (Fr.itxt_int b).2]
  by_cases h : b = 0
  · rw [if_pos h, if_pos ((itxt_zero b).2 h)]
  · rw [if_neg h, if_neg (fun h1 => h ((itxt_zero b).1 h1))]

theorem fOf_any (a b : Int) (w : World) (hst : St w) (ha : -9223372036854775808 ≤ a ∧ a < 9223372036854775808) (hb : -9223372036854775808 ≤ b ∧ b < 9223372036854775808) :
    Calls Tryz.prog 21 #[.int .i64 a, .int .i64 b] w (OutPost w (ofV a b)) := by
  have CA := Lib.hid (Tryz.strconv_Itoa a ha.1 (by omega) w hst.pow10)
  have CB := fun W (hW : Below w.heap.size w W) => Lib.hid (Tryz.strconv_Itoa b hb.1 (by omega) W (hst.next hW).pow10)
  simp only [Fr.itoa_text] at CA CB
  have la : (ByteArray.mk (Fr.itxt a).toArray).size ≤ 800 := by have := (Fr.itxt_len a ha).2; simp [ByteArray.size]; omega
  have lb : (ByteArray.mk (Fr.itxt b).toArray).size ≤ 800 := by have := (Fr.itxt_len b hb).2; simp [ByteArray.size]; omega
  have CM := fun W => Lib.hid (fMake_any _ _ W la lb)
  have e : mkV (ByteArray.mk (Fr.itxt a).toArray).data.toList (ByteArray.mk (Fr.itxt b).toArray).data.toList = ofV a b := mkV_itxt a b ha hb
  rw [e] at CM
  clear hst la lb e
  generalize ofV a b = o at *
  generalize (Fr.itxt a).toArray = x at *
  generalize (Fr.itxt b).toArray = y at *
  clear ha hb
  go_enter Tryz.func21, Tryz.ntmps21
  go_wp2_with fail
  refine (CA.out).mono ?_
  rintro e w1 ⟨rfl, k, os, hw1⟩
  have hb1 : Below w.heap.size w w1 := by rw [hw1]; exact below_more w k os
  clear hw1
  go_wp2_with fail
  refine ((CB _ hb1).out).mono ?_
  rintro e w2 ⟨rfl, k2, os2, hw2⟩
  have hb2 : Below w1.heap.size w1 w2 := by rw [hw2]; exact below_more w1 k2 os2
  have hB2 := hb1.trans (hb2.mono hb1.size)
  clear hw2
  go_wp2_with fail
  refine ((CM _).out).mono ?_
  rintro e w3 ⟨rfl, hb3⟩
  go_wp2
  go_ret2
  exact ⟨rfl, hB2.trans (hb3.mono hB2.size)⟩

end Go.Proofs.YtfphnoihkcnleaaGreatDoor
