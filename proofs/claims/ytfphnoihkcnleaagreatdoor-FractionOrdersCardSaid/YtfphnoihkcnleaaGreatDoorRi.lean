/- The contract of the reference's Check. -/
import Derived.Test.YtfphnoihkcnleaaGreatDoorRh
namespace Go.Proofs.YtfphnoihkcnleaaGreatDoor
open Go.RowKit

theorem rinteger_lit {s : ByteArray} {c : Int} (h : chkI s.data.toList = c) (hs : s.size ≤ 1000000) (w : World) :
    Calls Tryz.prog 56 #[.string s] w fun e w' => e = .returned (.int .i64 c) ∧ w = w' := by
  rw [← h]; exact rinteger_any s w hs

theorem chkI_three (l : List UInt8) : chkI l = 0 ∨ chkI l = 3 ∨ chkI l = 11 := by
  unfold chkI
  split
  · split
    · exact .inr (.inr rfl)
    · exact .inl rfl
  · exact .inr (.inl rfl)

/-- The last part of the check. -/
def badEnd (l : List UInt8) : Bool := Fr.isNeg (Fr.denT l) || ((Fr.cut l).2.isSome && decide (Fr.dv (Fr.denT l) ≤ 1)) || (Nat.gcd (Fr.dv (Fr.bare (Fr.numT l))) (Fr.dv (Fr.denT l)) != 1)
theorem chk_by (l : List UInt8) : Fr.chk l = if chkI (Fr.numT l) = 3 ∨ chkI (Fr.denT l) = 3 then 3 else if chkI (Fr.numT l) = 11 ∨ chkI (Fr.denT l) = 11 then 11 else if badEnd l = true then 3 else 0 := by
  unfold Fr.chk badEnd chkI
  cases h1 : Fr.isInt (Fr.numT l) <;> cases h2 : Fr.isInt (Fr.denT l) <;> cases h3 : Fr.isLong (Fr.numT l) <;> cases h4 : Fr.isLong (Fr.denT l) <;> simp
theorem chk_form {l : List UInt8} (h : chkI (Fr.numT l) = 3 ∨ chkI (Fr.denT l) = 3) : Fr.chk l = 3 := by rw [chk_by, if_pos h]
theorem chk_large {l : List UInt8} (h0 : ¬ (chkI (Fr.numT l) = 3 ∨ chkI (Fr.denT l) = 3)) (h : chkI (Fr.numT l) = 11 ∨ chkI (Fr.denT l) = 11) : Fr.chk l = 11 := by rw [chk_by, if_neg h0, if_pos h]
theorem chk_end {l : List UInt8} (h1 : chkI (Fr.numT l) = 0) (h2 : chkI (Fr.denT l) = 0) : Fr.chk l = if badEnd l = true then 3 else 0 := by
  rw [chk_by, h1, h2, if_neg (by omega), if_neg (by omega)]

theorem rCheck_early (s : ByteArray) (w : World) (hs : s.size ≤ 800) (c d : Int) (h1 : chkI (numB s).data.toList = c) (h2 : chkI (denB s).data.toList = d) (h : (c = 3) ∨ (c ≠ 3 ∧ d = 3) ∨ (c = 11 ∧ d ≠ 3) ∨ (c = 0 ∧ d = 11)) :
    Calls Tryz.prog 20 #[.string s] w fun e w' => e = .returned (.int .i64 (Fr.chk s.data.toList)) ∧ Below w.heap.size w w' := by
  have n1 := numB_size s
  have n2 := denB_size s
  have CS := Lib.hid (rSplit_any s w (by omega))
  have CN := Lib.hid (rinteger_lit h1 (by omega))
  have CD := Lib.hid (rinteger_lit h2 (by omega))
  have e1 : chkI (Fr.numT s.data.toList) = c := h1
  have e2 : chkI (Fr.denT s.data.toList) = d := h2
  rcases h with rfl | ⟨g, rfl⟩ | ⟨rfl, g⟩ | ⟨rfl, rfl⟩
  · rw [chk_form (.inl e1)]
    clear e1 e2 h1 h2 n1 n2 hs
    generalize numB s = a at *
    generalize denB s = b at *
    go_enter Tryz.func20, Tryz.ntmps20
    go_wp2_with (first
      | (go_at_call 50; refine (CS.out).mono ?_; rintro e w' ⟨rfl, n0, rfl⟩)
      | (go_at_call 56; (with_reducible refine (CN.out _).mono ?_); rintro e w' ⟨rfl, rfl⟩))
    go_ret
    exact ⟨rfl, below_drewN _ _⟩
  · rw [chk_form (.inr e2)]
    have b1 : (c == 3) = false := beq_eq_false_iff_ne.2 g
    clear e1 e2 h1 h2 n1 n2 hs g
    generalize numB s = a at *
    generalize denB s = b at *
    go_enter Tryz.func20, Tryz.ntmps20
    go_wp2_with (first
      | (go_at_call 50; refine (CS.out).mono ?_; rintro e w' ⟨rfl, n0, rfl⟩)
      | (go_at_call 56; (with_reducible refine (CN.out _).mono ?_); rintro e w' ⟨rfl, rfl⟩)
      | (go_at_call 56; (with_reducible refine (CD.out _).mono ?_); rintro e w' ⟨rfl, rfl⟩))
    go_ret
    exact ⟨rfl, below_drewN _ _⟩
  · rw [chk_large (by rw [e1, e2]; omega) (.inl e1)]
    have b1 : (d == 3) = false := beq_eq_false_iff_ne.2 g
    clear e1 e2 h1 h2 n1 n2 hs g
    generalize numB s = a at *
    generalize denB s = b at *
    go_enter Tryz.func20, Tryz.ntmps20
    go_wp2_with (first
      | (go_at_call 50; refine (CS.out).mono ?_; rintro e w' ⟨rfl, n0, rfl⟩)
      | (go_at_call 56; (with_reducible refine (CN.out _).mono ?_); rintro e w' ⟨rfl, rfl⟩)
      | (go_at_call 56; (with_reducible refine (CD.out _).mono ?_); rintro e w' ⟨rfl, rfl⟩))
    go_ret
    exact ⟨rfl, below_drewN _ _⟩
  · rw [chk_large (by rw [e1, e2]; omega) (.inr e2)]
    clear e1 e2 h1 h2 n1 n2 hs
    generalize numB s = a at *
    generalize denB s = b at *
    go_enter Tryz.func20, Tryz.ntmps20
    go_wp2_with (first
      | (go_at_call 50; refine (CS.out).mono ?_; rintro e w' ⟨rfl, n0, rfl⟩)
      | (go_at_call 56; (with_reducible refine (CN.out _).mono ?_); rintro e w' ⟨rfl, rfl⟩)
      | (go_at_call 56; (with_reducible refine (CD.out _).mono ?_); rintro e w' ⟨rfl, rfl⟩))
    go_ret
    exact ⟨rfl, below_drewN _ _⟩

theorem badEnd_none {l : List UInt8} (h : Fr.cut l = (l, none)) : badEnd l = false := by
  have hd : Fr.denT l = [49] := by unfold Fr.denT; rw [h]; rfl
  have hv : Fr.dv [49] = 1 := by decide
  unfold badEnd
  rw [hd, h, hv, Nat.gcd_one_right]
  rfl

theorem rslash_lit {s : ByteArray} (hs : s.size ≤ 1000000) (w : World) :
    Calls Tryz.prog 57 #[.string s] w fun e w' => ∃ r, e = .returned (.int .i64 r) ∧ w = w' ∧ ((r < 0 ∧ (Fr.cut s.data.toList).2.isSome = false) ∨ (¬ r < 0 ∧ (Fr.cut s.data.toList).2.isSome = true)) := by
  refine (rslash_any s w hs).mono ?_
  rintro e w' ⟨r, h1, h2, h3⟩
  refine ⟨r, h1, h2, ?_⟩
  rcases slash_cut h3 with ⟨h4, h5⟩ | ⟨h4, h5⟩
  · exact .inl ⟨h4, h5⟩
  · exact .inr ⟨by omega, h5⟩
theorem rslash_no {s : ByteArray} (hs : s.size ≤ 1000000) (h : (Fr.cut s.data.toList).2.isSome = false) (w : World) :
    Calls Tryz.prog 57 #[.string s] w fun e w' => ∃ r, e = .returned (.int .i64 r) ∧ w = w' ∧ r < 0 := by
  refine (rslash_lit hs w).mono ?_
  rintro e w' ⟨r, h1, h2, h3⟩
  refine ⟨r, h1, h2, ?_⟩
  rcases h3 with h3 | h3
  · exact h3.1
  · rw [h] at h3; cases h3.2
theorem rslash_yes {s : ByteArray} (hs : s.size ≤ 1000000) (h : (Fr.cut s.data.toList).2.isSome = true) (w : World) :
    Calls Tryz.prog 57 #[.string s] w fun e w' => ∃ r, e = .returned (.int .i64 r) ∧ w = w' ∧ ¬ r < 0 := by
  refine (rslash_lit hs w).mono ?_
  rintro e w' ⟨r, h1, h2, h3⟩
  refine ⟨r, h1, h2, ?_⟩
  rcases h3 with h3 | h3
  · rw [h] at h3; cases h3.2
  · exact h3.1

theorem rCheck_whole (s : ByteArray) (w : World) (hs : s.size ≤ 800) (h1 : chkI (numB s).data.toList = 0) (h2 : chkI (denB s).data.toList = 0) (hc : (Fr.cut s.data.toList).2.isSome = false) :
    Calls Tryz.prog 20 #[.string s] w fun e w' => e = .returned (.int .i64 (Fr.chk s.data.toList)) ∧ Below w.heap.size w w' := by
  have n1 := numB_size s
  have n2 := denB_size s
  have CS := Lib.hid (rSplit_any s w (by omega))
  have CN := Lib.hid (rinteger_lit h1 (by omega))
  have CD := Lib.hid (rinteger_lit h2 (by omega))
  have CL := Lib.hid (rslash_no (by omega) hc)
  have e0 : Fr.chk s.data.toList = 0 := by
    rw [chk_end h1 h2, badEnd_none]
    · rfl
    · have h := Fr.cut_join s.data.toList
      cases h3 : (Fr.cut s.data.toList).2 with
      | none => rw [h3] at h; simp only [List.append_nil] at h; exact Prod.ext h.symm h3
      | some m => rw [h3] at hc; cases hc
  rw [e0]
  clear e0 h1 h2 n1 n2 hs hc
  generalize numB s = a at *
  generalize denB s = b at *
  go_enter Tryz.func20, Tryz.ntmps20
  go_wp2_with (first
    | (go_at_call 50; refine (CS.out).mono ?_; rintro e w' ⟨rfl, n0, rfl⟩)
    | (go_at_call 56; (with_reducible refine (CN.out _).mono ?_); rintro e w' ⟨rfl, rfl⟩)
    | (go_at_call 56; (with_reducible refine (CD.out _).mono ?_); rintro e w' ⟨rfl, rfl⟩)
    | (go_at_call 57; refine (CL.out _).mono ?_; rintro e w' ⟨r, rfl, rfl, hr⟩))
  go_ret
  exact ⟨rfl, below_drewN _ _⟩

/-- What is known of a denominator that is written. -/
structure Den (l : List UInt8) : Prop where
  int : Fr.isInt (Fr.denT l) = true
  short : Fr.isLong (Fr.denT l) = false
  some : (Fr.cut l).2.isSome = true
theorem Den.pos {s : ByteArray} (h : Den s.data.toList) : 0 < (denB s).size := by
  have h1 := Fr.isInt_ne h.int
  rcases Nat.eq_zero_or_pos (denB s).size with h2 | h2
  · have h3 : Fr.denT s.data.toList = [] := List.eq_nil_of_length_eq_zero h2
    rw [h3] at h1
    exact absurd rfl h1
  · exact h2
theorem first_neg {d : ByteArray} (hp : 0 < d.size) : (((d[0]'hp).toNat : Int) = 45 ∧ Fr.isNeg d.data.toList = true) ∨ (¬ ((d[0]'hp).toNat : Int) = 45 ∧ Fr.isNeg d.data.toList = false) := by
  have h0 := getD_byte d 0 hp
  cases hl : d.data.toList with
  | nil => exact absurd (show d.data.toList.length = 0 by rw [hl]; rfl) (by show d.size ≠ 0; omega)
  | cons c l =>
    rw [hl] at h0
    have h1 : c = d[0]'hp := h0
    rw [← h1]
    unfold Fr.isNeg
    by_cases hc : c = 45
    · left; subst hc; exact ⟨rfl, rfl⟩
    · right
      refine ⟨fun h => hc (UInt8.toNat_inj.1 (by show c.toNat = 45; omega)), ?_⟩
      simpa using hc

theorem rCheck_neg (s : ByteArray) (w : World) (hs : s.size ≤ 800) (h1 : chkI (numB s).data.toList = 0) (h2 : chkI (denB s).data.toList = 0) (hc : (Fr.cut s.data.toList).2.isSome = true)
    (hd : Fr.isNeg (Fr.denT s.data.toList) = true ∨ (Fr.isNeg (Fr.denT s.data.toList) = false ∧ (Fr.denT s.data.toList = [48] ∨ Fr.denT s.data.toList = [49]))) :
    Calls Tryz.prog 20 #[.string s] w fun e w' => e = .returned (.int .i64 (Fr.chk s.data.toList)) ∧ Below w.heap.size w w' := by
  have n1 := numB_size s
  have n2 := denB_size s
  have hden : Den s.data.toList := ⟨(chkI_zero h2).1, (chkI_zero h2).2, hc⟩
  have hpos := hden.pos
  have CS := Lib.hid (rSplit_any s w (by omega))
  have CN := Lib.hid (rinteger_lit h1 (by omega))
  have CD := Lib.hid (rinteger_lit h2 (by omega))
  have CL := Lib.hid (rslash_yes (by omega) hc)
  have e0 : Fr.chk s.data.toList = 3 := by
    have hb : badEnd s.data.toList = true := by
      unfold badEnd
      rcases hd with h | ⟨_, h | h⟩
      · rw [h]; rfl
      · rw [h, hc]; simp; left; decide
      · rw [h, hc]; simp; left; decide
    rw [chk_end h1 h2, hb]
    rfl
  have hf := first_neg hpos
  have hdl : (denB s).data.toList = Fr.denT s.data.toList := rfl
  rw [hdl] at hf
  rw [e0]
  have htl : (denB s).toList = Fr.denT s.data.toList := by rw [ByteArray.toList_eq]; rfl
  have hway : (((denB s)[0]'hpos).toNat : Int) = 45 ∨ (¬ (((denB s)[0]'hpos).toNat : Int) = 45 ∧ ((denB s).toList == [48]) = true) ∨ (¬ (((denB s)[0]'hpos).toNat : Int) = 45 ∧ ((denB s).toList == [48]) = false ∧ ((denB s).toList == [49]) = true) := by
    rw [htl]
    rcases hd with h | ⟨h, h' | h'⟩
    · rw [h] at hf
      rcases hf with hf | hf
      · exact .inl hf.1
      · cases hf.2
    · rw [h] at hf
      rcases hf with hf | hf
      · cases hf.2
      · exact .inr (.inl ⟨hf.1, by rw [h']; rfl⟩)
    · rw [h] at hf
      rcases hf with hf | hf
      · cases hf.2
      · exact .inr (.inr ⟨hf.1, by rw [h']; rfl, by rw [h']; rfl⟩)
  clear e0 h1 h2 n1 n2 hs hc hd hf hdl htl hden
  generalize numB s = a at *
  generalize denB s = b at *
  rcases hway with f1 | ⟨f1, f2⟩ | ⟨f1, f2, f3⟩
  all_goals
    go_enter Tryz.func20, Tryz.ntmps20
    go_wp2_with (first
      | (go_at_call 50; refine (CS.out).mono ?_; rintro e w' ⟨rfl, n0, rfl⟩)
      | (go_at_call 56; (with_reducible refine (CN.out _).mono ?_); rintro e w' ⟨rfl, rfl⟩)
      | (go_at_call 56; (with_reducible refine (CD.out _).mono ?_); rintro e w' ⟨rfl, rfl⟩)
      | (go_at_call 57; refine (CL.out _).mono ?_; rintro e w' ⟨r, rfl, rfl, hr⟩))
    go_ret
    exact ⟨rfl, below_drewN _ _⟩

end Go.Proofs.YtfphnoihkcnleaaGreatDoor
