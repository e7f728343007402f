/- The contracts of the reference's Few, Short, Signum, Sign, Parts, both. -/
import Derived.Test.YtfphnoihkcnleaaGreatDoorRj
import Derived.Test.YtfphnoihkcnleaaGreatDoorSgn
namespace Go.Proofs.YtfphnoihkcnleaaGreatDoor
open Go.RowKit

theorem rFew_yes (s : ByteArray) (w : World) (h : s.size ≤ 180) : Calls Tryz.prog 11 #[.string s] w fun e w' => e = .returned (.bool true) ∧ w = w' := by
  go_enter Tryz.func11, Tryz.ntmps11
  go_wp2
  go_ret
  exact ⟨by simp; omega, rfl⟩
theorem rFew_no (s : ByteArray) (w : World) (hs : s.size ≤ 9223372036854775807) (h : ¬ s.size ≤ 180) : Calls Tryz.prog 11 #[.string s] w fun e w' => e = .returned (.bool false) ∧ w = w' := by
  go_enter Tryz.func11, Tryz.ntmps11
  go_wp2
  go_ret
  exact ⟨by simp; omega, rfl⟩
theorem rShort_any (s : ByteArray) (w : World) (hs : s.size ≤ 9223372036854775807) : Calls Tryz.prog 83 #[.string s] w fun e w' => e = .returned (.bool (decide (s.size ≤ 10))) ∧ w = w' := by
  go_enter Tryz.func83, Tryz.ntmps83
  go_wp2
  go_ret
  exact ⟨by simp; omega, rfl⟩

theorem frac_pos {s : ByteArray} (h : Fr.chk s.data.toList = 0) : 0 < s.size := by
  rcases Nat.eq_zero_or_pos s.size with h1 | h1
  · exact absurd (List.eq_nil_of_length_eq_zero (show s.data.toList.length = 0 from h1)) (Fr.frac_nonempty h)
  · exact h1

theorem rSignum_any (s : ByteArray) (w : World) (h : Fr.chk s.data.toList = 0) : Calls Tryz.prog 53 #[.string s] w fun e w' => e = .returned (.int .i64 (Fr.sgnQ (Fr.rat s.data.toList))) ∧ w = w' := by
  have hpos := frac_pos h
  have htl : s.toList = s.data.toList := ByteArray.toList_eq s
  rcases first_neg hpos with ⟨f1, hn⟩ | ⟨f1, hn⟩
  · rw [Fr.sgn_neg h hn]
    clear h hn htl
    go_enter Tryz.func53, Tryz.ntmps53
    go_wp2
    go_ret
    exact ⟨rfl, rfl⟩
  · by_cases h0 : s.data.toList = [48]
    · rw [Fr.sgn_zero h hn h0]
      have f2 : (s.toList == [48]) = true := by rw [htl, h0]; rfl
      clear h hn htl h0
      go_enter Tryz.func53, Tryz.ntmps53
      go_wp2
      go_ret
      exact ⟨rfl, rfl⟩
    · rw [Fr.sgn_pos h hn h0]
      have f2 : (s.toList == [48]) = false := by rw [htl]; simpa using h0
      clear h hn htl h0
      go_enter Tryz.func53, Tryz.ntmps53
      go_wp2
      go_ret
      exact ⟨rfl, rfl⟩

theorem rSign_any (s : ByteArray) (w : World) (hs : s.size ≤ 800) :
    Calls Tryz.prog 16 #[.string s] w fun e w' => e = .returned (.tuple #[.int .i64 (if Fr.chk s.data.toList = 0 then Fr.sgnQ (Fr.rat s.data.toList) else 0), .int .i64 (Fr.chk s.data.toList)]) ∧ Below w.heap.size w w' := by
  have CC := Lib.hid (rCheck_any s w hs)
  by_cases h : Fr.chk s.data.toList = 0
  · rw [if_pos h, h]
    rw [h] at CC
    have CS := fun W => Lib.hid (rSignum_any s W h)
    clear h
    generalize Fr.sgnQ (Fr.rat s.data.toList) = q at *
    go_enter Tryz.func16, Tryz.ntmps16
    go_wp2_with (first
      | (go_at_call 20; refine (CC.out).mono ?_; rintro e w1 ⟨rfl, hb1⟩)
      | (go_at_call 53; refine ((CS _).out).mono ?_; rintro e w' ⟨rfl, rfl⟩))
    go_ret2
    exact ⟨rfl, hb1⟩
  · rw [if_neg h]
    have hne : (Fr.chk s.data.toList != 0) = true := by simpa using h
    clear h
    generalize Fr.chk s.data.toList = c at *
    go_enter Tryz.func16, Tryz.ntmps16
    go_wp2_with (go_at_call 20; refine (CC.out).mono ?_; rintro e w1 ⟨rfl, hb1⟩)
    go_ret2
    exact ⟨rfl, hb1⟩

theorem rParts_any (s : ByteArray) (w : World) (hs : s.size ≤ 800) :
    Calls Tryz.prog 14 #[.string s] w fun e w' => e = .returned (.tuple #[.string (partsV s).1, .string (partsV s).2, .int .i64 (Fr.chk s.data.toList)]) ∧ Below w.heap.size w w' := by
  have CC := Lib.hid (rCheck_any s w hs)
  have CS := fun W => Lib.hid (rSplit_any s W (by omega))
  unfold partsV
  by_cases h : Fr.chk s.data.toList = 0
  · rw [if_pos h, h]
    rw [h] at CC
    clear h
    generalize numB s = a at *
    generalize denB s = b at *
    go_enter Tryz.func14, Tryz.ntmps14
    go_wp2_with (first
      | (go_at_call 20; refine (CC.out).mono ?_; rintro e w1 ⟨rfl, hb1⟩)
      | (go_at_call 50; refine ((CS _).out).mono ?_; rintro e w' ⟨rfl, n, rfl⟩))
    go_ret3
    exact ⟨rfl, hb1.trans (below_drewN _ _)⟩
  · rw [if_neg h]
    have hne : (Fr.chk s.data.toList != 0) = true := by simpa using h
    clear h
    generalize Fr.chk s.data.toList = c at *
    go_enter Tryz.func14, Tryz.ntmps14
    go_wp2_with (go_at_call 20; refine (CC.out).mono ?_; rintro e w1 ⟨rfl, hb1⟩)
    go_ret3
    exact ⟨rfl, hb1⟩

theorem rboth_any (s t : ByteArray) (w : World) (hs : s.size ≤ 800) (ht : t.size ≤ 800) :
    Calls Tryz.prog 65 #[.string s, .string t] w fun e w' => e = .returned (.int .i64 (two s.data.toList t.data.toList)) ∧ Below w.heap.size w w' := by
  have CC := Lib.hid (rCheck_any s w hs)
  have CD := fun W => Lib.hid (rCheck_any t W ht)
  unfold two
  by_cases h : Fr.chk s.data.toList = 0
  · rw [if_pos h]
    rw [h] at CC
    clear h
    generalize Fr.chk t.data.toList = d at *
    go_enter Tryz.func65, Tryz.ntmps65
    go_wp2_with fail
    refine (CC.out).mono ?_
    rintro e w1 ⟨rfl, hb1⟩
    go_wp2_with fail
    refine ((CD _).out).mono ?_
    rintro e w2 ⟨rfl, hb2⟩
    go_wp2
    go_ret
    exact ⟨rfl, hb1.trans (hb2.mono hb1.size)⟩
  · rw [if_neg h]
    have hne : (Fr.chk s.data.toList != 0) = true := by simpa using h
    clear h
    generalize Fr.chk s.data.toList = c at *
    go_enter Tryz.func65, Tryz.ntmps65
    go_wp2_with fail
    refine (CC.out).mono ?_
    rintro e w1 ⟨rfl, hb1⟩
    go_wp2
    go_ret
    exact ⟨rfl, hb1⟩

end Go.Proofs.YtfphnoihkcnleaaGreatDoor
