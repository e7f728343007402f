/- The contracts of the functions of the reference on texts: integer, slash, Split. -/
import Derived.Test.YtfphnoihkcnleaaGreatDoorRg
namespace Go.Proofs.YtfphnoihkcnleaaGreatDoor
open Go.RowKit

theorem rText_lit {s : ByteArray} {b : Bool} (h : Fr.isInt s.data.toList = b) (hs : s.size ≤ 1000000) (w : World) :
    Calls Tryz.prog 94 #[.string s] w fun e w' => e = .returned (.bool b) ∧ w = w' := by
  rw [← h]; exact rText_any s w hs
theorem bareB_size (s : ByteArray) : (bareB s).size = (Fr.bare s.data.toList).length := by simp [bareB, ByteArray.size]

theorem rinteger_any (s : ByteArray) (w : World) (hs : s.size ≤ 1000000) : Calls Tryz.prog 56 #[.string s] w fun e w' => e = .returned (.int .i64 (chkI s.data.toList)) ∧ w = w' := by
  have CB := Lib.hid (rbare_any s w)
  have hz := bareB_size s
  cases h : Fr.isInt s.data.toList with
  | false =>
    have CT := Lib.hid (rText_lit (s := s) h hs w)
    have hc : chkI s.data.toList = 3 := by unfold chkI; rw [h]; rfl
    rw [hc]
    clear h hz hc
    go_enter Tryz.func56, Tryz.ntmps56
    go_wp2_with (go_at_call 94; refine (CT.out).mono ?_; rintro e w' ⟨rfl, rfl⟩)
    go_ret
    exact ⟨rfl, rfl⟩
  | true =>
    have CT := Lib.hid (rText_lit (s := s) h hs w)
    by_cases hl : 60 < (Fr.bare s.data.toList).length
    · have hc : chkI s.data.toList = 11 := by unfold chkI Fr.isLong; rw [h, decide_eq_true hl]; rfl
      have hl2 : 60 < (bareB s).size := by rw [hz]; exact hl
      rw [hc]
      clear h hz hc hl
      generalize bareB s = d at *
      go_enter Tryz.func56, Tryz.ntmps56
      go_wp2_with (first
        | (go_at_call 94; refine (CT.out).mono ?_; rintro e w' ⟨rfl, rfl⟩)
        | (go_at_call 55; refine (CB.out).mono ?_; rintro e w' ⟨rfl, rfl⟩))
      go_ret
      exact ⟨rfl, rfl⟩
    · have hc : chkI s.data.toList = 0 := by unfold chkI Fr.isLong; rw [h, decide_eq_false hl]; rfl
      have hl2 : ¬ 60 < (bareB s).size := by rw [hz]; exact hl
      rw [hc]
      clear h hz hc hl
      generalize bareB s = d at *
      go_enter Tryz.func56, Tryz.ntmps56
      go_wp2_with (first
        | (go_at_call 94; refine (CT.out).mono ?_; rintro e w' ⟨rfl, rfl⟩)
        | (go_at_call 55; refine (CB.out).mono ?_; rintro e w' ⟨rfl, rfl⟩))
      go_ret
      exact ⟨rfl, rfl⟩

/-- Where the first stroke of a text is. -/
def SlashIs (l : List UInt8) (r : Int) : Prop := (r = -1 ∧ Fr.cut l = (l, none)) ∨ ∃ k : Nat, r = k ∧ k < l.length ∧ Fr.cut l = (l.take k, some (l.drop (k + 1)))
theorem slash_none {l : List UInt8} (h : ∀ i, i < l.length → l.getD i 0 ≠ 47) : SlashIs l (-1) := by
  refine .inl ⟨rfl, Fr.cut_none ?_⟩
  intro hm
  obtain ⟨i, hi, he⟩ := List.getElem_of_mem hm
  exact h i hi (by rw [List.getD_eq_getElem?_getD, List.getElem?_eq_getElem hi]; exact he)
theorem slash_some {l : List UInt8} {k : Nat} (hk : k < l.length) (h : ∀ i, i < k → l.getD i 0 ≠ 47) (he : l.getD k 0 = 47) : SlashIs l k := by
  refine .inr ⟨k, rfl, hk, ?_⟩
  have h1 : (47 : UInt8) ∉ l.take k := by
    intro hm
    obtain ⟨i, hi, he⟩ := List.getElem_of_mem hm
    rw [List.length_take] at hi
    refine h i (by omega) ?_
    rw [List.getElem_take] at he
    rw [List.getD_eq_getElem?_getD, List.getElem?_eq_getElem (by omega)]; exact he
  have h2 := Fr.cut_some (m := l.drop (k + 1)) h1
  have h3 : l.take k ++ 47 :: l.drop (k + 1) = l := by
    rw [List.getD_eq_getElem?_getD, List.getElem?_eq_getElem hk] at he
    have h4 : l[k] = 47 := he
    rw [← h4, List.getElem_cons_drop, List.take_append_drop]
  rw [h3] at h2
  exact h2

theorem getD_byte (s : ByteArray) (j : Nat) (hj : j < s.size) : s.data.toList.getD j 0 = s[j]'hj := by
  rw [List.getD_eq_getElem?_getD, List.getElem?_eq_getElem (by show j < s.data.toList.length; exact hj)]
  rfl

theorem rslash_any (s : ByteArray) (w : World) (hs : s.size ≤ 1000000) : Calls Tryz.prog 57 #[.string s] w fun e w' => ∃ r, e = .returned (.int .i64 r) ∧ w = w' ∧ SlashIs s.data.toList r := by
  have HLEN := Lib.hid (show s.data.toList.length = s.size from rfl)
  go_enter Tryz.func57, Tryz.ntmps57
  go_wp2
  go_loop [3] (fun u3 => ∃ j : Nat, j ≤ s.size ∧ u3 = .int .i64 j ∧ Hid (∀ i, i < j → s.data.toList.getD i 0 ≠ 47)) (fun u3 => s.size - (intOf u3).toNat)
  case atStart => exact ⟨0, Nat.zero_le _, rfl, Lib.hid fun i hi => by omega⟩
  case round =>
    obtain ⟨j, hj, rfl, HJ⟩ := hrel
    by_cases hjs : j < s.size
    · by_cases hc : s[j]'hjs = 47
      · have f1 : ((s[j]'hjs).toNat : Int) = 47 := by rw [hc]; rfl
        have HS := Lib.hid (slash_some (l := s.data.toList) (k := j) (by rw [HLEN.out]; exact hjs) HJ.out (by rw [getD_byte s j hjs]; exact hc))
        clear hc
        go_wp2
        go_ret
        exact ⟨_, rfl, rfl, HS.out⟩
      · have f1 : ¬ ((s[j]'hjs).toNat : Int) = 47 := by
          intro h; exact hc (UInt8.toNat_inj.1 (by show (s[j]'hjs).toNat = 47; omega))
        have HS : Hid (∀ i, i < j + 1 → s.data.toList.getD i 0 ≠ 47) := by
          intro i hi
          rcases Nat.lt_or_ge i j with h | h
          · exact HJ.out i h
          · rw [show i = j by omega, getD_byte s j hjs]; exact hc
        clear hc
        go_wp2
        go_round
        case rel => exact ⟨j + 1, by omega, by go_num, HS⟩
        case measure => simp [intOf]; omega
    · have HS := Lib.hid (slash_none (l := s.data.toList) (fun i hi => HJ.out i (by rw [HLEN.out] at hi; omega)))
      go_wp2
      go_ret
      exact ⟨_, rfl, rfl, HS.out⟩

theorem extract_list (s : ByteArray) (a b : Nat) : s.extract a b = ⟨((s.data.toList.drop a).take (b - a)).toArray⟩ := by
  have h := ByteArray.extract_mk s.data.toList a b
  have e : (ByteArray.mk s.data.toList.toArray) = s := by apply ByteArray.ext; simp
  rw [e] at h
  exact h

/-- What slash says of a text whose parts are known. -/
theorem slash_cut {l : List UInt8} {r : Int} (h : SlashIs l r) : (r < 0 ∧ (Fr.cut l).2.isSome = false) ∨ (0 ≤ r ∧ (Fr.cut l).2.isSome = true) := by
  rcases h with ⟨rfl, h⟩ | ⟨k, rfl, _, h⟩
  · exact .inl ⟨by omega, by rw [h]; rfl⟩
  · exact .inr ⟨by omega, by rw [h]; rfl⟩

theorem join_parts {l p m : List UInt8} (h : l = p ++ 47 :: m) : l.take p.length = p ∧ l.drop (p.length + 1) = m ∧ p.length < l.length := by
  subst h
  refine ⟨by simp, ?_, by simp⟩
  rw [show p.length + 1 = (p ++ [47]).length by simp, show p ++ 47 :: m = (p ++ [47]) ++ m by simp, List.drop_left]
theorem cut_take {l : List UInt8} {m : List UInt8} (h : (Fr.cut l).2 = some m) : SlashIs l (((Fr.cut l).1.length : Nat) : Int) := by
  have hj := Fr.cut_join l
  rw [h] at hj
  have h1 := join_parts hj
  refine .inr ⟨_, rfl, h1.2.2, ?_⟩
  rw [h1.1, h1.2.1]
  exact Prod.ext rfl h
/-- A text with a stroke, and its parts. -/
theorem slash_parts {s : ByteArray} {r : Int} {m : List UInt8} (h : SlashIs s.data.toList r) (hm : (Fr.cut s.data.toList).2 = some m) :
    r = ((numB s).size : Int) ∧ (numB s).size < s.size ∧ numB s = s.extract 0 (numB s).size ∧ denB s = s.extract ((numB s).size + 1) s.size := by
  have hl : s.data.toList.length = s.size := rfl
  rcases h with ⟨_, h⟩ | ⟨k, rfl, hk, h⟩
  · rw [h] at hm; cases hm
  · have hz : (numB s).size = k := by
      show (Fr.numT s.data.toList).length = k
      unfold Fr.numT
      rw [h, List.length_take]; omega
    have h1 : numB s = s.extract 0 k := by unfold numB Fr.numT; rw [h, extract_list]; simp
    have h2 : denB s = s.extract (k + 1) s.size := by
      unfold denB Fr.denT
      rw [h, extract_list, show (List.take (s.size - (k + 1)) (List.drop (k + 1) s.data.toList)) = List.drop (k + 1) s.data.toList from List.take_of_length_le (by rw [List.length_drop, hl]; exact Nat.le_refl _)]
      rfl
    rw [hz]
    exact ⟨rfl, by omega, h1, h2⟩

theorem rSplit_any (s : ByteArray) (w : World) (hs : s.size ≤ 1000000) : Calls Tryz.prog 50 #[.string s] w fun e w' => e = .returned (.tuple #[.string (numB s), .string (denB s)]) ∧ ∃ n, w' = w.drewN n := by
  have CS := rslash_any s w hs
  cases hm : (Fr.cut s.data.toList).2 with
  | none =>
    have hc : Fr.cut s.data.toList = (s.data.toList, none) := by
      have h := Fr.cut_join s.data.toList
      rw [hm] at h; simp only [List.append_nil] at h
      exact Prod.ext h.symm hm
    have h1 : numB s = s := by unfold numB Fr.numT; rw [hc]
    have h2 : denB s = ⟨#[49]⟩ := by unfold denB Fr.denT; rw [hc]; rfl
    rw [h1, h2]
    have CT := Lib.hid (CS.mono (R' := fun e w' => e = .returned (.int .i64 (-1)) ∧ w = w') fun e w' ⟨r, r1, r2, r3⟩ => by
      rcases r3 with ⟨rfl, _⟩ | ⟨k, _, _, h⟩
      · exact ⟨r1, r2⟩
      · rw [h] at hm; cases hm)
    clear h1 h2 hm hc CS
    go_enter Tryz.func50, Tryz.ntmps50
    go_wp2_with (go_at_call 57; refine (CT.out).mono ?_; rintro e w' ⟨rfl, rfl⟩)
    go_ret2
    exact ⟨rfl, 0, rfl⟩
  | some m =>
    obtain ⟨k, hk⟩ : ∃ k, (numB s).size = k := ⟨_, rfl⟩
    have CT := Lib.hid (CS.mono (R' := fun e w' => e = .returned (.int .i64 (k : Int)) ∧ w = w') fun e w' ⟨r, r1, r2, r3⟩ => by
      have h := (slash_parts r3 hm).1
      rw [hk] at h
      rw [← h]
      exact ⟨r1, r2⟩)
    have hr := cut_take hm
    have h := (slash_parts hr hm).2
    rw [hk] at h
    obtain ⟨h3, h1, h2⟩ := h
    rw [h1, h2]
    clear h1 h2 hr hm hk CS
    go_enter Tryz.func50, Tryz.ntmps50
    go_wp2_with (go_at_call 57; refine (CT.out).mono ?_; rintro e w' ⟨rfl, rfl⟩)
    have i1 : (k : Int) ≤ (s.size : Int) := by omega
    have i2 : (k : Int) + 1 ≤ (s.size : Int) := by omega
    go_quiet (fail)
    go_wp2
    go_ret2
    exact ⟨rfl, _, rfl⟩

end Go.Proofs.YtfphnoihkcnleaaGreatDoor
