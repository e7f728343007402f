/- The contracts of the functions of the reference on texts: bare, Text, integer, slash, Split. The contracts of the functions of the reference on texts: integer, slash, Split. The contract of the reference's Check. The contracts of the reference's Check and num. The contracts of the reference's Few, Short, Signum, Sign, Parts, both. -/
import Derived.Test.YtldclpdmcopgnaaGreatDoorPn
import Derived.Test.YtldclpdmcopgnaaGreatDoorRf
import Derived.Test.YtldclpdmcopgnaaGreatDoorNum
namespace Go.Proofs.YtldclpdmcopgnaaGreatDoor
open Go.RowKit

theorem rbare_any (s : ByteArray) (w : World) : Calls Tryz.prog 95 #[.string s] w fun e w' => e = .returned (.string (bareB s)) ∧ w = w' := by
  by_cases h0 : s.size = 0
  · have e0 : s.data.toList = [] := List.eq_nil_of_length_eq_zero h0
    have hb : bareB s = s := by unfold bareB; rw [e0]; apply ByteArray.ext; show (Fr.bare []).toArray = _; rw [← Array.toList_inj]; simpa [Fr.bare] using e0.symm
    rw [hb]
    clear hb e0
    go_enter Tryz.func95, Tryz.ntmps95
    go_wp2
    go_ret
    exact ⟨rfl, rfl⟩
  · have hpos : 0 < s.size := by omega
    obtain ⟨c, l, hl⟩ : ∃ c l, s.data.toList = c :: l := by
      cases h : s.data.toList with
      | nil => exact absurd (by show s.data.toList.length = 0; rw [h]; rfl) h0
      | cons c l => exact ⟨c, l, rfl⟩
    have hc : s[0]'hpos = c := by
      show s.data[0] = c
      have : s.data.toList[0]'(by rw [hl]; simp) = c := by simp [hl]
      simpa using this
    by_cases h45 : c = 45
    · have f1 : ((s[0]'hpos).toNat : Int) = 45 := by rw [hc, h45]; rfl
      have hb : bareB s = s.extract 1 s.size := by
        have e : s = ⟨(45 :: l).toArray⟩ := by
          apply ByteArray.ext; rw [← Array.toList_inj, hl, h45]
        have e2 : s.size = l.length + 1 := by show s.data.toList.length = _; rw [hl]; rfl
        rw [e2]
        unfold bareB
        rw [hl, h45, e, ByteArray.extract_mk]
        simp [Fr.bare]
      rw [hb]
      clear hb hl hc
      go_enter Tryz.func95, Tryz.ntmps95
      go_wp2
      go_ret
      exact ⟨rfl, rfl⟩
    · have f1 : ¬ ((s[0]'hpos).toNat : Int) = 45 := by
        rw [hc]; intro h; exact h45 (UInt8.toNat_inj.1 (by show c.toNat = 45; omega))
      have hb : bareB s = s := by
        unfold bareB
        apply ByteArray.ext
        rw [← Array.toList_inj, hl]
        show (Fr.bare (c :: l)).toArray.toList = _
        simp [Fr.bare, h45]
      rw [hb]
      clear hb hl hc
      go_enter Tryz.func95, Tryz.ntmps95
      go_wp2
      go_ret
      exact ⟨rfl, rfl⟩

theorem rText_any (s : ByteArray) (w : World) (hs : s.size ≤ 1000000) : Calls Tryz.prog 120 #[.string s] w fun e w' => e = .returned (.bool (Fr.isInt s.data.toList)) ∧ w = w' := by
  have CT := Lib.hid (rbare_any s w)
  have hl := bareB_list s
  have HL := Lib.hid hl
  have hsz : (bareB s).size ≤ 1000000 := by
    have h1 : (bareB s).size = (Fr.bare s.data.toList).length := by simp [bareB, ByteArray.size]
    have h2 : (Fr.bare s.data.toList).length ≤ s.data.toList.length := by
      cases s.data.toList with
      | nil => exact Nat.le_refl _
      | cons c l => simp only [Fr.bare]; split <;> simp
    have h3 : s.data.toList.length = s.size := rfl
    omega
  clear hl
  generalize bareB s = d at *
  by_cases h0 : d.size = 0
  · have e0 : d.data.toList = [] := List.eq_nil_of_length_eq_zero h0
    have hr : Fr.isInt s.data.toList = false := by unfold Fr.isInt; rw [← HL.out, e0]; rfl
    have e1 : d.toList = [] := by rw [ByteArray.toList_eq]; exact e0
    have z0 : ((d.size : Int) == 0) = true := by simp [h0]
    rw [hr]
    clear e0 hr HL h0
    go_enter Tryz.func120, Tryz.ntmps120
    go_wp2_with (go_at_call 95; refine (CT.out).mono ?_; rintro e w' ⟨rfl, rfl⟩)
    go_ret
    exact ⟨rfl, rfl⟩
  · have hpos : 0 < d.size := by omega
    have e1 : ¬ d.toList = [] := by
      rw [ByteArray.toList_eq]
      intro h
      have : d.size = 0 := by show d.data.toList.length = 0; rw [h]; rfl
      omega
    have e2 : d.toList.isEmpty = false := by simpa using e1
    have hne : Fr.bare s.data.toList ≠ [] := by rw [← HL.out, ← ByteArray.toList_eq]; exact e1
    have hhd : (Fr.bare s.data.toList).head? = some (d[0]'hpos) := by
      rw [← HL.out, List.head?_eq_getElem?, List.getElem?_eq_getElem (by show 0 < d.data.toList.length; exact hpos)]
      rfl
    have hlen1 : s.data.toList.length = 1 → s.data.toList = [48] ∨ d[0]'hpos ≠ 48 := by
      intro h
      match hs' : s.data.toList, h with
      | [c], _ =>
        by_cases hc : c = 48
        · left; rw [hc]
        · right
          intro hd
          rw [hd, hs'] at hhd
          simp only [Fr.bare] at hhd
          split at hhd
          · cases hhd
          · exact hc (by simpa using hhd)
    by_cases hB : d[0]'hpos = 48 ∧ s.data.toList ≠ [48]
    · have hr : Fr.isInt s.data.toList = false := by
        unfold Fr.isInt
        rw [hhd, hB.1]
        have : (s.data.toList.length == 1) = false := by
          rw [beq_eq_false_iff_ne]
          intro h
          rcases hlen1 h with h | h
          · exact hB.2 h
          · exact h hB.1
        rw [this]
        simp
      have f1 : ((d[0]'hpos).toNat : Int) = 48 := by rw [hB.1]; rfl
      have z0 : ((d.size : Int) == 0) = false := by rw [beq_eq_false_iff_ne]; omega
      have f2 : 1 < s.size := by
        have h3 : s.data.toList.length = s.size := rfl
        rcases Nat.lt_or_ge 1 s.size with h | h
        · exact h
        · exfalso
          rcases (show s.data.toList.length = 1 ∨ s.data.toList.length = 0 by omega) with h4 | h4
          · rcases hlen1 h4 with h5 | h5
            · exact hB.2 h5
            · exact h5 hB.1
          · have h5 : s.data.toList = [] := List.eq_nil_of_length_eq_zero h4
            rw [h5] at hne
            exact hne rfl
      rw [hr]
      clear hr HL h0 hB hne hhd hlen1
      go_enter Tryz.func120, Tryz.ntmps120
      go_wp2_with (go_at_call 95; refine (CT.out).mono ?_; rintro e w' ⟨rfl, rfl⟩)
      go_ret
      exact ⟨rfl, rfl⟩
    · have hr : Fr.isInt s.data.toList = d.data.toList.all Fr.isDig := by
        unfold Fr.isInt
        rw [hhd, HL.out]
        have h1 : (Fr.bare s.data.toList).isEmpty = false := by simpa using hne
        have h2 : ((some (d[0]'hpos) != some 48) || s.data.toList.length == 1) = true := by
          by_cases hc : d[0]'hpos = 48
          · have : s.data.toList = [48] := by
              by_cases h : s.data.toList = [48]
              · exact h
              · exact absurd ⟨hc, h⟩ hB
            rw [this]; simp
          · simp [hc]
        rw [h1, h2]
        rfl
      rw [hr]
      have hway : (((d[0]'hpos).toNat : Int) = 48 ∧ ¬ 1 < s.size) ∨ ¬ (((d[0]'hpos).toNat : Int) = 48) := by
        by_cases hc : d[0]'hpos = 48
        · left
          refine ⟨by rw [hc]; rfl, ?_⟩
          have : s.data.toList = [48] := by
            by_cases h : s.data.toList = [48]
            · exact h
            · exact absurd ⟨hc, h⟩ hB
          have h3 : s.data.toList.length = s.size := rfl
          rw [this] at h3
          simp at h3; omega
        · right
          intro h
          exact hc (UInt8.toNat_inj.1 (by show (d[0]'hpos).toNat = 48; omega))
      have hpart : ∀ j, (hj : j < d.size) → (d.data.toList.take (j + 1)).all Fr.isDig = ((d.data.toList.take j).all Fr.isDig && Fr.isDig (d[j]'hj)) := by
        intro j hj
        rw [List.take_succ_eq_append_getElem (by show j < d.data.toList.length; exact hj), List.all_append]
        simp
        rfl
      have HP := Lib.hid hpart
      clear hr HL h0 hB hne hhd hlen1 hpart
      obtain ⟨R, hR⟩ : ∃ R, d.data.toList.all Fr.isDig = R := ⟨_, rfl⟩
      rw [hR]
      have HR := Lib.hid hR
      have z0 : ((d.size : Int) == 0) = false := by rw [beq_eq_false_iff_ne]; omega
      clear hR
      rcases hway with ⟨f1, f2⟩ | f1
      all_goals
        go_enter Tryz.func120, Tryz.ntmps120
        go_wp2_with (go_at_call 95; refine (CT.out).mono ?_; rintro e w' ⟨rfl, rfl⟩)
        go_loop [4] (fun u4 => ∃ j : Nat, j ≤ d.size ∧ u4 = .int .i64 j ∧ Hid ((d.data.toList.take j).all Fr.isDig = true)) (fun u4 => d.size - (intOf u4).toNat)
        case atStart => exact ⟨0, Nat.zero_le _, rfl, rfl⟩
        case round =>
          obtain ⟨j, hj, rfl, HJ⟩ := hrel
          by_cases hjd : j < d.size
          · have hs1 := HP.out j hjd
            rw [HJ.out, Bool.true_and] at hs1
            have HS := Lib.hid hs1
            clear hs1
            by_cases g1 : (48 : Int) ≤ ((d[j]'hjd).toNat : Int)
            · by_cases g2 : ((d[j]'hjd).toNat : Int) ≤ 57
              · have hdig : Fr.isDig (d[j]'hjd) = true := by unfold Fr.isDig; simp; omega
                have HG := Lib.hid hdig
                clear hdig
                go_wp2
                go_round
                case rel => exact ⟨j + 1, by omega, by go_num, by unfold Hid; rw [HS.out]; exact HG.out⟩
                case measure => simp [intOf]; omega
              · have hdig : Fr.isDig (d[j]'hjd) = false := by unfold Fr.isDig; simp; omega
                have hfin : d.data.toList.all Fr.isDig = false := by
                  rw [List.all_eq_false]
                  exact ⟨d[j]'hjd, by show d.data[j] ∈ _; exact Array.getElem_mem_toList _, by rw [hdig]; simp⟩
                have HF := Lib.hid (show R = false by rw [← HR.out]; exact hfin)
                clear hdig hfin
                go_wp2
                go_ret
                rw [HF.out]
                exact ⟨rfl, rfl⟩
            · have hdig : Fr.isDig (d[j]'hjd) = false := by unfold Fr.isDig; simp; omega
              have hfin : d.data.toList.all Fr.isDig = false := by
                rw [List.all_eq_false]
                exact ⟨d[j]'hjd, by show d.data[j] ∈ _; exact Array.getElem_mem_toList _, by rw [hdig]; simp⟩
              have HF := Lib.hid (show R = false by rw [← HR.out]; exact hfin)
              clear hdig hfin
              go_wp2
              go_ret
              rw [HF.out]
              exact ⟨rfl, rfl⟩
          · have HF := Lib.hid (show R = true by
              have h := HJ.out
              rw [← HR.out]
              rw [List.take_of_length_le (by show d.data.toList.length ≤ j; have : d.data.toList.length = d.size := rfl; omega)] at h
              exact h)
            go_wp2
            go_ret
            rw [HF.out]
            exact ⟨rfl, rfl⟩


end Go.Proofs.YtldclpdmcopgnaaGreatDoor

namespace Go.Proofs.YtldclpdmcopgnaaGreatDoor
open Go.RowKit

theorem rText_lit {s : ByteArray} {b : Bool} (h : Fr.isInt s.data.toList = b) (hs : s.size ≤ 1000000) (w : World) :
    Calls Tryz.prog 120 #[.string s] w fun e w' => e = .returned (.bool b) ∧ w = w' := by
  rw [← h]; exact rText_any s w hs
theorem bareB_size (s : ByteArray) : (bareB s).size = (Fr.bare s.data.toList).length := by simp [bareB, ByteArray.size]

theorem rinteger_any (s : ByteArray) (w : World) (hs : s.size ≤ 1000000) : Calls Tryz.prog 90 #[.string s] w fun e w' => e = .returned (.int .i64 (chkI s.data.toList)) ∧ w = w' := by
  have CB := Lib.hid (rbare_any s w)
  have hz := bareB_size s
  cases h : Fr.isInt s.data.toList with
  | false =>
    have CT := Lib.hid (rText_lit (s := s) h hs w)
    have hc : chkI s.data.toList = 3 := by unfold chkI; rw [h]; rfl
    rw [hc]
    clear h hz hc
    go_enter Tryz.func90, Tryz.ntmps90
    go_wp2_with (go_at_call 120; refine (CT.out).mono ?_; rintro e w' ⟨rfl, rfl⟩)
    go_ret
    exact ⟨rfl, rfl⟩
  | true =>
    have CT := Lib.hid (rText_lit (s := s) h hs w)
    by_cases hl : 60 < (Fr.bare s.data.toList).length
    · have hc : chkI s.data.toList = 11 := by unfold chkI Fr.isLong; rw [h, decide_eq_true hl]; rfl
      have hl2 : 60 < (bareB s).size := by rw [hz]; exact hl
      rw [hc]
      clear h hz hc hl
      generalize bareB s = d at *
      go_enter Tryz.func90, Tryz.ntmps90
      go_wp2_with (first
        | (go_at_call 120; refine (CT.out).mono ?_; rintro e w' ⟨rfl, rfl⟩)
        | (go_at_call 95; refine (CB.out).mono ?_; rintro e w' ⟨rfl, rfl⟩))
      go_ret
      exact ⟨rfl, rfl⟩
    · have hc : chkI s.data.toList = 0 := by unfold chkI Fr.isLong; rw [h, decide_eq_false hl]; rfl
      have hl2 : ¬ 60 < (bareB s).size := by rw [hz]; exact hl
      rw [hc]
      clear h hz hc hl
      generalize bareB s = d at *
      go_enter Tryz.func90, Tryz.ntmps90
      go_wp2_with (first
        | (go_at_call 120; refine (CT.out).mono ?_; rintro e w' ⟨rfl, rfl⟩)
        | (go_at_call 95; refine (CB.out).mono ?_; rintro e w' ⟨rfl, rfl⟩))
      go_ret
      exact ⟨rfl, rfl⟩

/-- Where the first stroke of a text is. -/
def SlashIs (l : List UInt8) (r : Int) : Prop := (r = -1 ∧ Fr.cut l = (l, none)) ∨ ∃ k : Nat, r = k ∧ k < l.length ∧ Fr.cut l = (l.take k, some (l.drop (k + 1)))
theorem slash_none {l : List UInt8} (h : ∀ i, i < l.length → l.getD i 0 ≠ 47) : SlashIs l (-1) := by
  refine .inl ⟨rfl, Fr.cut_none ?_⟩
  intro hm
  obtain ⟨i, hi, he⟩ := List.getElem_of_mem hm
  exact h i hi (by rw [List.getD_eq_getElem?_getD, List.getElem?_eq_getElem hi]; exact he)
theorem slash_some {l : List UInt8} {k : Nat} (hk : k < l.length) (h : ∀ i, i < k → l.getD i 0 ≠ 47) (he : l.getD k 0 = 47) : SlashIs l k := by
  refine .inr ⟨k, rfl, hk, ?_⟩
  have h1 : (47 : UInt8) ∉ l.take k := by
    intro hm
    obtain ⟨i, hi, he⟩ := List.getElem_of_mem hm
    rw [List.length_take] at hi
    refine h i (by omega) ?_
    rw [List.getElem_take] at he
    rw [List.getD_eq_getElem?_getD, List.getElem?_eq_getElem (by omega)]; exact he
  have h2 := Fr.cut_some (m := l.drop (k + 1)) h1
  have h3 : l.take k ++ 47 :: l.drop (k + 1) = l := by
    rw [List.getD_eq_getElem?_getD, List.getElem?_eq_getElem hk] at he
    have h4 : l[k] = 47 := he
    rw [← h4, List.getElem_cons_drop, List.take_append_drop]
  rw [h3] at h2
  exact h2

theorem getD_byte (s : ByteArray) (j : Nat) (hj : j < s.size) : s.data.toList.getD j 0 = s[j]'hj := by
  rw [List.getD_eq_getElem?_getD, List.getElem?_eq_getElem (by show j < s.data.toList.length; exact hj)]
  rfl

theorem rslash_any (s : ByteArray) (w : World) (hs : s.size ≤ 1000000) : Calls Tryz.prog 91 #[.string s] w fun e w' => ∃ r, e = .returned (.int .i64 r) ∧ w = w' ∧ SlashIs s.data.toList r := by
  have HLEN := Lib.hid (show s.data.toList.length = s.size from rfl)
  go_enter Tryz.func91, Tryz.ntmps91
  go_wp2
  go_loop [3] (fun u3 => ∃ j : Nat, j ≤ s.size ∧ u3 = .int .i64 j ∧ Hid (∀ i, i < j → s.data.toList.getD i 0 ≠ 47)) (fun u3 => s.size - (intOf u3).toNat)
  case atStart => exact ⟨0, Nat.zero_le _, rfl, Lib.hid fun i hi => by omega⟩
  case round =>
    obtain ⟨j, hj, rfl, HJ⟩ := hrel
    by_cases hjs : j < s.size
    · by_cases hc : s[j]'hjs = 47
      · have f1 : ((s[j]'hjs).toNat : Int) = 47 := by rw [hc]; rfl
        have HS := Lib.hid (slash_some (l := s.data.toList) (k := j) (by rw [HLEN.out]; exact hjs) HJ.out (by rw [getD_byte s j hjs]; exact hc))
        clear hc
        go_wp2
        go_ret
        exact ⟨_, rfl, rfl, HS.out⟩
      · have f1 : ¬ ((s[j]'hjs).toNat : Int) = 47 := by
          intro h; exact hc (UInt8.toNat_inj.1 (by show (s[j]'hjs).toNat = 47; omega))
        have HS : Hid (∀ i, i < j + 1 → s.data.toList.getD i 0 ≠ 47) := by
          intro i hi
          rcases Nat.lt_or_ge i j with h | h
          · exact HJ.out i h
          · rw [show i = j by omega, getD_byte s j hjs]; exact hc
        clear hc
        go_wp2
        go_round
        case rel => exact ⟨j + 1, by omega, by go_num, HS⟩
        case measure => simp [intOf]; omega
    · have HS := Lib.hid (slash_none (l := s.data.toList) (fun i hi => HJ.out i (by rw [HLEN.out] at hi; omega)))
      go_wp2
      go_ret
      exact ⟨_, rfl, rfl, HS.out⟩

theorem extract_list (s : ByteArray) (a b : Nat) : s.extract a b = ⟨((s.data.toList.drop a).take (b - a)).toArray⟩ := by
  have h := ByteArray.extract_mk s.data.toList a b
  have e : (ByteArray.mk s.data.toList.toArray) = s := by apply ByteArray.ext; simp
  rw [e] at h
  exact h

/-- What slash says of a text whose parts are known. -/
theorem slash_cut {l : List UInt8} {r : Int} (h : SlashIs l r) : (r < 0 ∧ (Fr.cut l).2.isSome = false) ∨ (0 ≤ r ∧ (Fr.cut l).2.isSome = true) := by
  rcases h with ⟨rfl, h⟩ | ⟨k, rfl, _, h⟩
  · exact .inl ⟨by omega, by rw [h]; rfl⟩
  · exact .inr ⟨by omega, by rw [h]; rfl⟩

theorem join_parts {l p m : List UInt8} (h : l = p ++ 47 :: m) : l.take p.length = p ∧ l.drop (p.length + 1) = m ∧ p.length < l.length := by
  subst h
  refine ⟨by simp, ?_, by simp⟩
  rw [show p.length + 1 = (p ++ [47]).length by simp, show p ++ 47 :: m = (p ++ [47]) ++ m by simp, List.drop_left]
theorem cut_take {l : List UInt8} {m : List UInt8} (h : (Fr.cut l).2 = some m) : SlashIs l (((Fr.cut l).1.length : Nat) : Int) := by
  have hj := Fr.cut_join l
  rw [h] at hj
  have h1 := join_parts hj
  refine .inr ⟨_, rfl, h1.2.2, ?_⟩
  rw [h1.1, h1.2.1]
  exact Prod.ext rfl h
/-- A text with a stroke, and its parts. -/
theorem slash_parts {s : ByteArray} {r : Int} {m : List UInt8} (h : SlashIs s.data.toList r) (hm : (Fr.cut s.data.toList).2 = some m) :
    r = ((numB s).size : Int) ∧ (numB s).size < s.size ∧ numB s = s.extract 0 (numB s).size ∧ denB s = s.extract ((numB s).size + 1) s.size := by
  have hl : s.data.toList.length = s.size := rfl
  rcases h with ⟨_, h⟩ | ⟨k, rfl, hk, h⟩
  · rw [h] at hm; cases hm
  · have hz : (numB s).size = k := by
      show (Fr.numT s.data.toList).length = k
      unfold Fr.numT
      rw [h, List.length_take]; omega
    have h1 : numB s = s.extract 0 k := by unfold numB Fr.numT; rw [h, extract_list]; simp
    have h2 : denB s = s.extract (k + 1) s.size := by
      unfold denB Fr.denT
      rw [h, extract_list, show (List.take (s.size - (k + 1)) (List.drop (k + 1) s.data.toList)) = List.drop (k + 1) s.data.toList from List.take_of_length_le (by rw [List.length_drop, hl]; exact Nat.le_refl _)]
      rfl
    rw [hz]
    exact ⟨rfl, by omega, h1, h2⟩

theorem rSplit_any (s : ByteArray) (w : World) (hs : s.size ≤ 1000000) : Calls Tryz.prog 89 #[.string s] w fun e w' => e = .returned (.tuple #[.string (numB s), .string (denB s)]) ∧ ∃ n, w' = w.drewN n := by
  have CS := rslash_any s w hs
  cases hm : (Fr.cut s.data.toList).2 with
  | none =>
    have hc : Fr.cut s.data.toList = (s.data.toList, none) := by
      have h := Fr.cut_join s.data.toList
      rw [hm] at h; simp only [List.append_nil] at h
      exact Prod.ext h.symm hm
    have h1 : numB s = s := by unfold numB Fr.numT; rw [hc]
    have h2 : denB s = ⟨#[49]⟩ := by unfold denB Fr.denT; rw [hc]; rfl
    rw [h1, h2]
    have CT := Lib.hid (CS.mono (R' := fun e w' => e = .returned (.int .i64 (-1)) ∧ w = w') fun e w' ⟨r, r1, r2, r3⟩ => by
      rcases r3 with ⟨rfl, _⟩ | ⟨k, _, _, h⟩
      · exact ⟨r1, r2⟩
      · rw [h] at hm; cases hm)
    clear h1 h2 hm hc CS
    go_enter Tryz.func89, Tryz.ntmps89
    go_wp2_with (go_at_call 91; refine (CT.out).mono ?_; rintro e w' ⟨rfl, rfl⟩)
    go_ret2
    exact ⟨rfl, 0, rfl⟩
  | some m =>
    obtain ⟨k, hk⟩ : ∃ k, (numB s).size = k := ⟨_, rfl⟩
    have CT := Lib.hid (CS.mono (R' := fun e w' => e = .returned (.int .i64 (k : Int)) ∧ w = w') fun e w' ⟨r, r1, r2, r3⟩ => by
      have h := (slash_parts r3 hm).1
      rw [hk] at h
      rw [← h]
      exact ⟨r1, r2⟩)
    have hr := cut_take hm
    have h := (slash_parts hr hm).2
    rw [hk] at h
    obtain ⟨h3, h1, h2⟩ := h
    rw [h1, h2]
    clear h1 h2 hr hm hk CS
    go_enter Tryz.func89, Tryz.ntmps89
    go_wp2_with (go_at_call 91; refine (CT.out).mono ?_; rintro e w' ⟨rfl, rfl⟩)
    have i1 : (k : Int) ≤ (s.size : Int) := by omega
    have i2 : (k : Int) + 1 ≤ (s.size : Int) := by omega
    go_quiet (fail)
    go_wp2
    go_ret2
    exact ⟨rfl, _, rfl⟩

end Go.Proofs.YtldclpdmcopgnaaGreatDoor

namespace Go.Proofs.YtldclpdmcopgnaaGreatDoor
open Go.RowKit

theorem rinteger_lit {s : ByteArray} {c : Int} (h : chkI s.data.toList = c) (hs : s.size ≤ 1000000) (w : World) :
    Calls Tryz.prog 90 #[.string s] w fun e w' => e = .returned (.int .i64 c) ∧ w = w' := by
  rw [← h]; exact rinteger_any s w hs

theorem chkI_three (l : List UInt8) : chkI l = 0 ∨ chkI l = 3 ∨ chkI l = 11 := by
  unfold chkI
  split
  · split
    · exact .inr (.inr rfl)
    · exact .inl rfl
  · exact .inr (.inl rfl)

/-- The last part of the check. -/
def badEnd (l : List UInt8) : Bool := Fr.isNeg (Fr.denT l) || ((Fr.cut l).2.isSome && decide (Fr.dv (Fr.denT l) ≤ 1)) || (Nat.gcd (Fr.dv (Fr.bare (Fr.numT l))) (Fr.dv (Fr.denT l)) != 1)
theorem chk_by (l : List UInt8) : Fr.chk l = if chkI (Fr.numT l) = 3 ∨ chkI (Fr.denT l) = 3 then 3 else if chkI (Fr.numT l) = 11 ∨ chkI (Fr.denT l) = 11 then 11 else if badEnd l = true then 3 else 0 := by
  unfold Fr.chk badEnd chkI
  cases h1 : Fr.isInt (Fr.numT l) <;> cases h2 : Fr.isInt (Fr.denT l) <;> cases h3 : Fr.isLong (Fr.numT l) <;> cases h4 : Fr.isLong (Fr.denT l) <;> simp
theorem chk_form {l : List UInt8} (h : chkI (Fr.numT l) = 3 ∨ chkI (Fr.denT l) = 3) : Fr.chk l = 3 := by rw [chk_by, if_pos h]
theorem chk_large {l : List UInt8} (h0 : ¬ (chkI (Fr.numT l) = 3 ∨ chkI (Fr.denT l) = 3)) (h : chkI (Fr.numT l) = 11 ∨ chkI (Fr.denT l) = 11) : Fr.chk l = 11 := by rw [chk_by, if_neg h0, if_pos h]
theorem chk_end {l : List UInt8} (h1 : chkI (Fr.numT l) = 0) (h2 : chkI (Fr.denT l) = 0) : Fr.chk l = if badEnd l = true then 3 else 0 := by
  rw [chk_by, h1, h2, if_neg (by omega), if_neg (by omega)]

theorem rCheck_early (s : ByteArray) (w : World) (hs : s.size ≤ 800) (c d : Int) (h1 : chkI (numB s).data.toList = c) (h2 : chkI (denB s).data.toList = d) (h : (c = 3) ∨ (c ≠ 3 ∧ d = 3) ∨ (c = 11 ∧ d ≠ 3) ∨ (c = 0 ∧ d = 11)) :
    Calls Tryz.prog 51 #[.string s] w fun e w' => e = .returned (.int .i64 (Fr.chk s.data.toList)) ∧ Below w.heap.size w w' := by
  have n1 := numB_size s
  have n2 := denB_size s
  have CS := Lib.hid (rSplit_any s w (by omega))
  have CN := Lib.hid (rinteger_lit h1 (by omega))
  have CD := Lib.hid (rinteger_lit h2 (by omega))
  have e1 : chkI (Fr.numT s.data.toList) = c := h1
  have e2 : chkI (Fr.denT s.data.toList) = d := h2
  rcases h with rfl | ⟨g, rfl⟩ | ⟨rfl, g⟩ | ⟨rfl, rfl⟩
  · rw [chk_form (.inl e1)]
    clear e1 e2 h1 h2 n1 n2 hs
    generalize numB s = a at *
    generalize denB s = b at *
    go_enter Tryz.func51, Tryz.ntmps51
    go_wp2_with (first
      | (go_at_call 89; refine (CS.out).mono ?_; rintro e w' ⟨rfl, n0, rfl⟩)
      | (go_at_call 90; (with_reducible refine (CN.out _).mono ?_); rintro e w' ⟨rfl, rfl⟩))
    go_ret
    exact ⟨rfl, below_drewN _ _⟩
  · rw [chk_form (.inr e2)]
    have b1 : (c == 3) = false := beq_eq_false_iff_ne.2 g
    clear e1 e2 h1 h2 n1 n2 hs g
    generalize numB s = a at *
    generalize denB s = b at *
    go_enter Tryz.func51, Tryz.ntmps51
    go_wp2_with (first
      | (go_at_call 89; refine (CS.out).mono ?_; rintro e w' ⟨rfl, n0, rfl⟩)
      | (go_at_call 90; (with_reducible refine (CN.out _).mono ?_); rintro e w' ⟨rfl, rfl⟩)
      | (go_at_call 90; (with_reducible refine (CD.out _).mono ?_); rintro e w' ⟨rfl, rfl⟩))
    go_ret
    exact ⟨rfl, below_drewN _ _⟩
  · rw [chk_large (by rw [e1, e2]; omega) (.inl e1)]
    have b1 : (d == 3) = false := beq_eq_false_iff_ne.2 g
    clear e1 e2 h1 h2 n1 n2 hs g
    generalize numB s = a at *
    generalize denB s = b at *
    go_enter Tryz.func51, Tryz.ntmps51
    go_wp2_with (first
      | (go_at_call 89; refine (CS.out).mono ?_; rintro e w' ⟨rfl, n0, rfl⟩)
      | (go_at_call 90; (with_reducible refine (CN.out _).mono ?_); rintro e w' ⟨rfl, rfl⟩)
      | (go_at_call 90; (with_reducible refine (CD.out _).mono ?_); rintro e w' ⟨rfl, rfl⟩))
    go_ret
    exact ⟨rfl, below_drewN _ _⟩
  · rw [chk_large (by rw [e1, e2]; omega) (.inr e2)]
    clear e1 e2 h1 h2 n1 n2 hs
    generalize numB s = a at *
    generalize denB s = b at *
    go_enter Tryz.func51, Tryz.ntmps51
    go_wp2_with (first
      | (go_at_call 89; refine (CS.out).mono ?_; rintro e w' ⟨rfl, n0, rfl⟩)
      | (go_at_call 90; (with_reducible refine (CN.out _).mono ?_); rintro e w' ⟨rfl, rfl⟩)
      | (go_at_call 90; (with_reducible refine (CD.out _).mono ?_); rintro e w' ⟨rfl, rfl⟩))
    go_ret
    exact ⟨rfl, below_drewN _ _⟩

theorem badEnd_none {l : List UInt8} (h : Fr.cut l = (l, none)) : badEnd l = false := by
  have hd : Fr.denT l = [49] := by unfold Fr.denT; rw [h]; rfl
  have hv : Fr.dv [49] = 1 := by decide
  unfold badEnd
  rw [hd, h, hv, Nat.gcd_one_right]
  rfl

theorem rslash_lit {s : ByteArray} (hs : s.size ≤ 1000000) (w : World) :
    Calls Tryz.prog 91 #[.string s] w fun e w' => ∃ r, e = .returned (.int .i64 r) ∧ w = w' ∧ ((r < 0 ∧ (Fr.cut s.data.toList).2.isSome = false) ∨ (¬ r < 0 ∧ (Fr.cut s.data.toList).2.isSome = true)) := by
  refine (rslash_any s w hs).mono ?_
  rintro e w' ⟨r, h1, h2, h3⟩
  refine ⟨r, h1, h2, ?_⟩
  rcases slash_cut h3 with ⟨h4, h5⟩ | ⟨h4, h5⟩
  · exact .inl ⟨h4, h5⟩
  · exact .inr ⟨by omega, h5⟩
theorem rslash_no {s : ByteArray} (hs : s.size ≤ 1000000) (h : (Fr.cut s.data.toList).2.isSome = false) (w : World) :
    Calls Tryz.prog 91 #[.string s] w fun e w' => ∃ r, e = .returned (.int .i64 r) ∧ w = w' ∧ r < 0 := by
  refine (rslash_lit hs w).mono ?_
  rintro e w' ⟨r, h1, h2, h3⟩
  refine ⟨r, h1, h2, ?_⟩
  rcases h3 with h3 | h3
  · exact h3.1
  · rw [h] at h3; cases h3.2
theorem rslash_yes {s : ByteArray} (hs : s.size ≤ 1000000) (h : (Fr.cut s.data.toList).2.isSome = true) (w : World) :
    Calls Tryz.prog 91 #[.string s] w fun e w' => ∃ r, e = .returned (.int .i64 r) ∧ w = w' ∧ ¬ r < 0 := by
  refine (rslash_lit hs w).mono ?_
  rintro e w' ⟨r, h1, h2, h3⟩
  refine ⟨r, h1, h2, ?_⟩
  rcases h3 with h3 | h3
  · rw [h] at h3; cases h3.2
  · exact h3.1

theorem rCheck_whole (s : ByteArray) (w : World) (hs : s.size ≤ 800) (h1 : chkI (numB s).data.toList = 0) (h2 : chkI (denB s).data.toList = 0) (hc : (Fr.cut s.data.toList).2.isSome = false) :
    Calls Tryz.prog 51 #[.string s] w fun e w' => e = .returned (.int .i64 (Fr.chk s.data.toList)) ∧ Below w.heap.size w w' := by
  have n1 := numB_size s
  have n2 := denB_size s
  have CS := Lib.hid (rSplit_any s w (by omega))
  have CN := Lib.hid (rinteger_lit h1 (by omega))
  have CD := Lib.hid (rinteger_lit h2 (by omega))
  have CL := Lib.hid (rslash_no (by omega) hc)
  have e0 : Fr.chk s.data.toList = 0 := by
    rw [chk_end h1 h2, badEnd_none]
    · rfl
    · have h := Fr.cut_join s.data.toList
      cases h3 : (Fr.cut s.data.toList).2 with
      | none => rw [h3] at h; simp only [List.append_nil] at h; exact Prod.ext h.symm h3
      | some m => rw [h3] at hc; cases hc
  rw [e0]
  clear e0 h1 h2 n1 n2 hs hc
  generalize numB s = a at *
  generalize denB s = b at *
  go_enter Tryz.func51, Tryz.ntmps51
  go_wp2_with (first
    | (go_at_call 89; refine (CS.out).mono ?_; rintro e w' ⟨rfl, n0, rfl⟩)
    | (go_at_call 90; (with_reducible refine (CN.out _).mono ?_); rintro e w' ⟨rfl, rfl⟩)
    | (go_at_call 90; (with_reducible refine (CD.out _).mono ?_); rintro e w' ⟨rfl, rfl⟩)
    | (go_at_call 91; refine (CL.out _).mono ?_; rintro e w' ⟨r, rfl, rfl, hr⟩))
  go_ret
  exact ⟨rfl, below_drewN _ _⟩

/-- What is known of a denominator that is written. -/
structure Den (l : List UInt8) : Prop where
  int : Fr.isInt (Fr.denT l) = true
  short : Fr.isLong (Fr.denT l) = false
  some : (Fr.cut l).2.isSome = true
theorem Den.pos {s : ByteArray} (h : Den s.data.toList) : 0 < (denB s).size := by
  have h1 := Fr.isInt_ne h.int
  rcases Nat.eq_zero_or_pos (denB s).size with h2 | h2
  · have h3 : Fr.denT s.data.toList = [] := List.eq_nil_of_length_eq_zero h2
    rw [h3] at h1
    exact absurd rfl h1
  · exact h2
theorem first_neg {d : ByteArray} (hp : 0 < d.size) : (((d[0]'hp).toNat : Int) = 45 ∧ Fr.isNeg d.data.toList = true) ∨ (¬ ((d[0]'hp).toNat : Int) = 45 ∧ Fr.isNeg d.data.toList = false) := by
  have h0 := getD_byte d 0 hp
  cases hl : d.data.toList with
  | nil => exact absurd (show d.data.toList.length = 0 by rw [hl]; rfl) (by show d.size ≠ 0; omega)
  | cons c l =>
    rw [hl] at h0
    have h1 : c = d[0]'hp := h0
    rw [← h1]
    unfold Fr.isNeg
    by_cases hc : c = 45
    · left; subst hc; exact ⟨rfl, rfl⟩
    · right
      refine ⟨fun h => hc (UInt8.toNat_inj.1 (by show c.toNat = 45; omega)), ?_⟩
      simpa using hc

theorem rCheck_neg (s : ByteArray) (w : World) (hs : s.size ≤ 800) (h1 : chkI (numB s).data.toList = 0) (h2 : chkI (denB s).data.toList = 0) (hc : (Fr.cut s.data.toList).2.isSome = true)
    (hd : Fr.isNeg (Fr.denT s.data.toList) = true ∨ (Fr.isNeg (Fr.denT s.data.toList) = false ∧ (Fr.denT s.data.toList = [48] ∨ Fr.denT s.data.toList = [49]))) :
    Calls Tryz.prog 51 #[.string s] w fun e w' => e = .returned (.int .i64 (Fr.chk s.data.toList)) ∧ Below w.heap.size w w' := by
  have n1 := numB_size s
  have n2 := denB_size s
  have hden : Den s.data.toList := ⟨(chkI_zero h2).1, (chkI_zero h2).2, hc⟩
  have hpos := hden.pos
  have CS := Lib.hid (rSplit_any s w (by omega))
  have CN := Lib.hid (rinteger_lit h1 (by omega))
  have CD := Lib.hid (rinteger_lit h2 (by omega))
  have CL := Lib.hid (rslash_yes (by omega) hc)
  have e0 : Fr.chk s.data.toList = 3 := by
    have hb : badEnd s.data.toList = true := by
      unfold badEnd
      rcases hd with h | ⟨_, h | h⟩
      · rw [h]; rfl
      · rw [h, hc]; simp; left; decide
      · rw [h, hc]; simp; left; decide
    rw [chk_end h1 h2, hb]
    rfl
  have hf := first_neg hpos
  have hdl : (denB s).data.toList = Fr.denT s.data.toList := rfl
  rw [hdl] at hf
  rw [e0]
  have htl : (denB s).toList = Fr.denT s.data.toList := by rw [ByteArray.toList_eq]; rfl
  have hway : (((denB s)[0]'hpos).toNat : Int) = 45 ∨ (¬ (((denB s)[0]'hpos).toNat : Int) = 45 ∧ ((denB s).toList == [48]) = true) ∨ (¬ (((denB s)[0]'hpos).toNat : Int) = 45 ∧ ((denB s).toList == [48]) = false ∧ ((denB s).toList == [49]) = true) := by
    rw [htl]
    rcases hd with h | ⟨h, h' | h'⟩
    · rw [h] at hf
      rcases hf with hf | hf
      · exact .inl hf.1
      · cases hf.2
    · rw [h] at hf
      rcases hf with hf | hf
      · cases hf.2
      · exact .inr (.inl ⟨hf.1, by rw [h']; rfl⟩)
    · rw [h] at hf
      rcases hf with hf | hf
      · cases hf.2
      · exact .inr (.inr ⟨hf.1, by rw [h']; rfl, by rw [h']; rfl⟩)
  clear e0 h1 h2 n1 n2 hs hc hd hf hdl htl hden
  generalize numB s = a at *
  generalize denB s = b at *
  rcases hway with f1 | ⟨f1, f2⟩ | ⟨f1, f2, f3⟩
  all_goals
    go_enter Tryz.func51, Tryz.ntmps51
    go_wp2_with (first
      | (go_at_call 89; refine (CS.out).mono ?_; rintro e w' ⟨rfl, n0, rfl⟩)
      | (go_at_call 90; (with_reducible refine (CN.out _).mono ?_); rintro e w' ⟨rfl, rfl⟩)
      | (go_at_call 90; (with_reducible refine (CD.out _).mono ?_); rintro e w' ⟨rfl, rfl⟩)
      | (go_at_call 91; refine (CL.out _).mono ?_; rintro e w' ⟨r, rfl, rfl, hr⟩))
    go_ret
    exact ⟨rfl, below_drewN _ _⟩

end Go.Proofs.YtldclpdmcopgnaaGreatDoor

namespace Go.Proofs.YtldclpdmcopgnaaGreatDoor
open Go.RowKit

theorem bareB_le (s : ByteArray) : (bareB s).size ≤ s.size := by
  have h1 : (bareB s).size = (Fr.bare s.data.toList).length := bareB_size s
  have h2 : (Fr.bare s.data.toList).length ≤ s.data.toList.length := by
    cases s.data.toList with
    | nil => exact Nat.le_refl _
    | cons c l => simp only [Fr.bare]; split <;> simp
  have h3 : s.data.toList.length = s.size := rfl
  omega
theorem short_bare {s : ByteArray} (h : Fr.isLong s.data.toList = false) : (bareB s).size ≤ 60 := by
  unfold Fr.isLong at h
  have h1 := of_decide_eq_false h
  rw [bareB_size]; omega
theorem long_one (w : World) : IsNat .i64 1000000 (w.alloc (.cells #[.int .i64 1] 3)) (.slice (some ⟨w.heap.size, 0, none⟩) 1 1) 1 1 :=
  ⟨[1], (Row.one 0 _ _ _ (Nat.zero_le _) 1 _ rfl).sees, ⟨fun x hx => by rw [List.mem_singleton.1 hx]; omega, fun _ => by decide⟩, rfl, Nat.le_refl _⟩

theorem den_more {l : List UInt8} (h : Fr.isInt l = true) (hn : Fr.isNeg l = false) (h0 : l ≠ [48]) (h1 : l ≠ [49]) : 1 < Fr.dv l := by
  have h2 := Fr.isInt_render h
  rw [Fr.bare_of_not hn] at h2
  rcases Nat.lt_or_ge 1 (Fr.dv l) with h3 | h3
  · exact h3
  · exfalso
    rcases (show Fr.dv l = 0 ∨ Fr.dv l = 1 by omega) with h4 | h4
    · rw [h4] at h2; exact h0 h2.symm
    · rw [h4] at h2; exact h1 (h2.symm.trans (by decide))

set_option maxRecDepth 100000 in
set_option maxHeartbeats 1000000 in
theorem rCheck_rest (s : ByteArray) (w : World) (hs : s.size ≤ 800) (h1 : chkI (numB s).data.toList = 0) (h2 : chkI (denB s).data.toList = 0) (hc : (Fr.cut s.data.toList).2.isSome = true)
    (hd : Fr.isNeg (Fr.denT s.data.toList) = false) (hd0 : Fr.denT s.data.toList ≠ [48]) (hd1 : Fr.denT s.data.toList ≠ [49]) :
    Calls Tryz.prog 51 #[.string s] w fun e w' => e = .returned (.int .i64 (Fr.chk s.data.toList)) ∧ Below w.heap.size w w' := by
  have n1 := numB_size s
  have n2 := denB_size s
  have hden : Den s.data.toList := ⟨(chkI_zero h2).1, (chkI_zero h2).2, hc⟩
  have hpos := hden.pos
  have CS := Lib.hid (rSplit_any s w (by omega))
  have CN := Lib.hid (rinteger_lit h1 (by omega))
  have CD := Lib.hid (rinteger_lit h2 (by omega))
  have CL := Lib.hid (rslash_yes (by omega) hc)
  have CB := Lib.hid (rbare_any (numB s))
  have hm := den_more hden.int hd hd0 hd1
  have l1 := short_bare (s := numB s) (chkI_zero h1).2
  have l2 : (denB s).size ≤ 60 := by
    have h3 := short_bare (s := denB s) (chkI_zero h2).2
    have h4 : (bareB (denB s)).size = (Fr.bare (Fr.denT s.data.toList)).length := bareB_size (denB s)
    rw [Fr.bare_of_not hd] at h4
    have h5 : (denB s).size = (Fr.denT s.data.toList).length := rfl
    omega
  have k1 : (bareB (numB s)).data.toList.all Fr.isDig = true := Fr.isInt_all (chkI_zero h1).1
  have k2 : (denB s).data.toList.all Fr.isDig = true := by
    have h3 := Fr.isInt_all hden.int
    rw [Fr.bare_of_not hd] at h3
    exact h3
  have CR := fun W => Lib.hid (rread_own (bareB (numB s)) W (by omega) k1)
  have CQ := fun W => Lib.hid (rread_own (denB s) W (by omega) k2)
  have hv1 : Fr.dv (bareB (numB s)).data.toList = Fr.dv (Fr.bare (Fr.numT s.data.toList)) := rfl
  have hv2 : Fr.dv (denB s).data.toList = Fr.dv (Fr.denT s.data.toList) := rfl
  rw [hv1] at CR
  rw [hv2] at CQ
  have e0 : Fr.chk s.data.toList = if Nat.gcd (Fr.dv (Fr.bare (Fr.numT s.data.toList))) (Fr.dv (Fr.denT s.data.toList)) = 1 then 0 else 3 := by
    rw [chk_end h1 h2]
    unfold badEnd
    rw [hd, hc]
    have : decide (Fr.dv (Fr.denT s.data.toList) ≤ 1) = false := decide_eq_false (by omega)
    rw [this]
    by_cases hg : Nat.gcd (Fr.dv (Fr.bare (Fr.numT s.data.toList))) (Fr.dv (Fr.denT s.data.toList)) = 1
    · rw [if_pos hg, hg]; rfl
    · rw [if_neg hg]; simp [hg]
  rw [e0]
  have hf := first_neg hpos
  have hdl : (denB s).data.toList = Fr.denT s.data.toList := rfl
  rw [hdl, hd] at hf
  have htl : (denB s).toList = Fr.denT s.data.toList := by rw [ByteArray.toList_eq]; rfl
  have f1 : ¬ (((denB s)[0]'hpos).toNat : Int) = 45 := by
    rcases hf with hf | hf
    · cases hf.2
    · exact hf.1
  have f2 : ((denB s).toList == [48]) = false := by rw [htl]; simpa using hd0
  have f3 : ((denB s).toList == [49]) = false := by rw [htl]; simpa using hd1
  clear e0 h1 h2 n1 n2 hs hc hd hf hdl htl hden hd0 hd1 k1 k2 hv1 hv2
  obtain ⟨M, hM⟩ : ∃ M, Fr.dv (Fr.bare (Fr.numT s.data.toList)) = M := ⟨_, rfl⟩
  obtain ⟨K, hK⟩ : ∃ K, Fr.dv (Fr.denT s.data.toList) = K := ⟨_, rfl⟩
  rw [hM] at CR ⊢
  rw [hK] at CQ hm ⊢
  clear hM hK
  have hway : ∃ R c : Int, (if Nat.gcd M K = 1 then (0 : Int) else 3) = R ∧ Limb.cmpN (Nat.gcd M K) 1 = c ∧ ((R = 0 ∧ c = 0) ∨ (R = 3 ∧ (c != 0) = true)) := by
    refine ⟨_, _, rfl, rfl, ?_⟩
    by_cases hg : Nat.gcd M K = 1
    · exact .inl ⟨if_pos hg, Limb.cmp_eq hg⟩
    · refine .inr ⟨if_neg hg, ?_⟩
      rw [bne_iff_ne]
      intro h
      exact hg ((Limb.cmp_eq_zero _ _).1 h)
  obtain ⟨R, c, hR, hc, hway⟩ := hway
  rw [hR]
  have HC := Lib.hid hc
  clear hR hc
  generalize bareB (numB s) = ab at *
  generalize numB s = a at *
  generalize denB s = b at *
  rcases hway with ⟨rfl, rfl⟩ | ⟨rfl, hc0⟩
  all_goals
    go_enter Tryz.func51, Tryz.ntmps51
    go_wp2_with (first
      | (go_at_call 89; refine (CS.out).mono ?_; rintro e w' ⟨rfl, n0, rfl⟩)
      | (go_at_call 90; (with_reducible refine (CN.out _).mono ?_); rintro e w' ⟨rfl, rfl⟩)
      | (go_at_call 90; (with_reducible refine (CD.out _).mono ?_); rintro e w' ⟨rfl, rfl⟩)
      | (go_at_call 91; refine (CL.out _).mono ?_; rintro e w' ⟨r, rfl, rfl, hr⟩)
      | (go_at_call 95; refine (CB.out _).mono ?_; rintro e w' ⟨rfl, rfl⟩))
    refine ((CR _).out).mono ?_
    rintro e w1 ⟨r1, rfl, hb1, hr1, _⟩
    go_wp2_with fail
    refine ((CQ _).out).mono ?_
    rintro e w2 ⟨r2, rfl, hb2, hr2, _⟩
    have H1 := (hr1.below hb2 (Nat.le_refl _)).up (show ab.size / 6 + 1 ≤ 20 by omega)
    have H2 := hr2.up (show b.size / 6 + 1 ≤ 20 by omega)
    have hB2 := hb1.trans (hb2.mono hb1.size)
    clear hr1 hr2 hb2 hb1 CR CQ CS CN CD CL CB
    go_wp2_with fail
    refine (rshared_any _ _ M K 20 _ H1 H2 (by omega)).mono ?_
    rintro e w3 ⟨r3, rfl, hb3, hr3⟩
    have hB3 := hB2.trans (hb3.mono hB2.size)
    have hA := (Below.refl w3.heap.size w3).alloc (Nat.le_refl _) (.cells #[.int .i64 1] 3)
    have H3 := hr3.below hA (Nat.le_refl _)
    have hB4 := hB3.trans (hA.mono hB3.size)
    obtain ⟨r3a, r3l, r3c, rfl⟩ := hr3.form
    clear hr3 hb3 H1 H2 hA hB2 hB3
    go_wp2_with fail
    refine (rorder_nat H3 (long_one w3) HC.out).mono ?_
    rintro e w5 ⟨rfl, n5, rfl⟩
    go_wp2
    go_ret
    exact ⟨rfl, ((below_drewN w n0).trans hB4).trans (below_drewN _ _)⟩

theorem rCheck_any (s : ByteArray) (w : World) (hs : s.size ≤ 800) :
    Calls Tryz.prog 51 #[.string s] w fun e w' => e = .returned (.int .i64 (Fr.chk s.data.toList)) ∧ Below w.heap.size w w' := by
  have h1 := chkI_three (numB s).data.toList
  have h2 := chkI_three (denB s).data.toList
  obtain ⟨c, hc⟩ : ∃ c, chkI (numB s).data.toList = c := ⟨_, rfl⟩
  obtain ⟨d, hd⟩ : ∃ d, chkI (denB s).data.toList = d := ⟨_, rfl⟩
  by_cases h0 : c = 0 ∧ d = 0
  · obtain ⟨rfl, rfl⟩ := h0
    cases hs0 : (Fr.cut s.data.toList).2.isSome with
    | false => exact rCheck_whole s w hs hc hd hs0
    | true =>
      cases hn : Fr.isNeg (Fr.denT s.data.toList) with
      | true => exact rCheck_neg s w hs hc hd hs0 (.inl hn)
      | false =>
        by_cases e0 : Fr.denT s.data.toList = [48]
        · exact rCheck_neg s w hs hc hd hs0 (.inr ⟨hn, .inl e0⟩)
        · by_cases e1 : Fr.denT s.data.toList = [49]
          · exact rCheck_neg s w hs hc hd hs0 (.inr ⟨hn, .inr e1⟩)
          · exact rCheck_rest s w hs hc hd hs0 hn e0 e1
  · exact rCheck_early s w hs c d hc hd (by rw [hc] at h1; rw [hd] at h2; omega)

end Go.Proofs.YtldclpdmcopgnaaGreatDoor

namespace Go.Proofs.YtldclpdmcopgnaaGreatDoor
open Go.RowKit

theorem rFew_yes (s : ByteArray) (w : World) (h : s.size ≤ 180) : Calls Tryz.prog 12 #[.string s] w fun e w' => e = .returned (.bool true) ∧ w = w' := by
  go_enter Tryz.func12, Tryz.ntmps12
  go_wp2
  go_ret
  exact ⟨by simp; omega, rfl⟩
theorem rFew_no (s : ByteArray) (w : World) (hs : s.size ≤ 9223372036854775807) (h : ¬ s.size ≤ 180) : Calls Tryz.prog 12 #[.string s] w fun e w' => e = .returned (.bool false) ∧ w = w' := by
  go_enter Tryz.func12, Tryz.ntmps12
  go_wp2
  go_ret
  exact ⟨by simp; omega, rfl⟩
theorem rShort_any (s : ByteArray) (w : World) (hs : s.size ≤ 9223372036854775807) : Calls Tryz.prog 108 #[.string s] w fun e w' => e = .returned (.bool (decide (s.size ≤ 10))) ∧ w = w' := by
  go_enter Tryz.func108, Tryz.ntmps108
  go_wp2
  go_ret
  exact ⟨by simp; omega, rfl⟩

theorem frac_pos {s : ByteArray} (h : Fr.chk s.data.toList = 0) : 0 < s.size := by
  rcases Nat.eq_zero_or_pos s.size with h1 | h1
  · exact absurd (List.eq_nil_of_length_eq_zero (show s.data.toList.length = 0 from h1)) (Fr.frac_nonempty h)
  · exact h1

theorem rboth_any (s t : ByteArray) (w : World) (hs : s.size ≤ 800) (ht : t.size ≤ 800) :
    Calls Tryz.prog 100 #[.string s, .string t] w fun e w' => e = .returned (.int .i64 (two s.data.toList t.data.toList)) ∧ Below w.heap.size w w' := by
  have CC := Lib.hid (rCheck_any s w hs)
  have CD := fun W => Lib.hid (rCheck_any t W ht)
  unfold two
  by_cases h : Fr.chk s.data.toList = 0
  · rw [if_pos h]
    rw [h] at CC
    clear h
    generalize Fr.chk t.data.toList = d at *
    go_enter Tryz.func100, Tryz.ntmps100
    go_wp2_with fail
    refine (CC.out).mono ?_
    rintro e w1 ⟨rfl, hb1⟩
    go_wp2_with fail
    refine ((CD _).out).mono ?_
    rintro e w2 ⟨rfl, hb2⟩
    go_wp2
    go_ret
    exact ⟨rfl, hb1.trans (hb2.mono hb1.size)⟩
  · rw [if_neg h]
    have hne : (Fr.chk s.data.toList != 0) = true := by simpa using h
    clear h
    generalize Fr.chk s.data.toList = c at *
    go_enter Tryz.func100, Tryz.ntmps100
    go_wp2_with fail
    refine (CC.out).mono ?_
    rintro e w1 ⟨rfl, hb1⟩
    go_wp2
    go_ret
    exact ⟨rfl, hb1⟩

end Go.Proofs.YtldclpdmcopgnaaGreatDoor

