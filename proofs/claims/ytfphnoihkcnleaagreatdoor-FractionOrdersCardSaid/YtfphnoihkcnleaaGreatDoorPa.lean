/- The contracts of the functions of package fraction on texts: isInteger, isLong, split. -/
import Derived.Test.YtfphnoihkcnleaaGreatDoorNh
import Derived.Test.YtfphnoihkcnleaaGreatDoorShelf
namespace Go.Proofs.YtfphnoihkcnleaaGreatDoor
open Go.RowKit

/-- A text without its sign. -/
def bareB (s : ByteArray) : ByteArray := ⟨(Fr.bare s.data.toList).toArray⟩
theorem bareB_list (s : ByteArray) : (bareB s).data.toList = Fr.bare s.data.toList := rfl

theorem hasPrefix_dash (l : List UInt8) : Lib.hasPrefix l [45] = Fr.isNeg l := by
  cases l with
  | nil => rfl
  | cons c l => simp [Lib.hasPrefix, Fr.isNeg, List.isPrefixOf]; exact Bool.beq_comm
theorem trimPrefix_dash (l : List UInt8) : Lib.trimPrefix l [45] = Fr.bare l := by
  unfold Lib.trimPrefix
  rw [hasPrefix_dash]
  cases l with
  | nil => rfl
  | cons c l =>
    simp only [Fr.isNeg, Fr.bare]
    by_cases h : c = 45 <;> simp [h]

theorem trim_any (s : ByteArray) (w : World) : Calls Tryz.prog 107 #[.string s, .string ⟨#[45]⟩] w fun e w' => e = .returned (.string (bareB s)) ∧ w = w' := by
  have h := Tryz.strings_TrimPrefix s ⟨#[45]⟩ w
  refine h.mono fun e w' ⟨h1, h2⟩ => ⟨?_, h2.symm⟩
  rw [h1]
  have : Lib.trimPrefix s.data.toList (ByteArray.mk #[45]).data.toList = Fr.bare s.data.toList := trimPrefix_dash _
  rw [this]
  rfl
theorem cutPrefix_any (s : ByteArray) (w : World) : Calls Tryz.prog 109 #[.string s, .string ⟨#[45]⟩] w fun e w' => e = .returned (.tuple #[.string (bareB s), .bool (Fr.isNeg s.data.toList)]) ∧ w = w' := by
  have h := Tryz.strings_CutPrefix s ⟨#[45]⟩ w
  refine h.mono fun e w' ⟨h1, h2⟩ => ⟨?_, h2.symm⟩
  rw [h1]
  have h3 : Lib.trimPrefix s.data.toList (ByteArray.mk #[45]).data.toList = Fr.bare s.data.toList := trimPrefix_dash _
  have h4 : Lib.hasPrefix s.data.toList (ByteArray.mk #[45]).data.toList = Fr.isNeg s.data.toList := hasPrefix_dash _
  rw [h3, h4]
  rfl

theorem isLong_any (s : ByteArray) (w : World) : Calls Tryz.prog 85 #[.string s] w fun e w' => e = .returned (.bool (Fr.isLong s.data.toList)) ∧ w = w' := by
  have h1 : (bareB s).size = (Fr.bare s.data.toList).length := by simp [bareB, ByteArray.size]
  have h2 : Fr.isLong s.data.toList = decide ((60 : Int) < ((bareB s).size : Int)) := by unfold Fr.isLong; rw [h1]; simp; omega
  rw [h2]
  go_enter Tryz.func85, Tryz.ntmps85
  go_wp2_with (go_at_call 107; refine (trim_any _ _).mono ?_; rintro e w' ⟨rfl, rfl⟩)
  go_ret
  exact ⟨rfl, rfl⟩

theorem isInteger_any (s : ByteArray) (w : World) (hs : s.size ≤ 1000000) : Calls Tryz.prog 84 #[.string s] w fun e w' => e = .returned (.bool (Fr.isInt s.data.toList)) ∧ w = w' := by
  have CT := Lib.hid (trim_any s w)
  have hl := bareB_list s
  have HL := Lib.hid hl
  have hsz : (bareB s).size ≤ 1000000 := by
    have h1 : (bareB s).size = (Fr.bare s.data.toList).length := by simp [bareB, ByteArray.size]
    have h2 : (Fr.bare s.data.toList).length ≤ s.data.toList.length := by
      cases s.data.toList with
      | nil => exact Nat.le_refl _
      | cons c l => simp only [Fr.bare]; split <;> simp
    have h3 : s.data.toList.length = s.size := rfl
    omega
  clear hl
  generalize bareB s = d at *
  by_cases h0 : d.size = 0
  · have e0 : d.data.toList = [] := List.eq_nil_of_length_eq_zero h0
    have hr : Fr.isInt s.data.toList = false := by unfold Fr.isInt; rw [← HL.out, e0]; rfl
    have e1 : d.toList = [] := by rw [ByteArray.toList_eq]; exact e0
    rw [hr]
    clear e0 hr HL h0
    go_enter Tryz.func84, Tryz.ntmps84
    go_wp2_with (go_at_call 107; refine (CT.out).mono ?_; rintro e w' ⟨rfl, rfl⟩)
    go_ret
    exact ⟨rfl, rfl⟩
  · have hpos : 0 < d.size := by omega
    have e1 : ¬ d.toList = [] := by
      rw [ByteArray.toList_eq]
      intro h
      have : d.size = 0 := by show d.data.toList.length = 0; rw [h]; rfl
      omega
    have e2 : d.toList.isEmpty = false := by simpa using e1
    have hne : Fr.bare s.data.toList ≠ [] := by rw [← HL.out, ← ByteArray.toList_eq]; exact e1
    have hhd : (Fr.bare s.data.toList).head? = some (d[0]'hpos) := by
      rw [← HL.out, List.head?_eq_getElem?, List.getElem?_eq_getElem (by show 0 < d.data.toList.length; exact hpos)]
      rfl
    have hlen1 : s.data.toList.length = 1 → s.data.toList = [48] ∨ d[0]'hpos ≠ 48 := by
      intro h
      match hs' : s.data.toList, h with
      | [c], _ =>
        by_cases hc : c = 48
        · left; rw [hc]
        · right
          intro hd
          rw [hd, hs'] at hhd
          simp only [Fr.bare] at hhd
          split at hhd
          · cases hhd
          · exact hc (by simpa using hhd)
    by_cases hB : d[0]'hpos = 48 ∧ s.data.toList ≠ [48]
    · have hr : Fr.isInt s.data.toList = false := by
        unfold Fr.isInt
        rw [hhd, hB.1]
        have : (s.data.toList.length == 1) = false := by
          rw [beq_eq_false_iff_ne]
          intro h
          rcases hlen1 h with h | h
          · exact hB.2 h
          · exact h hB.1
        rw [this]
        simp
      have f1 : ((d[0]'hpos).toNat : Int) = 48 := by rw [hB.1]; rfl
      have f2 : (!s.toList == [48]) = true := by rw [ByteArray.toList_eq]; simpa using hB.2
      rw [hr]
      clear hr HL h0 hB hne hhd hlen1
      go_enter Tryz.func84, Tryz.ntmps84
      go_wp2_with (go_at_call 107; refine (CT.out).mono ?_; rintro e w' ⟨rfl, rfl⟩)
      go_ret
      exact ⟨rfl, rfl⟩
    · have hr : Fr.isInt s.data.toList = d.data.toList.all Fr.isDig := by
        unfold Fr.isInt
        rw [hhd, HL.out]
        have h1 : (Fr.bare s.data.toList).isEmpty = false := by simpa using hne
        have h2 : ((some (d[0]'hpos) != some 48) || s.data.toList.length == 1) = true := by
          by_cases hc : d[0]'hpos = 48
          · have : s.data.toList = [48] := by
              by_cases h : s.data.toList = [48]
              · exact h
              · exact absurd ⟨hc, h⟩ hB
            rw [this]; simp
          · simp [hc]
        rw [h1, h2]
        rfl
      rw [hr]
      have hway : (((d[0]'hpos).toNat : Int) = 48 ∧ (!s.toList == [48]) = false) ∨ ¬ (((d[0]'hpos).toNat : Int) = 48) := by
        by_cases hc : d[0]'hpos = 48
        · left
          refine ⟨by rw [hc]; rfl, ?_⟩
          have : s.data.toList = [48] := by
            by_cases h : s.data.toList = [48]
            · exact h
            · exact absurd ⟨hc, h⟩ hB
          rw [ByteArray.toList_eq, this]; rfl
        · right
          intro h
          exact hc (UInt8.toNat_inj.1 (by show (d[0]'hpos).toNat = 48; omega))
      have hpart : ∀ j, (hj : j < d.size) → (d.data.toList.take (j + 1)).all Fr.isDig = ((d.data.toList.take j).all Fr.isDig && Fr.isDig (d[j]'hj)) := by
        intro j hj
        rw [List.take_succ_eq_append_getElem (by show j < d.data.toList.length; exact hj), List.all_append]
        simp
        rfl
      have HP := Lib.hid hpart
      clear hr HL h0 hB hne hhd hlen1 hpart
      obtain ⟨R, hR⟩ : ∃ R, d.data.toList.all Fr.isDig = R := ⟨_, rfl⟩
      rw [hR]
      have HR := Lib.hid hR
      clear hR
      rcases hway with ⟨f1, f2⟩ | f1
      all_goals
        go_enter Tryz.func84, Tryz.ntmps84
        go_wp2_with (go_at_call 107; refine (CT.out).mono ?_; rintro e w' ⟨rfl, rfl⟩)
        go_loop [20] (fun u20 => ∃ j : Nat, j ≤ d.size ∧ u20 = .int .i64 j ∧ Hid ((d.data.toList.take j).all Fr.isDig = true)) (fun u20 => d.size - (intOf u20).toNat)
        case atStart => exact ⟨0, Nat.zero_le _, rfl, rfl⟩
        case round =>
          obtain ⟨j, hj, rfl, HJ⟩ := hrel
          by_cases hjd : j < d.size
          · have hs1 := HP.out j hjd
            rw [HJ.out, Bool.true_and] at hs1
            have HS := Lib.hid hs1
            clear hs1
            by_cases g1 : (48 : Int) ≤ ((d[j]'hjd).toNat : Int)
            · by_cases g2 : ((d[j]'hjd).toNat : Int) ≤ 57
              · have hdig : Fr.isDig (d[j]'hjd) = true := by unfold Fr.isDig; simp; omega
                have HG := Lib.hid hdig
                clear hdig
                go_wp2
                go_round
                case rel => exact ⟨j + 1, by omega, by go_num, by unfold Hid; rw [HS.out]; exact HG.out⟩
                case measure => simp [intOf]; omega
              · have hdig : Fr.isDig (d[j]'hjd) = false := by unfold Fr.isDig; simp; omega
                have hfin : d.data.toList.all Fr.isDig = false := by
                  rw [List.all_eq_false]
                  exact ⟨d[j]'hjd, by show d.data[j] ∈ _; exact Array.getElem_mem_toList _, by rw [hdig]; simp⟩
                have HF := Lib.hid (show R = false by rw [← HR.out]; exact hfin)
                clear hdig hfin
                go_wp2
                go_ret
                rw [HF.out]
                exact ⟨rfl, rfl⟩
            · have hdig : Fr.isDig (d[j]'hjd) = false := by unfold Fr.isDig; simp; omega
              have hfin : d.data.toList.all Fr.isDig = false := by
                rw [List.all_eq_false]
                exact ⟨d[j]'hjd, by show d.data[j] ∈ _; exact Array.getElem_mem_toList _, by rw [hdig]; simp⟩
              have HF := Lib.hid (show R = false by rw [← HR.out]; exact hfin)
              clear hdig hfin
              go_wp2
              go_ret
              rw [HF.out]
              exact ⟨rfl, rfl⟩
          · have HF := Lib.hid (show R = true by
              have h := HJ.out
              rw [← HR.out]
              rw [List.take_of_length_le (by show d.data.toList.length ≤ j; have : d.data.toList.length = d.size := rfl; omega)] at h
              exact h)
            go_wp2
            go_ret
            rw [HF.out]
            exact ⟨rfl, rfl⟩

end Go.Proofs.YtfphnoihkcnleaaGreatDoor
