/- The contracts of the functions of the reference on texts: bare, Text, integer, slash, Split. -/
import Derived.Test.YtfphnoihkcnleaaGreatDoorPn
import Derived.Test.YtfphnoihkcnleaaGreatDoorRf
namespace Go.Proofs.YtfphnoihkcnleaaGreatDoor
open Go.RowKit

theorem rbare_any (s : ByteArray) (w : World) : Calls Tryz.prog 55 #[.string s] w fun e w' => e = .returned (.string (bareB s)) ∧ w = w' := by
  by_cases h0 : s.size = 0
  · have e0 : s.data.toList = [] := List.eq_nil_of_length_eq_zero h0
    have hb : bareB s = s := by unfold bareB; rw [e0]; apply ByteArray.ext; show (Fr.bare []).toArray = _; rw [← Array.toList_inj]; simpa [Fr.bare] using e0.symm
    rw [hb]
    clear hb e0
    go_enter Tryz.func55, Tryz.ntmps55
    go_wp2
    go_ret
    exact ⟨rfl, rfl⟩
  · have hpos : 0 < s.size := by omega
    obtain ⟨c, l, hl⟩ : ∃ c l, s.data.toList = c :: l := by
      cases h : s.data.toList with
      | nil => exact absurd (by show s.data.toList.length = 0; rw [h]; rfl) h0
      | cons c l => exact ⟨c, l, rfl⟩
    have hc : s[0]'hpos = c := by
      show s.data[0] = c
      have : s.data.toList[0]'(by rw [hl]; simp) = c := by simp [hl]
      simpa using this
    by_cases h45 : c = 45
    · have f1 : ((s[0]'hpos).toNat : Int) = 45 := by rw [hc, h45]; rfl
      have hb : bareB s = s.extract 1 s.size := by
        have e : s = ⟨(45 :: l).toArray⟩ := by
          apply ByteArray.ext; rw [← Array.toList_inj, hl, h45]
        have e2 : s.size = l.length + 1 := by show s.data.toList.length = _; rw [hl]; rfl
        rw [e2]
        unfold bareB
        rw [hl, h45, e, ByteArray.extract_mk]
        simp [Fr.bare]
      rw [hb]
      clear hb hl hc
      go_enter Tryz.func55, Tryz.ntmps55
      go_wp2
      go_ret
      exact ⟨rfl, rfl⟩
    · have f1 : ¬ ((s[0]'hpos).toNat : Int) = 45 := by
        rw [hc]; intro h; exact h45 (UInt8.toNat_inj.1 (by show c.toNat = 45; omega))
      have hb : bareB s = s := by
        unfold bareB
        apply ByteArray.ext
        rw [← Array.toList_inj, hl]
        show (Fr.bare (c :: l)).toArray.toList = _
        simp [Fr.bare, h45]
      rw [hb]
      clear hb hl hc
      go_enter Tryz.func55, Tryz.ntmps55
      go_wp2
      go_ret
      exact ⟨rfl, rfl⟩

theorem rText_any (s : ByteArray) (w : World) (hs : s.size ≤ 1000000) : Calls Tryz.prog 94 #[.string s] w fun e w' => e = .returned (.bool (Fr.isInt s.data.toList)) ∧ w = w' := by
  have CT := Lib.hid (rbare_any s w)
  have hl := bareB_list s
  have HL := Lib.hid hl
  have hsz : (bareB s).size ≤ 1000000 := by
    have h1 : (bareB s).size = (Fr.bare s.data.toList).length := by simp [bareB, ByteArray.size]
    have h2 : (Fr.bare s.data.toList).length ≤ s.data.toList.length := by
      cases s.data.toList with
      | nil => exact Nat.le_refl _
      | cons c l => simp only [Fr.bare]; split <;> simp
    have h3 : s.data.toList.length = s.size := rfl
    omega
  clear hl
  generalize bareB s = d at *
  by_cases h0 : d.size = 0
  · have e0 : d.data.toList = [] := List.eq_nil_of_length_eq_zero h0
    have hr : Fr.isInt s.data.toList = false := by unfold Fr.isInt; rw [← HL.out, e0]; rfl
    have e1 : d.toList = [] := by rw [ByteArray.toList_eq]; exact e0
    have z0 : ((d.size : Int) == 0) = true := by simp [h0]
    rw [hr]
    clear e0 hr HL h0
    go_enter Tryz.func94, Tryz.ntmps94
    go_wp2_with (go_at_call 55; refine (CT.out).mono ?_; rintro e w' ⟨rfl, rfl⟩)
    go_ret
    exact ⟨rfl, rfl⟩
  · have hpos : 0 < d.size := by omega
    have e1 : ¬ d.toList = [] := by
      rw [ByteArray.toList_eq]
      intro h
      have : d.size = 0 := by show d.data.toList.length = 0; rw [h]; rfl
      omega
    have e2 : d.toList.isEmpty = false := by simpa using e1
    have hne : Fr.bare s.data.toList ≠ [] := by rw [← HL.out, ← ByteArray.toList_eq]; exact e1
    have hhd : (Fr.bare s.data.toList).head? = some (d[0]'hpos) := by
      rw [← HL.out, List.head?_eq_getElem?, List.getElem?_eq_getElem (by show 0 < d.data.toList.length; exact hpos)]
      rfl
    have hlen1 : s.data.toList.length = 1 → s.data.toList = [48] ∨ d[0]'hpos ≠ 48 := by
      intro h
      match hs' : s.data.toList, h with
      | [c], _ =>
        by_cases hc : c = 48
        · left; rw [hc]
        · right
          intro hd
          rw [hd, hs'] at hhd
          simp only [Fr.bare] at hhd
          split at hhd
          · cases hhd
          · exact hc (by simpa using hhd)
    by_cases hB : d[0]'hpos = 48 ∧ s.data.toList ≠ [48]
    · have hr : Fr.isInt s.data.toList = false := by
        unfold Fr.isInt
        rw [hhd, hB.1]
        have : (s.data.toList.length == 1) = false := by
          rw [beq_eq_false_iff_ne]
          intro h
          rcases hlen1 h with h | h
          · exact hB.2 h
          · exact h hB.1
        rw [this]
        simp
      have f1 : ((d[0]'hpos).toNat : Int) = 48 := by rw [hB.1]; rfl
      have z0 : ((d.size : Int) == 0) = false := by rw [beq_eq_false_iff_ne]; omega
      have f2 : 1 < s.size := by
        have h3 : s.data.toList.length = s.size := rfl
        rcases Nat.lt_or_ge 1 s.size with h | h
        · exact h
        · exfalso
          rcases (show s.data.toList.length = 1 ∨ s.data.toList.length = 0 by omega) with h4 | h4
          · rcases hlen1 h4 with h5 | h5
            · exact hB.2 h5
            · exact h5 hB.1
          · have h5 : s.data.toList = [] := List.eq_nil_of_length_eq_zero h4
            rw [h5] at hne
            exact hne rfl
      rw [hr]
      clear hr HL h0 hB hne hhd hlen1
      go_enter Tryz.func94, Tryz.ntmps94
      go_wp2_with (go_at_call 55; refine (CT.out).mono ?_; rintro e w' ⟨rfl, rfl⟩)
      go_ret
      exact ⟨rfl, rfl⟩
    · have hr : Fr.isInt s.data.toList = d.data.toList.all Fr.isDig := by
        unfold Fr.isInt
        rw [hhd, HL.out]
        have h1 : (Fr.bare s.data.toList).isEmpty = false := by simpa using hne
        have h2 : ((some (d[0]'hpos) != some 48) || s.data.toList.length == 1) = true := by
          by_cases hc : d[0]'hpos = 48
          · have : s.data.toList = [48] := by
              by_cases h : s.data.toList = [48]
              · exact h
              · exact absurd ⟨hc, h⟩ hB
            rw [this]; simp
          · simp [hc]
        rw [h1, h2]
        rfl
      rw [hr]
      have hway : (((d[0]'hpos).toNat : Int) = 48 ∧ ¬ 1 < s.size) ∨ ¬ (((d[0]'hpos).toNat : Int) = 48) := by
        by_cases hc : d[0]'hpos = 48
        · left
          refine ⟨by rw [hc]; rfl, ?_⟩
          have : s.data.toList = [48] := by
            by_cases h : s.data.toList = [48]
            · exact h
            · exact absurd ⟨hc, h⟩ hB
          have h3 : s.data.toList.length = s.size := rfl
          rw [this] at h3
          simp at h3; omega
        · right
          intro h
          exact hc (UInt8.toNat_inj.1 (by show (d[0]'hpos).toNat = 48; omega))
      have hpart : ∀ j, (hj : j < d.size) → (d.data.toList.take (j + 1)).all Fr.isDig = ((d.data.toList.take j).all Fr.isDig && Fr.isDig (d[j]'hj)) := by
        intro j hj
        rw [List.take_succ_eq_append_getElem (by show j < d.data.toList.length; exact hj), List.all_append]
        simp
        rfl
      have HP := Lib.hid hpart
      clear hr HL h0 hB hne hhd hlen1 hpart
      obtain ⟨R, hR⟩ : ∃ R, d.data.toList.all Fr.isDig = R := ⟨_, rfl⟩
      rw [hR]
      have HR := Lib.hid hR
      have z0 : ((d.size : Int) == 0) = false := by rw [beq_eq_false_iff_ne]; omega
      clear hR
      rcases hway with ⟨f1, f2⟩ | f1
      all_goals
        go_enter Tryz.func94, Tryz.ntmps94
        go_wp2_with (go_at_call 55; refine (CT.out).mono ?_; rintro e w' ⟨rfl, rfl⟩)
        go_loop [4] (fun u4 => ∃ j : Nat, j ≤ d.size ∧ u4 = .int .i64 j ∧ Hid ((d.data.toList.take j).all Fr.isDig = true)) (fun u4 => d.size - (intOf u4).toNat)
        case atStart => exact ⟨0, Nat.zero_le _, rfl, rfl⟩
        case round =>
          obtain ⟨j, hj, rfl, HJ⟩ := hrel
          by_cases hjd : j < d.size
          · have hs1 := HP.out j hjd
            rw [HJ.out, Bool.true_and] at hs1
            have HS := Lib.hid hs1
            clear hs1
            by_cases g1 : (48 : Int) ≤ ((d[j]'hjd).toNat : Int)
            · by_cases g2 : ((d[j]'hjd).toNat : Int) ≤ 57
              · have hdig : Fr.isDig (d[j]'hjd) = true := by unfold Fr.isDig; simp; omega
                have HG := Lib.hid hdig
                clear hdig
                go_wp2
                go_round
                case rel => exact ⟨j + 1, by omega, by go_num, by unfold Hid; rw [HS.out]; exact HG.out⟩
                case measure => simp [intOf]; omega
              · have hdig : Fr.isDig (d[j]'hjd) = false := by unfold Fr.isDig; simp; omega
                have hfin : d.data.toList.all Fr.isDig = false := by
                  rw [List.all_eq_false]
                  exact ⟨d[j]'hjd, by show d.data[j] ∈ _; exact Array.getElem_mem_toList _, by rw [hdig]; simp⟩
                have HF := Lib.hid (show R = false by rw [← HR.out]; exact hfin)
                clear hdig hfin
                go_wp2
                go_ret
                rw [HF.out]
                exact ⟨rfl, rfl⟩
            · have hdig : Fr.isDig (d[j]'hjd) = false := by unfold Fr.isDig; simp; omega
              have hfin : d.data.toList.all Fr.isDig = false := by
                rw [List.all_eq_false]
                exact ⟨d[j]'hjd, by show d.data[j] ∈ _; exact Array.getElem_mem_toList _, by rw [hdig]; simp⟩
              have HF := Lib.hid (show R = false by rw [← HR.out]; exact hfin)
              clear hdig hfin
              go_wp2
              go_ret
              rw [HF.out]
              exact ⟨rfl, rfl⟩
          · have HF := Lib.hid (show R = true by
              have h := HJ.out
              rw [← HR.out]
              rw [List.take_of_length_le (by show d.data.toList.length ≤ j; have : d.data.toList.length = d.size := rfl; omega)] at h
              exact h)
            go_wp2
            go_ret
            rw [HF.out]
            exact ⟨rfl, rfl⟩


end Go.Proofs.YtfphnoihkcnleaaGreatDoor
