/- The contracts of isNumber, value of package timespan, of Number of the reference. -/
import Derived.Test.YtgblodnggeabjabDoorTs
namespace Go.Proofs.YtgblodnggeabjabDoor
open Go.RowKit

theorem take_step (d : ByteArray) (j : Nat) (hj : j < d.size) : d.data.toList.take (j + 1) = d.data.toList.take j ++ [d[j]'hj] := by
  rw [List.take_succ_eq_append_getElem (by show j < d.data.toList.length; exact hj)]
  rfl
theorem all_step (d : ByteArray) (j : Nat) (hj : j < d.size) : (d.data.toList.take (j + 1)).all Fr.isDig = ((d.data.toList.take j).all Fr.isDig && Fr.isDig (d[j]'hj)) := by
  rw [take_step d j hj, List.all_append]
  simp
theorem not_all (d : ByteArray) (j : Nat) (hj : j < d.size) (h : Fr.isDig (d[j]'hj) = false) : d.data.toList.all Fr.isDig = false := by
  rw [List.all_eq_false]
  exact ⟨d[j]'hj, by show d.data[j] ∈ _; exact Array.getElem_mem_toList _, by rw [h]; simp⟩
theorem full_take (d : ByteArray) (j : Nat) (hj : d.size ≤ j) : d.data.toList.take j = d.data.toList := List.take_of_length_le (by show d.data.toList.length ≤ j; exact hj)
theorem head_byte (d : ByteArray) (h : 0 < d.size) : d.data.toList.head? = some (d[0]'h) := by
  have h1 : 0 < d.data.toList.length := h
  cases hd : d.data.toList with
  | nil => rw [hd] at h1; simp at h1
  | cons c l =>
    have h2 : d.data.toList[0]'h1 = c := by simp [hd]
    rw [List.head?_cons, ← h2]
    rfl
theorem byte_int {c : UInt8} {n : Nat} (hn : n < 256) : ((c.toNat : Int) = (n : Int)) ↔ c = UInt8.ofNat n := by
  constructor
  · intro h; apply UInt8.toNat_inj.1; rw [UInt8.toNat_ofNat']; omega
  · intro h; subst h; rw [UInt8.toNat_ofNat']; omega

/-- How a text begins: what isNumber asks before its loop. -/
theorem num_cases (s : ByteArray) : (s.toList = [] ∧ s.size = 0 ∧ Tm.numOk s.data.toList = false) ∨ (7 < s.size ∧ ¬ s.toList = [] ∧ Tm.numOk s.data.toList = false) ∨
    (∃ h : 0 < s.size, (s.size : Int) ≤ 7 ∧ s.toList.isEmpty = false ∧ ((s[0]'h).toNat : Int) = 48 ∧ (!s.toList == [48]) = true ∧ 1 < s.size ∧ Tm.numOk s.data.toList = false) ∨
    (∃ h : 0 < s.size, (s.size : Int) ≤ 7 ∧ s.toList.isEmpty = false ∧ (((s[0]'h).toNat : Int) = 48 ∧ (!s.toList == [48]) = false ∧ s.size = 1 ∨ ¬ ((s[0]'h).toNat : Int) = 48) ∧ Tm.numOk s.data.toList = s.data.toList.all Fr.isDig) := by
  have hl : s.data.toList.length = s.size := rfl
  rw [ByteArray.toList_eq]
  show (s.data.toList = [] ∧ _ ∧ _) ∨ _
  by_cases h0 : s.size = 0
  · have e0 : s.data.toList = [] := List.eq_nil_of_length_eq_zero (by omega)
    exact .inl ⟨e0, h0, Tm.numOk_nil e0⟩
  · have hpos : 0 < s.size := by omega
    have hne : ¬ s.data.toList = [] := by intro e; rw [e] at hl; simp at hl; omega
    by_cases h7 : 7 < s.size
    · exact .inr (.inl ⟨h7, hne, Tm.numOk_long (by omega)⟩)
    · have hh := head_byte s hpos
      by_cases hc : s[0]'hpos = 48
      · have hc' : ((s[0]'hpos).toNat : Int) = 48 := by rw [hc]; rfl
        by_cases h48 : s.data.toList = [48]
        · have h1 : s.size = 1 := by rw [← hl, h48]; rfl
          exact .inr (.inr (.inr ⟨hpos, by omega, by simpa using hne, .inl ⟨hc', by rw [h48]; rfl, h1⟩, Tm.numOk_rest hne (by omega) (.inr h48)⟩))
        · have h1 : 1 < s.size := by
            rcases Nat.lt_or_ge 1 s.size with h | h
            · exact h
            · exfalso
              apply h48
              match hd : s.data.toList with
              | [] => exact absurd hd hne
              | [c] =>
                rw [hd] at hh
                have : c = 48 := by simpa [hc] using hh
                rw [this]
              | c :: d :: l => rw [hd] at hl; simp at hl; omega
          exact .inr (.inr (.inl ⟨hpos, by omega, by simpa using hne, hc', by simpa using h48, h1, Tm.numOk_zero (by rw [hh, hc]) h48⟩))
      · have hc' : ¬ ((s[0]'hpos).toNat : Int) = 48 := by
          intro h; exact hc (UInt8.toNat_inj.1 (by show (s[0]'hpos).toNat = 48; omega))
        exact .inr (.inr (.inr ⟨hpos, by omega, by simpa using hne, .inr hc', Tm.numOk_rest hne (by omega) (.inl (by rw [hh]; simpa using hc))⟩))

set_option maxRecDepth 100000 in
theorem tIsNumber_any (s : ByteArray) (w : World) (hs : s.size ≤ 1000000) : Calls Tryd.prog 57 #[.string s] w fun e w' => e = .returned (.bool (Tm.numOk s.data.toList)) ∧ w = w' := by
  rcases num_cases s with ⟨e1, z0, hr⟩ | ⟨h7, e1, hr⟩ | ⟨hpos, h7, e1, f1, f2, f3, hr⟩ | ⟨hpos, h7, e1, hway, hr⟩
  · rw [hr]
    go_enter Tryd.func57, Tryd.ntmps57
    go_wp2
    go_ret
    exact ⟨rfl, rfl⟩
  · rw [hr]
    go_enter Tryd.func57, Tryd.ntmps57
    go_wp2
    go_ret
    exact ⟨rfl, rfl⟩
  · rw [hr]
    go_enter Tryd.func57, Tryd.ntmps57
    go_wp2
    go_ret
    exact ⟨rfl, rfl⟩
  · rw [hr]
    obtain ⟨R, hR⟩ : ∃ R, s.data.toList.all Fr.isDig = R := ⟨_, rfl⟩
    rw [hR]
    have HR := Lib.hid hR
    clear hR hr
    rcases hway with ⟨f1, f2, f3⟩ | f1
    all_goals
      go_enter Tryd.func57, Tryd.ntmps57
      go_wp2
      go_loop [22] (fun u22 => ∃ j : Nat, j ≤ s.size ∧ u22 = .int .i64 j ∧ Hid ((s.data.toList.take j).all Fr.isDig = true)) (fun u22 => s.size - (intOf u22).toNat)
      case atStart => exact ⟨0, Nat.zero_le _, rfl, rfl⟩
      case round =>
        obtain ⟨j, hj, rfl, HJ⟩ := hrel
        by_cases hjd : j < s.size
        · have hs1 := all_step s j hjd
          rw [HJ.out, Bool.true_and] at hs1
          have HS := Lib.hid hs1
          clear hs1
          by_cases g1 : (48 : Int) ≤ ((s[j]'hjd).toNat : Int)
          · by_cases g2 : ((s[j]'hjd).toNat : Int) ≤ 57
            · have HG := Lib.hid (show Fr.isDig (s[j]'hjd) = true by unfold Fr.isDig; simp; omega)
              go_wp2
              go_round
              case rel => exact ⟨j + 1, by omega, by go_num, by unfold Hid; rw [HS.out]; exact HG.out⟩
              case measure => simp [intOf]; omega
            · have HF := Lib.hid (show R = false by rw [← HR.out]; exact not_all s j hjd (by unfold Fr.isDig; simp; omega))
              go_wp2
              go_ret
              rw [HF.out]
              exact ⟨rfl, rfl⟩
          · have HF := Lib.hid (show R = false by rw [← HR.out]; exact not_all s j hjd (by unfold Fr.isDig; simp; omega))
            go_wp2
            go_ret
            rw [HF.out]
            exact ⟨rfl, rfl⟩
        · have HF := Lib.hid (show R = true by
            have h := HJ.out
            rw [← HR.out]
            rw [full_take s j (by omega)] at h
            exact h)
          go_wp2
          go_ret
          rw [HF.out]
          exact ⟨rfl, rfl⟩

set_option maxRecDepth 100000 in
theorem tValue_any (s : ByteArray) (w : World) (hn : Tm.numOk s.data.toList = true) : Calls Tryd.prog 58 #[.string s] w fun e w' => e = .returned (.int .i64 (Fr.dv s.data.toList : Nat)) ∧ w = w' := by
  have hs7 : s.size ≤ 7 := (Tm.numOk_all hn).2.2.1
  have HD := fun (j : Nat) (hj : j < s.size) => Lib.hid (show Fr.dv (s.data.toList.take (j + 1)) = Fr.dv (s.data.toList.take j) * 10 + Fr.dig (s[j]'hj) ∧ Fr.dv (s.data.toList.take j) < 10000000 ∧ 48 ≤ (s[j]'hj).toNat ∧ (s[j]'hj).toNat ≤ 57 from by
    refine ⟨by rw [take_step s j hj, Tm.dv_snoc], Tm.dv_take hn j, ?_⟩
    have h1 := (Tm.numOk_all hn).1
    have h2 := (List.all_eq_true.1 h1) (s[j]'hj) (by show s.data[j] ∈ _; exact Array.getElem_mem_toList _)
    unfold Fr.isDig at h2
    simp at h2
    exact h2)
  have HE := Lib.hid (full_take s s.size (Nat.le_refl _))
  clear hn
  go_enter Tryd.func58, Tryd.ntmps58
  go_wp2
  go_loop [3, 7] (fun u3 u7 => ∃ j : Nat, j ≤ s.size ∧ u7 = .int .i64 j ∧ ∃ n : Nat, u3 = .int .i64 n ∧ Hid (n = Fr.dv (s.data.toList.take j))) (fun _ u7 => s.size - (intOf u7).toNat)
  case atStart => exact ⟨0, Nat.zero_le _, rfl, 0, rfl, rfl⟩
  case round =>
    obtain ⟨j, hj, rfl, n, rfl, HN⟩ := hrel
    by_cases hjd : j < s.size
    · obtain ⟨d1, d2, d3, d4⟩ := (HD j hjd).out
      rw [← HN.out] at d1 d2
      have H1 := Lib.hid d1
      clear d1
      go_wp2
      exact ⟨⟨j + 1, by omega, by go_num, n * 10 + Fr.dig (s[j]'hjd), by unfold Fr.dig; congr 1; omega, H1.out.symm⟩, by simp [intOf]; omega⟩
    · have hjs : j = s.size := by omega
      subst hjs
      go_wp2
      go_ret
      exact ⟨ret_int (by rw [HN.out, HE.out]), rfl⟩

end Go.Proofs.YtgblodnggeabjabDoor
