/- The contracts of isNumber, value of package timespan, of Number of the reference. -/
import Derived.Test.YtecfbncfhehdcaaDoorTs
namespace Go.Proofs.YtecfbncfhehdcaaDoor
open Go.RowKit

theorem take_step (d : ByteArray) (j : Nat) (hj : j < d.size) : d.data.toList.take (j + 1) = d.data.toList.take j ++ [d[j]'hj] := by
  rw [List.take_succ_eq_append_getElem (by show j < d.data.toList.length; exact hj)]
  rfl
theorem all_step (d : ByteArray) (j : Nat) (hj : j < d.size) : (d.data.toList.take (j + 1)).all Fr.isDig = ((d.data.toList.take j).all Fr.isDig && Fr.isDig (d[j]'hj)) := by
  rw [take_step d j hj, List.all_append]
  simp
theorem not_all (d : ByteArray) (j : Nat) (hj : j < d.size) (h : Fr.isDig (d[j]'hj) = false) : d.data.toList.all Fr.isDig = false := by
  rw [List.all_eq_false]
  exact ⟨d[j]'hj, by show d.data[j] ∈ _; exact Array.getElem_mem_toList _, by rw [h]; simp⟩
theorem full_take (d : ByteArray) (j : Nat) (hj : d.size ≤ j) : d.data.toList.take j = d.data.toList := List.take_of_length_le (by show d.data.toList.length ≤ j; exact hj)
theorem head_byte (d : ByteArray) (h : 0 < d.size) : d.data.toList.head? = some (d[0]'h) := by
  have h1 : 0 < d.data.toList.length := h
  cases hd : d.data.toList with
  | nil => rw [hd] at h1; simp at h1
  | cons c l =>
    have h2 : d.data.toList[0]'h1 = c := by simp [hd]
    rw [List.head?_cons, ← h2]
    rfl
theorem byte_int {c : UInt8} {n : Nat} (hn : n < 256) : ((c.toNat : Int) = (n : Int)) ↔ c = UInt8.ofNat n := by
  constructor
  · intro h; apply UInt8.toNat_inj.1; rw [UInt8.toNat_ofNat']; omega
  · intro h; subst h; rw [UInt8.toNat_ofNat']; omega

/-- How a text begins: what isNumber asks before its loop. -/
theorem num_cases (s : ByteArray) : (s.toList = [] ∧ s.size = 0 ∧ Tm.numOk s.data.toList = false) ∨ (7 < s.size ∧ ¬ s.toList = [] ∧ Tm.numOk s.data.toList = false) ∨
    (∃ h : 0 < s.size, (s.size : Int) ≤ 7 ∧ s.toList.isEmpty = false ∧ ((s[0]'h).toNat : Int) = 48 ∧ (!s.toList == [48]) = true ∧ 1 < s.size ∧ Tm.numOk s.data.toList = false) ∨
    (∃ h : 0 < s.size, (s.size : Int) ≤ 7 ∧ s.toList.isEmpty = false ∧ (((s[0]'h).toNat : Int) = 48 ∧ (!s.toList == [48]) = false ∧ s.size = 1 ∨ ¬ ((s[0]'h).toNat : Int) = 48) ∧ Tm.numOk s.data.toList = s.data.toList.all Fr.isDig) := by
  have hl : s.data.toList.length = s.size := rfl
  rw [ByteArray.toList_eq]
  show (s.data.toList = [] ∧ _ ∧ _) ∨ _
  by_cases h0 : s.size = 0
  · have e0 : s.data.toList = [] := List.eq_nil_of_length_eq_zero (by omega)
    exact .inl ⟨e0, h0, Tm.numOk_nil e0⟩
  · have hpos : 0 < s.size := by omega
    have hne : ¬ s.data.toList = [] := by intro e; rw [e] at hl; simp at hl; omega
    by_cases h7 : 7 < s.size
    · exact .inr (.inl ⟨h7, hne, Tm.numOk_long (by omega)⟩)
    · have hh := head_byte s hpos
      by_cases hc : s[0]'hpos = 48
      · have hc' : ((s[0]'hpos).toNat : Int) = 48 := by rw [hc]; rfl
        by_cases h48 : s.data.toList = [48]
        · have h1 : s.size = 1 := by rw [← hl, h48]; rfl
          exact .inr (.inr (.inr ⟨hpos, by omega, by simpa using hne, .inl ⟨hc', by rw [h48]; rfl, h1⟩, Tm.numOk_rest hne (by omega) (.inr h48)⟩))
        · have h1 : 1 < s.size := by
            rcases Nat.lt_or_ge 1 s.size with h | h
            · exact h
            · exfalso
              apply h48
              match hd : s.data.toList with
              | [] => exact absurd hd hne
              | [c] =>
                rw [hd] at hh
                have : c = 48 := by simpa [hc] using hh
                rw [this]
              | c :: d :: l => rw [hd] at hl; simp at hl; omega
          exact .inr (.inr (.inl ⟨hpos, by omega, by simpa using hne, hc', by simpa using h48, h1, Tm.numOk_zero (by rw [hh, hc]) h48⟩))
      · have hc' : ¬ ((s[0]'hpos).toNat : Int) = 48 := by
          intro h; exact hc (UInt8.toNat_inj.1 (by show (s[0]'hpos).toNat = 48; omega))
        exact .inr (.inr (.inr ⟨hpos, by omega, by simpa using hne, .inr hc', Tm.numOk_rest hne (by omega) (.inl (by rw [hh]; simpa using hc))⟩))

end Go.Proofs.YtecfbncfhehdcaaDoor

