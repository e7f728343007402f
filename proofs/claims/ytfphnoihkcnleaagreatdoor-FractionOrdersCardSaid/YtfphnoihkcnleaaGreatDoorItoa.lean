/- The texts that strconv.Itoa writes are those of whole numbers. Plain; no program. -/
import Derived.Test.YtfphnoihkcnleaaGreatDoorSmall
import Derived.Lib.ItoaNum
namespace Fr
open Limb Go.Lib

theorem dec_step {u : Nat} (h : ¬ u < 10) : decDigits u = decDigits (u / 10) ++ [byte (u % 10)] := by
  rw [decDigits, dif_neg h]
  have : 48 + u % 10 = u % 10 + 48 := by omega
  rw [this]; rfl
theorem dec_one {u : Nat} (h : u < 10) : decDigits u = [byte u] := by
  rw [decDigits, dif_pos h, Nat.add_comm]; rfl
theorem dec_all : ∀ (f u : Nat), u ≤ f → (decDigits u).all isDig = true ∧ dv (decDigits u) = u ∧ decDigits u ≠ [] ∧ (0 < u → (decDigits u).head? ≠ some 48)
  | f, u, hu => by
    by_cases h : u < 10
    · rw [dec_one h]
      refine ⟨by simp [isDig_byte h], ?_, by simp, ?_⟩
      · show val 10 [dig (byte u)] = u
        rw [dig_byte h]; simp [val]
      · intro h0 he
        have : byte u = 48 := by simpa using he
        have h1 := dig_byte h
        rw [this] at h1
        have h2 : dig 48 = 0 := rfl
        omega
    · match f, hu with
      | 0, hu => omega
      | f + 1, hu =>
        obtain ⟨h1, h2, h3, h4⟩ := dec_all f (u / 10) (by omega)
        have hm : u % 10 < 10 := by omega
        rw [dec_step h]
        refine ⟨by rw [List.all_append, h1]; simp [isDig_byte hm], ?_, by simp, ?_⟩
        · rw [dv_app, h2]
          have : dv [byte (u % 10)] = u % 10 := by
            show val 10 [dig (byte (u % 10))] = u % 10
            rw [dig_byte hm]; simp [val]
          rw [this]; simp; omega
        · intro _
          have h5 := h4 (by omega)
          cases hd : decDigits (u / 10) with
          | nil => exact absurd hd h3
          | cons c l => rw [hd] at h5; simpa using h5
theorem dec_render (u : Nat) : decDigits u = render u := by
  by_cases h : u = 0
  · subst h; rw [dec_one (by omega)]; rfl
  · obtain ⟨h1, h2, h3, h4⟩ := dec_all u u (Nat.le_refl _)
    have := render_dv h1 h3 (h4 (by omega))
    rw [h2] at this
    exact this.symm

/-- The text of an int. -/
def itxt (n : Int) : List UInt8 := text (n : Rat)
theorem itxt_eq (n : Int) : itxt n = (if n < 0 then [45] else []) ++ render n.natAbs := by
  unfold itxt text
  have h1 : ((n : Rat)).num = n := rfl
  have h2 : ((n : Rat)).den = 1 := rfl
  rw [h1, h2]; simp
theorem itoa_text (n : Int) : itoa n = itxt n := by
  rw [itxt_eq]
  unfold itoa
  by_cases h : n < 0
  · rw [if_pos h, if_pos h, dec_render]; rfl
  · rw [if_neg h, if_neg h, dec_render]
    have : n.toNat = n.natAbs := by omega
    rw [this]; rfl
theorem itxt_int (n : Int) : isInt (itxt n) = true ∧ sv (itxt n) = n := by
  have h := sign_text (n : Rat)
  have h1 : ((n : Rat)).num = n := rfl
  rw [h1] at h
  rw [itxt_eq]
  exact ⟨h.1, h.2.2.2⟩
theorem itxt_len (n : Int) (h : -9223372036854775808 ≤ n ∧ n < 9223372036854775808) : isLong (itxt n) = false ∧ (itxt n).length ≤ 20 := by
  have hl := (render_len n.natAbs 19 (by omega)).2 (by omega)
  have h := sign_text (n : Rat)
  have h1 : ((n : Rat)).num = n := rfl
  rw [h1] at h
  obtain ⟨a, b, c⟩ := h
  rw [itxt_eq]
  refine ⟨?_, ?_⟩
  · unfold isLong
    rw [b]
    simp; omega
  · rw [List.length_append]
    split <;> simp <;> omega

end Fr
