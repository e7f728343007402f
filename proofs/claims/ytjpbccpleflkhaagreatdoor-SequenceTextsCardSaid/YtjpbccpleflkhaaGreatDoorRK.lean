/- The call of the statement StrokeMoves. -/
import Derived.Test.YtjpbccpleflkhaaGreatDoorG08
namespace Sk
theorem put1_get (E : List Bool) (x : Str) (j : Nat) (hj : j < E.length) : (put1 E x).getD j false = if x.1.toNat = j then x.2 else E.getD j false := by
  unfold put1
  rw [List.getD_eq_getElem?_getD, List.getD_eq_getElem?_getD, List.getElem?_set]
  by_cases h : x.1.toNat = j
  · rw [if_pos h, if_pos h, h, if_pos hj]; rfl
  · rw [if_neg h, if_neg h]
/-- An end behind a step: of the actuators that go, where they go; of the others, as before. -/
theorem aft_get : ∀ {l : List Str} (E : List Bool) (j : Nat), j < E.length → (∀ i, i < l.length → 0 ≤ (l.getD i d0).1) → (∀ i, i + 1 < l.length → (l.getD i d0).1 < (l.getD (i + 1) d0).1) →
    (aft l E).getD j false = if wayV l (j : Int) = 0 then E.getD j false else decide (wayV l (j : Int) = 1)
  | [], E, j, _, _, _ => rfl
  | x :: l, E, j, hj, h0, h1 => by
    have hx0 : 0 ≤ x.1 := h0 0 (by simp)
    have ih := aft_get (l := l) (put1 E x) j (by simpa [put1] using hj) (fun i hi => h0 (i + 1) (by simpa using hi)) (fun i hi => h1 (i + 1) (by simpa using hi))
    have ea : aft (x :: l) E = aft l (put1 E x) := rfl
    have hinc : ∀ i, i < l.length → x.1 < (l.getD i d0).1 := by
      intro i
      induction i with
      | zero => intro hi; exact h1 0 (by simpa using hi)
      | succ i ihh => intro hi; exact Int.lt_trans (ihh (by omega)) (h1 (i + 1) (by simpa using hi))
    rw [ea, ih]
    by_cases hxj : x.1 = (j : Int)
    · have hw : wayV (x :: l) (j : Int) = if x.2 then 1 else -1 := if_pos hxj
      have hw0 : wayV l (j : Int) = 0 := way_no (fun a ha => by have := hinc a ha; omega)
      rw [hw, hw0, if_pos rfl, put1_get E x j hj, if_pos (show x.1.toNat = j by omega)]
      cases x.2 <;> simp
    · have hw : wayV (x :: l) (j : Int) = wayV l (j : Int) := if_neg hxj
      rw [hw, put1_get E x j hj, if_neg (show ¬ x.1.toNat = j by omega)]
/-- A step that fits turns the actuators that go. -/
theorem sui_way {l : List Str} {E : List Bool} {j : Nat} (hs : sui l E = true) : (wayV l (j : Int) = 1 → E.getD j false = false) ∧ (wayV l (j : Int) = -1 → E.getD j false = true) ∧ (wayV l (j : Int) = 0 ∨ wayV l (j : Int) = 1 ∨ wayV l (j : Int) = -1) := by
  have h := sui_iff.1 hs
  clear hs
  induction l with
  | nil => exact ⟨fun h => (by cases h), fun h => (by cases h), Or.inl rfl⟩
  | cons x l ih =>
    have ihh := ih (fun i hi => h (i + 1) (by simpa using hi))
    by_cases hxj : x.1 = (j : Int)
    · have hw : wayV (x :: l) (j : Int) = if x.2 then 1 else -1 := if_pos hxj
      have h0 : sui1 E x = true := h 0 (by simp)
      unfold sui1 at h0
      rw [Bool.and_eq_true] at h0
      have h2 := h0.2
      rw [show x.1.toNat = j by omega] at h2
      rw [hw]
      revert h2
      generalize E.getD j false = b
      cases x.2 <;> cases b <;> simp
    · have hw : wayV (x :: l) (j : Int) = wayV l (j : Int) := if_neg hxj
      rw [hw]; exact ihh
end Sk
namespace Go.Proofs.YtjpbccpleflkhaaGreatDoor
open Go.RowKit
end Go.Proofs.YtjpbccpleflkhaaGreatDoor

