/- The call of the statement StrokeMoves. How actuators move, in and out by turns: plain facts. -/
import Derived.Test.YtjpbccpleflkhaaDoorG08
import Derived.Test.YtjpbccpleflkhaaDoorG14
import Derived.Test.YtjpbccpleflkhaaDoorG13
namespace Sk
theorem put1_get (E : List Bool) (x : Str) (j : Nat) (hj : j < E.length) : (put1 E x).getD j false = if x.1.toNat = j then x.2 else E.getD j false := by
  unfold put1
  rw [List.getD_eq_getElem?_getD, List.getD_eq_getElem?_getD, List.getElem?_set]
  by_cases h : x.1.toNat = j
  · rw [if_pos h, if_pos h, h, if_pos hj]; rfl
  · rw [if_neg h, if_neg h]
/-- An end behind a step: of the actuators that go, where they go; of the others, as before. -/
theorem aft_get : ∀ {l : List Str} (E : List Bool) (j : Nat), j < E.length → (∀ i, i < l.length → 0 ≤ (l.getD i d0).1) → (∀ i, i + 1 < l.length → (l.getD i d0).1 < (l.getD (i + 1) d0).1) →
    (aft l E).getD j false = if wayV l (j : Int) = 0 then E.getD j false else decide (wayV l (j : Int) = 1)
  | [], E, j, _, _, _ => rfl
  | x :: l, E, j, hj, h0, h1 => by
    have hx0 : 0 ≤ x.1 := h0 0 (by simp)
    have ih := aft_get (l := l) (put1 E x) j (by simpa [put1] using hj) (fun i hi => h0 (i + 1) (by simpa using hi)) (fun i hi => h1 (i + 1) (by simpa using hi))
    have ea : aft (x :: l) E = aft l (put1 E x) := rfl
    have hinc : ∀ i, i < l.length → x.1 < (l.getD i d0).1 := by
      intro i
      induction i with
      | zero => intro hi; exact h1 0 (by simpa using hi)
      | succ i ihh => intro hi; exact Int.lt_trans (ihh (by omega)) (h1 (i + 1) (by simpa using hi))
    rw [ea, ih]
    by_cases hxj : x.1 = (j : Int)
    · have hw : wayV (x :: l) (j : Int) = if x.2 then 1 else -1 := if_pos hxj
      have hw0 : wayV l (j : Int) = 0 := way_no (fun a ha => by have := hinc a ha; omega)
      rw [hw, hw0, if_pos rfl, put1_get E x j hj, if_pos (show x.1.toNat = j by omega)]
      cases x.2 <;> simp
    · have hw : wayV (x :: l) (j : Int) = wayV l (j : Int) := if_neg hxj
      rw [hw, put1_get E x j hj, if_neg (show ¬ x.1.toNat = j by omega)]
/-- A step that fits turns the actuators that go. -/
theorem sui_way {l : List Str} {E : List Bool} {j : Nat} (hs : sui l E = true) : (wayV l (j : Int) = 1 → E.getD j false = false) ∧ (wayV l (j : Int) = -1 → E.getD j false = true) ∧ (wayV l (j : Int) = 0 ∨ wayV l (j : Int) = 1 ∨ wayV l (j : Int) = -1) := by
  have h := sui_iff.1 hs
  clear hs
  induction l with
  | nil => exact ⟨fun h => (by cases h), fun h => (by cases h), Or.inl rfl⟩
  | cons x l ih =>
    have ihh := ih (fun i hi => h (i + 1) (by simpa using hi))
    by_cases hxj : x.1 = (j : Int)
    · have hw : wayV (x :: l) (j : Int) = if x.2 then 1 else -1 := if_pos hxj
      have h0 : sui1 E x = true := h 0 (by simp)
      unfold sui1 at h0
      rw [Bool.and_eq_true] at h0
      have h2 := h0.2
      rw [show x.1.toNat = j by omega] at h2
      rw [hw]
      revert h2
      generalize E.getD j false = b
      cases x.2 <;> cases b <;> simp
    · have hw : wayV (x :: l) (j : Int) = wayV l (j : Int) := if_neg hxj
      rw [hw]; exact ihh
end Sk
namespace Go.Proofs.YtjpbccpleflkhaaDoor
open Go.RowKit
end Go.Proofs.YtjpbccpleflkhaaDoor

namespace Sq
open Sk
theorem app_n {n : Nat} {L : List Stp} (h : Rt (n : Int) L) {k : Nat} (hk : k < L.length) : appV (L.getD k t0).1 (L.getD k t0).2 (bh n L k) = (bh n L (k + 1), 0) := by
  obtain ⟨h1, -, h3⟩ := stE_ok (h.stp k hk)
  rw [Int.toNat_natCast] at h3
  have := h.n6
  unfold appV
  rw [if_pos h1, if_neg (by rw [bh_len]; omega), if_pos h3, bh_succ n hk]
theorem mvB_way {n : Nat} {L : List Stp} (h : Rt (n : Int) L) {a k : Nat} (ha : a < n) (hk : k < L.length) : mvB L (a : Int) k = decide (wayV (L.getD k t0).1 (a : Int) ≠ 0) := by
  have h1 := (stE_ok (h.stp k hk)).1
  unfold mvB
  rw [has_way h1 (by have := h.n6; omega)]
theorem bh_get {n : Nat} {L : List Stp} (h : Rt (n : Int) L) {a k : Nat} (ha : a < n) (hk : k < L.length) : (bh n L (k + 1)).getD a false = if wayV (L.getD k t0).1 (a : Int) = 0 then (bh n L k).getD a false else decide (wayV (L.getD k t0).1 (a : Int) = 1) := by
  have hR := (chkP_ok (stE_ok (h.stp k hk)).1).1
  rw [bh_succ n hk]
  exact aft_get _ _ (by rw [bh_len]; exact ha) (fun i hi => (hR.act i hi).1) hR.ord
theorem bh_way {n : Nat} {L : List Stp} (h : Rt (n : Int) L) {a k : Nat} (hk : k < L.length) : (wayV (L.getD k t0).1 (a : Int) = 1 → (bh n L k).getD a false = false) ∧ (wayV (L.getD k t0).1 (a : Int) = -1 → (bh n L k).getD a false = true) ∧ (wayV (L.getD k t0).1 (a : Int) = 0 ∨ wayV (L.getD k t0).1 (a : Int) = 1 ∨ wayV (L.getD k t0).1 (a : Int) = -1) := by
  have h3 := (stE_ok (h.stp k hk)).2.2
  rw [Int.toNat_natCast] at h3
  exact sui_way h3
/-- An actuator is out where it has moved an odd number of times. -/
theorem bh_odd {n : Nat} {L : List Stp} (h : Rt (n : Int) L) {a : Nat} (ha : a < n) : ∀ {k : Nat}, k ≤ L.length → (bh n L k).getD a false = decide ((mvI L (a : Int) k).length % 2 = 1)
  | 0, _ => by
    rw [bh_zero]
    have : (List.replicate n false).getD a false = false := by rw [List.getD_eq_getElem?_getD, List.getElem?_replicate]; split <;> rfl
    rw [this]; rfl
  | k + 1, hk => by
    have ih := bh_odd h ha (k := k) (by omega)
    rw [bh_get h ha (by omega), mvI_succ, mvB_way h ha (by omega)]
    obtain ⟨w1, w2, w3⟩ := bh_way h (a := a) (k := k) (by omega)
    by_cases h0 : wayV (L.getD k t0).1 (a : Int) = 0
    · rw [if_pos h0, show decide (wayV (L.getD k t0).1 (a : Int) ≠ 0) = false from decide_eq_false (fun e => e h0), if_neg (by decide)]; exact ih
    · rw [if_neg h0, show decide (wayV (L.getD k t0).1 (a : Int) ≠ 0) = true from decide_eq_true h0, if_pos rfl, List.length_append]
      rcases w3 with e | e | e
      · exact absurd e h0
      · have := w1 e
        rw [this] at ih
        have := of_decide_eq_false ih.symm
        rw [e, decide_eq_true rfl]
        exact (decide_eq_true (by simp only [List.length_cons, List.length_nil]; omega)).symm
      · have := w2 e
        rw [this] at ih
        have := of_decide_eq_true ih.symm
        rw [e, decide_eq_false (by decide)]
        exact (decide_eq_false (by simp only [List.length_cons, List.length_nil]; omega)).symm
theorem get_false {E : List Bool} (h : E.any id = false) (a : Nat) : E.getD a false = false := by
  rw [List.getD_eq_getElem?_getD]
  cases h2 : E[a]? with
  | none => rfl
  | some b =>
    have hm := List.mem_of_getElem? h2
    rw [List.any_eq_false] at h
    have := h b hm
    cases b
    · rfl
    · exact absurd rfl this
theorem mv_even {n : Nat} {L : List Stp} (h : Rt (n : Int) L) {a : Nat} (ha : a < n) : (mvI L (a : Int) L.length).length % 2 = 0 := by
  have h1 := bh_odd h ha (Nat.le_refl _)
  have h2 := h.end_
  rw [Int.toNat_natCast] at h2
  rw [get_false h2] at h1
  have := of_decide_eq_false h1.symm
  omega
theorem mv_some {n : Nat} {L : List Stp} (h : Rt (n : Int) L) {a : Nat} (ha : a < n) : 0 < (mvI L (a : Int) L.length).length := by
  have hm := h.mov a (by omega)
  have := mvI_nil (fun k hk => (stE_ok (h.stp k hk)).1) (show a < 6 by have := h.n6; omega)
  rw [hm] at this
  have h2 : ¬ (mvI L (a : Int) L.length).length = 0 := fun e => by have := this.1 e; cases this
  omega
/-- The j-th move. -/
theorem mv_at (L : List Stp) (a : Int) : ∀ {i j : Nat}, j < (mvI L a i).length → ∃ t : Nat, t < i ∧ (mvI L a i).getD j 0 = (t : Int) ∧ mvB L a t = true ∧ (mvI L a t).length = j
  | 0, j, h => by simp [mvI] at h
  | i + 1, j, h => by
    rw [mvI_succ] at h ⊢
    cases hb : mvB L a i with
    | false =>
      rw [hb] at h
      obtain ⟨t, h1, h2, h3, h4⟩ := mv_at L a (i := i) (j := j) h
      exact ⟨t, by omega, h2, h3, h4⟩
    | true =>
      rw [hb, if_pos rfl] at h
      rw [if_pos rfl]
      by_cases hj : j < (mvI L a i).length
      · obtain ⟨t, h1, h2, h3, h4⟩ := mv_at L a (i := i) (j := j) hj
        refine ⟨t, by omega, ?_, h3, h4⟩
        rw [List.getD_eq_getElem?_getD, List.getElem?_append_left hj, ← List.getD_eq_getElem?_getD]; exact h2
      · have hje : j = (mvI L a i).length := by simp at h; omega
        refine ⟨i, by omega, ?_, hb, hje.symm⟩
        rw [List.getD_eq_getElem?_getD, hje]
        simp
/-- The way of the j-th move: out first, then in, and so on. -/
theorem mv_turn {n : Nat} {L : List Stp} (h : Rt (n : Int) L) {a : Nat} (ha : a < n) {j : Nat} (hj : j < (mvI L (a : Int) L.length).length) : ∃ t : Nat, t < L.length ∧ (mvI L (a : Int) L.length).getD j 0 = (t : Int) ∧ hasV (L.getD t t0).1 (L.getD t t0).2 (a : Int) = ((if j % 2 = 0 then 1 else -1), 0) := by
  obtain ⟨t, h1, h2, h3, h4⟩ := mv_at L (a : Int) hj
  refine ⟨t, h1, h2, ?_⟩
  rw [mvB_way h ha h1] at h3
  have h3' := of_decide_eq_true h3
  rw [has_way (stE_ok (h.stp t h1)).1 (by have := h.n6; omega)]
  obtain ⟨w1, w2, w3⟩ := bh_way h (a := a) h1
  have ho := bh_odd h ha (k := t) (by omega)
  rw [h4] at ho
  rcases w3 with e | e | e
  · exact absurd e h3'
  · have := w1 e
    rw [this] at ho
    have := of_decide_eq_false ho.symm
    rw [e, if_pos (by omega)]
  · have := w2 e
    rw [this] at ho
    have := of_decide_eq_true ho.symm
    rw [e, if_neg (by omega)]
theorem end_no {n : Nat} {L : List Stp} (h : Rt (n : Int) L) : decide (true ∈ bh n L L.length) = false := by
  have h2 := h.end_
  rw [Int.toNat_natCast] at h2
  refine decide_eq_false fun hm => ?_
  rw [List.any_eq_false] at h2
  exact h2 true hm rfl
end Sq
