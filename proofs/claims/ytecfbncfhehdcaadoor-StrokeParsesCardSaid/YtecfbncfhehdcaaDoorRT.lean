/- Parts and joins, as plain facts: what is cut is joined again, and what is joined is cut again. -/
import Derived.Test.YtecfbncfhehdcaaDoorQV
namespace Sk
open Go
theorem cut_none {r sep : List UInt8} (h : (Lib.cut r sep).2.2 = false) : (Lib.cut r sep).1 = r := by
  unfold Lib.cut at h ⊢
  by_cases h0 : 0 ≤ Lib.index r sep
  · rw [if_pos h0] at h; cases h
  · rw [if_neg h0]
theorem cut_split {r sep : List UInt8} (h : (Lib.cut r sep).2.2 = true) : r = (Lib.cut r sep).1 ++ (sep ++ r.drop ((Lib.cut r sep).1.length + sep.length)) := by
  unfold Lib.cut at h ⊢
  by_cases h0 : 0 ≤ Lib.index r sep
  · rw [if_pos h0]
    rcases Lib.index_spec r sep with ⟨h1, _⟩ | ⟨i, h1, h2, h3, _⟩
    · omega
    · rw [h1]
      simp only [Int.toNat_natCast]
      have hl : (r.take i).length = i := by rw [List.length_take]; omega
      rw [hl]
      unfold Lib.occAt at h3
      rw [List.isPrefixOf_iff_prefix] at h3
      obtain ⟨t, ht⟩ := h3
      have e2 : r.drop (i + sep.length) = t := by
        rw [← List.drop_drop, ← ht]; simp
      rw [e2, ht, List.take_append_drop]
  · rw [if_neg h0] at h; cases h
/-- What is cut is joined again. -/
theorem join_prt (l sep : List UInt8) (hs : 0 < sep.length) : ∀ f a : Nat, l.length + 1 ≤ f + a → a ≤ l.length → Lib.join ((prt l sep f a).map (·.2)) sep = l.drop a
  | 0, a, h, h' => by omega
  | f + 1, a, h, h' => by
    rw [prt]
    cases hc : (Lib.cut (l.drop a) sep).2.2 with
    | false =>
      have h1 := cut_none hc
      simp [Lib.join_one, h1]
    | true =>
      have h1 := cut_split hc
      have h2 := cut_room hc
      rw [List.length_drop] at h2
      have ih := join_prt l sep hs f (a + ((Lib.cut (l.drop a) sep).1.length + sep.length)) (by omega) (by omega)
      rw [if_pos rfl, List.map_cons]
      generalize hr : (prt l sep f (a + ((Lib.cut (l.drop a) sep).1.length + sep.length))).map (·.2) = r at *
      have hne : r ≠ [] := by
        obtain ⟨g, rfl⟩ : ∃ g, f = g + 1 := ⟨f - 1, by omega⟩
        rw [prt] at hr
        rw [← hr]; simp
      obtain ⟨y, r', rfl⟩ := List.exists_cons_of_ne_nil hne
      rw [Lib.join_cons] at ih ⊢
      have e : Lib.joinTail sep (y :: r') = sep ++ (y ++ Lib.joinTail sep r') := by simp [Lib.joinTail]
      rw [e, ih]
      rw [List.drop_drop] at h1
      exact h1.symm
theorem join_prts (l sep : List UInt8) (hs : 0 < sep.length) : Lib.join ((prts l sep).map (·.2)) sep = l := by
  unfold prts
  rw [join_prt l sep hs _ 0 (by omega) (by omega)]; rfl
theorem occ_not {x t : List UInt8} {c : UInt8} {tl : List UInt8} {j : Nat} (hj : j < x.length) (hx : c ∉ x) : Lib.occAt (x ++ t) (c :: tl) j = false := by
  unfold Lib.occAt
  rw [List.drop_append_of_le_length (by omega), List.drop_eq_getElem_cons hj]
  have : x[j] ≠ c := fun e => hx (e ▸ List.getElem_mem hj)
  rw [List.cons_append, List.isPrefixOf]
  simp [Ne.symm this]
theorem cut_hit {x t : List UInt8} {c : UInt8} {tl : List UInt8} (hx : c ∉ x) : Lib.cut (x ++ ((c :: tl) ++ t)) (c :: tl) = (x, t, true) := by
  have hi : Lib.index (x ++ ((c :: tl) ++ t)) (c :: tl) = x.length := Lib.index_first (by simp) (by
    unfold Lib.occAt
    rw [List.drop_append_of_le_length (Nat.le_refl _), List.drop_length, List.nil_append, List.isPrefixOf_iff_prefix]
    exact List.prefix_append _ _) (fun j hj => occ_not hj hx)
  unfold Lib.cut
  rw [hi, if_pos (by omega)]
  simp
theorem cut_miss {x : List UInt8} {c : UInt8} {tl : List UInt8} (hx : c ∉ x) : Lib.cut x (c :: tl) = (x, [], false) := by
  have hi : Lib.index x (c :: tl) = -1 := Lib.index_none (fun j hj => by
    by_cases h : j < x.length
    · have := occ_not (t := []) (tl := tl) h hx
      rw [List.append_nil] at this; exact this
    · unfold Lib.occAt
      rw [List.drop_eq_nil_of_le (by omega)]; rfl)
  unfold Lib.cut
  rw [hi, if_neg (by decide)]
/-- What is joined is cut again. -/
theorem prt_join {c : UInt8} {tl : List UInt8} (l : List UInt8) : ∀ (r : List (List UInt8)) (x : List UInt8) (f a : Nat), (∀ y ∈ x :: r, c ∉ y) → l.drop a = Lib.join (x :: r) (c :: tl) → r.length + 1 ≤ f → (prt l (c :: tl) f a).map (·.2) = x :: r
  | r, x, 0, a, _, _, hf => by omega
  | [], x, f + 1, a, hx, hd, hf => by
    rw [Lib.join_one] at hd
    rw [prt, hd, cut_miss (hx x (by simp))]; simp
  | y :: r, x, f + 1, a, hx, hd, hf => by
    have e : Lib.join (x :: y :: r) (c :: tl) = x ++ ((c :: tl) ++ Lib.join (y :: r) (c :: tl)) := by
      rw [Lib.join_cons, Lib.join_cons]; simp [Lib.joinTail]
    rw [e] at hd
    have hd2 : l.drop (a + (x.length + (c :: tl).length)) = Lib.join (y :: r) (c :: tl) := by
      rw [← List.drop_drop, hd, ← List.drop_drop]; simp
    rw [prt, hd, cut_hit (hx x (by simp)), if_pos rfl, List.map_cons]
    rw [prt_join l r y f _ (fun z hz => hx z (by simp at hz ⊢; exact .inr hz)) hd2 (by simp at hf ⊢; omega)]
end Sk

