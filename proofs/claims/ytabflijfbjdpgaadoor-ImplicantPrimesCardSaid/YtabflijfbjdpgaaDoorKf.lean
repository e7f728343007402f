/- The reference's list of prime implicants is the sorted one, and its essential ones are the same; plain facts. -/
import Derived.Test.YtabflijfbjdpgaaDoorKg
namespace Ic
/-- The order of cubes. -/
def lt2 (x y : Nat × Nat) : Prop := x.1 < y.1 ∨ (x.1 = y.1 ∧ x.2 < y.2)
theorem lt2_irr (x : Nat × Nat) : ¬ lt2 x x := by unfold lt2; omega
theorem lt2_asy {x y : Nat × Nat} (h : lt2 x y) : ¬ lt2 y x := by unfold lt2 at *; omega
/-- Two lists in order with the same members are one. -/
theorem sorted_ext : ∀ (l m : List (Nat × Nat)), l.Pairwise lt2 → m.Pairwise lt2 → (∀ x, x ∈ l ↔ x ∈ m) → l = m := by
  intro l
  induction l with
  | nil =>
    intro m _ _ h
    cases m with
    | nil => rfl
    | cons b m => exact absurd ((h b).2 (List.mem_cons_self)) (by simp)
  | cons a l ih =>
    intro m hl hm h
    cases m with
    | nil => exact absurd ((h a).1 (List.mem_cons_self)) (by simp)
    | cons b m =>
      obtain ⟨hl1, hl2⟩ := List.pairwise_cons.1 hl
      obtain ⟨hm1, hm2⟩ := List.pairwise_cons.1 hm
      have hab : a = b := by
        rcases List.mem_cons.1 ((h a).1 List.mem_cons_self) with e | e
        · exact e
        · rcases List.mem_cons.1 ((h b).2 List.mem_cons_self) with f | f
          · exact f.symm
          · exact absurd (hl1 b f) (lt2_asy (hm1 a e))
      subst hab
      have := ih m hl2 hm2 fun x => by
        constructor
        · intro hx
          rcases List.mem_cons.1 ((h x).1 (List.mem_cons_of_mem _ hx)) with e | e
          · exact absurd (hl1 x hx) (e ▸ lt2_irr _)
          · exact e
        · intro hx
          rcases List.mem_cons.1 ((h x).2 (List.mem_cons_of_mem _ hx)) with e | e
          · exact absurd (hm1 x hx) (e ▸ lt2_irr _)
          · exact e
      rw [this]
theorem rowR_sorted (c k : Nat) : (rowR c k).Pairwise lt2 := by
  unfold rowR
  rw [List.pairwise_map]
  exact (List.pairwise_lt_range.filter _).imp fun h => .inr ⟨rfl, h⟩
theorem cubR_sorted (m : Nat) : (cubR m).Pairwise lt2 := by
  unfold cubR
  rw [List.pairwise_flatMap]
  refine ⟨fun c _ => rowR_sorted _ _, List.pairwise_lt_range.imp fun h x hx y hy => .inl ?_⟩
  rw [(rowR_mem.1 hx).1, (rowR_mem.1 hy).1]
  exact h
theorem primesS_sorted (n on fr : Nat) : (primesS n on fr).Pairwise lt2 := by
  have h1 : (primesS n on fr).Pairwise fun x y => (!(Go.Proofs.ltOf ord y x)) = true := by
    refine List.pairwise_mergeSort ?_ ?_ _
    · intro a b c
      simp only [ltOrd, Bool.not_eq_true', decide_eq_false_iff_not]
      omega
    · intro a b
      simp only [ltOrd, Bool.or_eq_true, Bool.not_eq_true', decide_eq_false_iff_not]
      omega
  refine (h1.and (primesS_nodup n on fr)).imp ?_
  rintro ⟨a1, a2⟩ ⟨b1, b2⟩ ⟨h, hne⟩
  simp only [ltOrd, Bool.not_eq_true', decide_eq_false_iff_not] at h
  have : ¬ (a1 = b1 ∧ a2 = b2) := fun e => hne (by rw [e.1, e.2])
  unfold lt2
  dsimp only
  omega
theorem sub_and {v c : Nat} : v &&& c = v ↔ Sub v c := by
  constructor
  · intro h i hi
    rw [← h, Nat.testBit_and, Bool.and_eq_true] at hi
    exact hi.2
  · intro h
    apply Nat.eq_of_testBit_eq
    intro i
    rw [Nat.testBit_and]
    cases hb : v.testBit i
    · rfl
    · rw [h i hb]; rfl
theorem primesR_eq (n on fr : Nat) : primesR n on fr = primesS n on fr := by
  refine sorted_ext _ _ ((cubR_sorted _).filter _) (primesS_sorted n on fr) fun x => ?_
  unfold primesR
  rw [List.mem_filter, cubR_mem, primesS_mem, sub_and]
  constructor
  · rintro ⟨⟨h1, _, h2⟩, h3⟩; exact ⟨⟨h1, h2⟩, h3⟩
  · rintro ⟨⟨h1, h2⟩, h3⟩; exact ⟨⟨h1, by have := sub_and.2 h2; rw [← this]; exact Nat.and_le_right, h2⟩, h3⟩

/-- How many cubes of a list have a point. -/
def cntL (l : List (Nat × Nat)) (k : Nat) : Nat := (l.filter fun x => inn x.1 x.2 k).length
theorem cnt_take {l : List (Nat × Nat)} {i : Nat} (k : Nat) (h : i < l.length) : cntL (l.take (i + 1)) k = cntL (l.take i) k + if inn (l.getD i (0, 0)).1 (l.getD i (0, 0)).2 k then 1 else 0 := by
  unfold cntL
  rw [filter_take _ l (0, 0) h]
  split <;> simp
theorem own_len (l : List (Nat × Nat)) (k : Nat) : (own l k).length = cntL l k := by
  have : ∀ i, i ≤ l.length → (Tt.pts (fun i => inn (l.getD i (0, 0)).1 (l.getD i (0, 0)).2 k) i).length = cntL (l.take i) k := by
    intro i
    induction i with
    | zero => intro _; simp [cntL, Tt.pts]
    | succ i ih =>
      intro h
      rw [Tt.pts_succ, cnt_take k (by omega), ← ih (by omega)]
      split <;> simp
  have h := this l.length (Nat.le_refl _)
  rw [List.take_length] at h
  exact h
theorem onc_cnt (n : Nat) (l : List (Nat × Nat)) (k : Nat) : (onc n l).1.testBit k = (decide (k < 2 ^ n) && decide (1 ≤ cntL l k)) ∧ (onc n l).2.testBit k = (decide (k < 2 ^ n) && decide (2 ≤ cntL l k)) := by
  have : ∀ i, i ≤ l.length → (onc n (l.take i)).1.testBit k = (decide (k < 2 ^ n) && decide (1 ≤ cntL (l.take i) k)) ∧ (onc n (l.take i)).2.testBit k = (decide (k < 2 ^ n) && decide (2 ≤ cntL (l.take i) k)) := by
    intro i
    induction i with
    | zero => intro _; simp [onc, cntL]
    | succ i ih =>
      intro h
      obtain ⟨h1, h2⟩ := ih (by omega)
      rw [onc_take (by omega), cnt_take k (by omega)]
      dsimp only
      rw [Nat.testBit_or, Nat.testBit_or, Nat.testBit_and, h1, h2, tab_bit]
      generalize cntL (l.take i) k = t
      generalize inn (l.getD i (0, 0)).1 (l.getD i (0, 0)).2 k = b
      by_cases hk : k < 2 ^ n
      · cases b
        · simp [hk]
        · constructor
          · simp [hk]
          · rw [Bool.eq_iff_iff]
            simp [hk]
            omega
      · simp [hk]
  have h := this l.length (Nat.le_refl _)
  rw [List.take_length] at h
  exact h
theorem cnt_pos {l : List (Nat × Nat)} {i k : Nat} (hi : i < l.length) (h : inn (l.getD i (0, 0)).1 (l.getD i (0, 0)).2 k = true) : 1 ≤ cntL l k := by
  unfold cntL
  exact List.length_pos_of_mem (List.mem_filter.2 ⟨getD_mem hi, h⟩)
theorem ess_fnd {n on : Nat} {l : List (Nat × Nat)} {i : Nat} (hn : n ≤ 6) (hi : i < l.length) : ess n on l i = fnd on l i (2 ^ n) := by
  have hN := Tt.size_le hn
  have h64 := (onc_lt hn l).2
  unfold ess fnd
  rw [Bool.eq_iff_iff, bne_iff_ne, Nat.and_comm, tab_ne, List.any_eq_true]
  constructor
  · rintro ⟨k, hk, h1, h2⟩
    rw [Nat.testBit_and, Bool.and_eq_true, not_bit h64 (by omega), (onc_cnt n l k).2] at h2
    refine ⟨k, List.mem_range.2 hk, ?_⟩
    have h3 := cnt_pos hi h1
    unfold fndP
    rw [h1, h2.1, own_len]
    have h4 := h2.2
    simp [hk] at h4
    simp
    omega
  · rintro ⟨k, hk, h⟩
    rw [List.mem_range] at hk
    unfold fndP at h
    rw [Bool.and_eq_true, Bool.and_eq_true, decide_eq_true_iff, own_len] at h
    refine ⟨k, hk, h.2.1, ?_⟩
    rw [Nat.testBit_and, not_bit h64 (by omega), (onc_cnt n l k).2, h.1, h.2.2]
    simp
theorem essR_eq {n on : Nat} (hn : n ≤ 6) (l : List (Nat × Nat)) : essR n on l = essL n on l := by
  unfold essR essL Tt.pts
  exact List.filter_congr fun i hi => (ess_fnd hn (List.mem_range.1 hi)).symm
end Ic
