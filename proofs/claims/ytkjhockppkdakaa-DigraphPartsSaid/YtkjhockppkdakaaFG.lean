/- Plain facts for Condense of the reference: the edges in their order. -/
import Derived.Test.YtkjhockppkdakaaFF
namespace Dg
def lt2 (x y : Nat × Nat) : Prop := x.1 < y.1 ∨ (x.1 = y.1 ∧ x.2 < y.2)
theorem lt2_irr (x : Nat × Nat) : ¬ lt2 x x := fun h => by unfold lt2 at h; omega
theorem lt2_asy {x y : Nat × Nat} (h : lt2 x y) : ¬ lt2 y x := fun h' => by unfold lt2 at *; omega
theorem lt2_tri (x y : Nat × Nat) : lt2 x y ∨ x = y ∨ lt2 y x := by
  unfold lt2
  by_cases h1 : x.1 < y.1
  · exact .inl (.inl h1)
  · by_cases h2 : y.1 < x.1
    · exact .inr (.inr (.inl h2))
    · by_cases h3 : x.2 < y.2
      · exact .inl (.inr ⟨by omega, h3⟩)
      · by_cases h4 : y.2 < x.2
        · exact .inr (.inr (.inr ⟨by omega, h4⟩))
        · exact .inr (.inl (Prod.ext (by omega) (by omega)))
theorem sorted_ext2 : ∀ (l m : List (Nat × Nat)), l.Pairwise lt2 → m.Pairwise lt2 → (∀ x, x ∈ l ↔ x ∈ m) → l = m := by
  intro l
  induction l with
  | nil =>
    intro m _ _ h
    cases m with
    | nil => rfl
    | cons b m => exact absurd ((h b).2 (List.mem_cons_self)) (by simp)
  | cons a l ih =>
    intro m hl hm h
    cases m with
    | nil => exact absurd ((h a).1 (List.mem_cons_self)) (by simp)
    | cons b m =>
      obtain ⟨hl1, hl2⟩ := List.pairwise_cons.1 hl
      obtain ⟨hm1, hm2⟩ := List.pairwise_cons.1 hm
      have hab : a = b := by
        rcases List.mem_cons.1 ((h a).1 List.mem_cons_self) with e | e
        · exact e
        · rcases List.mem_cons.1 ((h b).2 List.mem_cons_self) with f | f
          · exact f.symm
          · exact absurd (hl1 b f) (lt2_asy (hm1 a e))
      subst hab
      have := ih m hl2 hm2 fun x => by
        constructor
        · intro hx
          rcases List.mem_cons.1 ((h x).1 (List.mem_cons_of_mem _ hx)) with e | e
          · exact absurd (hl1 x hx) (e ▸ lt2_irr _)
          · exact e
        · intro hx
          rcases List.mem_cons.1 ((h x).2 (List.mem_cons_of_mem _ hx)) with e | e
          · exact absurd (hm1 x hx) (e ▸ lt2_irr _)
          · exact e
      rw [this]
/-- The pairs in their order: those that come before (a, b). -/
def prs (M : Nat) (C : Nat × Nat → Bool) : Nat → Nat → List (Nat × Nat)
  | 0, b => ((List.range b).map fun y => (0, y)).filter C
  | a + 1, b => prs M C a M ++ ((List.range b).map fun y => (a + 1, y)).filter C
theorem prs_succ (M : Nat) (C : Nat × Nat → Bool) (a b : Nat) : prs M C a (b + 1) = if C (a, b) then prs M C a b ++ [(a, b)] else prs M C a b := by
  have key : ((List.range (b + 1)).map fun y => (a, y)).filter C = ((List.range b).map fun y => (a, y)).filter C ++ if C (a, b) then [(a, b)] else [] := by
    rw [List.range_succ, List.map_append, List.filter_append]
    cases h : C (a, b) <;> simp [h]
  cases a with
  | zero => unfold prs; rw [key]; split <;> simp
  | succ a => unfold prs; rw [key]; split <;> simp
theorem prs_next (M : Nat) (C : Nat × Nat → Bool) (a : Nat) : prs M C (a + 1) 0 = prs M C a M := by
  rw [prs]; simp
theorem prs_zero (M : Nat) (C : Nat × Nat → Bool) : prs M C 0 0 = [] := by unfold prs; simp
theorem prs_mem {M : Nat} {C : Nat × Nat → Bool} {p : Nat × Nat} : ∀ {a b : Nat}, p ∈ prs M C a b ↔ C p = true ∧ ((p.1 < a ∧ p.2 < M) ∨ (p.1 = a ∧ p.2 < b))
  | 0, b => by
    unfold prs
    rw [List.mem_filter, List.mem_map]
    constructor
    · rintro ⟨⟨y, hy, rfl⟩, h⟩; exact ⟨h, .inr ⟨rfl, List.mem_range.1 hy⟩⟩
    · rintro ⟨h, h1 | ⟨h1, h2⟩⟩
      · omega
      · exact ⟨⟨p.2, List.mem_range.2 h2, Prod.ext h1.symm rfl⟩, h⟩
  | a + 1, b => by
    rw [prs, List.mem_append, prs_mem, List.mem_filter, List.mem_map]
    constructor
    · rintro (⟨h, h1⟩ | ⟨⟨y, hy, rfl⟩, h⟩)
      · exact ⟨h, .inl (by omega)⟩
      · exact ⟨h, .inr ⟨rfl, List.mem_range.1 hy⟩⟩
    · rintro ⟨h, h1 | ⟨h1, h2⟩⟩
      · exact .inl ⟨h, by omega⟩
      · exact .inr ⟨⟨p.2, List.mem_range.2 h2, Prod.ext h1.symm rfl⟩, h⟩
theorem row_sorted (C : Nat × Nat → Bool) (a b : Nat) : (((List.range b).map fun y => (a, y)).filter C).Pairwise lt2 := by
  refine List.Pairwise.sublist List.filter_sublist ?_
  rw [List.pairwise_map]
  exact List.pairwise_lt_range.imp fun h => .inr ⟨rfl, h⟩
theorem prs_sorted (M : Nat) (C : Nat × Nat → Bool) : ∀ a b, (prs M C a b).Pairwise lt2
  | 0, b => row_sorted C 0 b
  | a + 1, b => by
    rw [prs, List.pairwise_append]
    refine ⟨prs_sorted M C a M, row_sorted C (a + 1) b, fun x hx y hy => ?_⟩
    have h1 := (prs_mem.1 hx).2
    obtain ⟨⟨z, hz, rfl⟩, _⟩ := (List.mem_filter.1 hy).imp_left List.mem_map.1
    left
    show x.1 < a + 1
    omega
theorem prs_len (M : Nat) (C : Nat × Nat → Bool) : ∀ a b, b ≤ M → (prs M C a b).length ≤ (a + 1) * M
  | 0, b, h => by
    unfold prs
    refine Nat.le_trans (List.length_filter_le _ _) ?_
    simp; exact h
  | a + 1, b, h => by
    rw [prs, List.length_append]
    have h1 := prs_len M C a M (Nat.le_refl _)
    have h2 := List.length_filter_le C ((List.range b).map fun y => (a + 1, y))
    rw [List.length_map, List.length_range] at h2
    rw [Nat.add_mul (a + 1) 1 M]
    omega
/-- A sorted list without its repeats is strictly sorted. -/
theorem compact_sorted {l : List (Nat × Nat)} (h : l.Pairwise fun x y => ¬ lt2 y x) : (Go.Lib.compact l).Pairwise lt2 := by
  unfold Go.Lib.compact Go.Lib.compactUpTo
  rw [List.pairwise_map]
  have hs : ((List.range l.length).filter (Go.Lib.keeps l.toArray)).Pairwise (· < ·) := List.Pairwise.sublist List.filter_sublist List.pairwise_lt_range
  have hm : ∀ j ∈ (List.range l.length).filter (Go.Lib.keeps l.toArray), j < l.length ∧ Go.Lib.keeps l.toArray j = true := fun j hj => ⟨List.mem_range.1 (List.mem_filter.1 hj).1, (List.mem_filter.1 hj).2⟩
  refine List.Pairwise.imp_of_mem ?_ hs
  intro i j hi hj hij
  obtain ⟨hi1, _⟩ := hm i hi
  obtain ⟨hj1, hk⟩ := hm j hj
  have hat : ∀ k (hk : k < l.length), l.toArray[k]! = l[k] := fun k hk => by simp [getElem!_pos, hk]
  have hne : l[j] ≠ l[j - 1] := by
    unfold Go.Lib.keeps at hk
    simp only [decide_eq_true_eq] at hk
    rcases hk with hk | hk
    · omega
    · rw [hat j hj1, hat (j - 1) (by omega)] at hk; exact hk
  have hle : ∀ a b (ha : a < l.length) (hb : b < l.length), a < b → ¬ lt2 l[b] l[a] := fun a b ha hb hab => List.pairwise_iff_getElem.1 h a b ha hb hab
  rw [hat i hi1, hat j hj1]
  rcases lt2_tri l[i] l[j] with e | e | e
  · exact e
  · exfalso
    rcases Nat.lt_or_ge i (j - 1) with g | g
    · have g1 := hle i (j - 1) hi1 (by omega) g
      have g2 := hle (j - 1) j (by omega) hj1 (by omega)
      rcases lt2_tri l[j - 1] l[j] with f | f | f
      · rw [← e] at f; exact g1 f
      · exact hne f.symm
      · exact g2 f
    · have : i = j - 1 := by omega
      subst this
      exact hne e.symm
  · exact absurd e (hle i j hi1 hj1 hij)
theorem sortL_sorted (l : List (Nat × Nat)) : (De.sortL l).Pairwise fun x y => ¬ lt2 y x := by
  have h := List.pairwise_mergeSort (le := fun x y => !(Go.Proofs.ltOf De.ord y x)) (fun a b c h1 h2 => by
    rw [De.ltOrd] at *
    simp at *
    omega) (fun a b => by
    rw [De.ltOrd, De.ltOrd]
    simp
    omega) l
  refine h.imp fun {x y} hxy => ?_
  rw [De.ltOrd] at hxy
  intro g
  unfold lt2 at g
  simp at hxy
  omega
/-- The reference's edges are the program's. -/
theorem prs_ces {n : Nat} {es : List (Nat × Nat)} (hE : Ok n es) : prs (cnt (isL n es) n) (fun p => decide (p ∈ cE n es)) (cnt (isL n es) n) 0 = ces n es := by
  refine sorted_ext2 _ _ (prs_sorted _ _ _ _) (compact_sorted (sortL_sorted _)) fun p => ?_
  rw [ces_mem, prs_mem]
  simp only [decide_eq_true_eq]
  constructor
  · exact fun h => h.1
  · intro h
    have h1 := ces_ok hE p ((ces_mem n es p).2 h)
    exact ⟨h, .inl h1⟩
/-- Which numbers have been laid. -/
def Fil (n : Nat) (es : List (Nat × Nat)) (i k : Nat) (L : List Int) : Prop := L.length = n ∧ ∀ x, x < n → (num n es x < i ∨ (num n es x = i ∧ (x : Int) ∈ ((pL n es n).getD i []).take k)) → L.getD x 0 = (num n es x : Nat)
theorem Fil.start (n : Nat) (es : List (Nat × Nat)) : Fil n es 0 0 (List.replicate n 0) := ⟨by simp, fun x hx h => by
  rcases h with h | ⟨_, h⟩
  · omega
  · simp at h⟩
theorem Fil.put {n : Nat} {es : List (Nat × Nat)} {i k v : Nat} {L : List Int} (h : Fil n es i k L) (hk : k < ((pL n es n).getD i []).length) (hv : ((pL n es n).getD i []).getD k 0 = v) (hvn : v < n) (hn : num n es v = i) : Fil n es i (k + 1) (L.set v (i : Int)) := ⟨by rw [List.length_set]; exact h.1, fun x hx hc => by
  rw [set_getD _ _ _ _ _ (by rw [h.1]; exact hvn)]
  by_cases e : x = v
  · rw [if_pos e, e, hn]
  · rw [if_neg e]
    refine h.2 x hx (hc.imp id fun hc => ⟨hc.1, ?_⟩)
    have h2 := hc.2
    rw [take_at 0 hk, List.mem_append, List.mem_singleton, hv] at h2
    rcases h2 with h2 | h2
    · exact h2
    · exact absurd (show x = v by omega) e⟩
theorem Fil.next {n : Nat} {es : List (Nat × Nat)} (hE : Ok n es) {i : Nat} {L : List Int} (h : Fil n es i ((pL n es n).getD i []).length L) : Fil n es (i + 1) 0 L := ⟨h.1, fun x hx hc => by
  refine h.2 x hx ?_
  rcases hc with hc | ⟨_, hc⟩
  · rcases Nat.lt_or_ge (num n es x) i with g | g
    · exact .inl g
    · have hni : num n es x = i := by omega
      refine .inr ⟨hni, ?_⟩
      rw [List.take_length]
      have hl : i < (lds n es n).length := by
        have := (num_lt hE hx).1
        rw [lds_len]; omega
      unfold pL
      rw [mapD _ hl]
      have hld : (lds n es n).getD i 0 = ldr n es x := by
        rw [← hni]
        exact fr_at (isL n es) (ldr_lt hE hx) (ldr_isL hE hx)
      rw [hld]
      unfold mem ci
      exact List.mem_map.2 ⟨x, List.mem_filter.2 ⟨List.mem_range.2 hx, by simp⟩, rfl⟩
  · simp at hc⟩
theorem Fil.all {n : Nat} {es : List (Nat × Nat)} (hE : Ok n es) {L : List Int} (h : Fil n es (cnt (isL n es) n) 0 L) : L = ci (nums n es n) := ext_getD 0 (by rw [h.1, ci_len, nums_len]) fun i hi => by
  rw [h.1] at hi
  rw [h.2 i hi (.inl (num_lt hE hi).1), ci_at, nums_at n es hi]
/-- Has an edge between two components been found? -/
def fo (n : Nat) (es : List (Nat × Nat)) (a b j : Nat) : Bool := (es.take j).any fun e => num n es e.1 == a && num n es e.2 == b
theorem fo_zero (n : Nat) (es : List (Nat × Nat)) (a b : Nat) : fo n es a b 0 = false := by simp [fo]
theorem fo_succ {n : Nat} {es : List (Nat × Nat)} (a b : Nat) {j : Nat} (hj : j < es.length) : fo n es a b (j + 1) = (fo n es a b j || (num n es (es.getD j (0, 0)).1 == a && num n es (es.getD j (0, 0)).2 == b)) := by
  unfold fo
  rw [take_at (0, 0) hj, List.any_append]
  simp
theorem fo_all (n : Nat) (es : List (Nat × Nat)) (a b : Nat) : (fo n es a b es.length && decide (a ≠ b)) = decide ((a, b) ∈ cE n es) := by
  rw [Bool.eq_iff_iff, Bool.and_eq_true, decide_eq_true_eq, decide_eq_true_eq, cE_mem]
  unfold fo
  rw [List.take_length, List.any_eq_true]
  constructor
  · rintro ⟨⟨e, he, h⟩, hne⟩
    simp only [Bool.and_eq_true, beq_iff_eq] at h
    exact ⟨hne, e.1, e.2, he, h.1, h.2⟩
  · rintro ⟨hne, x, y, he, rfl, rfl⟩
    exact ⟨⟨(x, y), he, by simp⟩, hne⟩
end Dg
