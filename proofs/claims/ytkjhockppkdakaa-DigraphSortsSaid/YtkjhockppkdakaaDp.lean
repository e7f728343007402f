/- Directed graphs: balls and distances; the errors of graphs. Plain facts, of no program. -/
namespace Dg
/-- Edges of a right graph. -/
def Ok (n : Nat) (E : List (Nat × Nat)) : Prop := ∀ e ∈ E, e.1 < n ∧ e.2 < n
/-- Can a vertex be reached in at most k edges? -/
def ball (E : List (Nat × Nat)) (s : Nat) : Nat → Nat → Bool
  | 0, v => v == s
  | k + 1, v => ball E s k v || E.any fun e => e.2 == v && ball E s k e.1
theorem ball_zero {E : List (Nat × Nat)} {s v : Nat} : ball E s 0 v = true ↔ v = s := by unfold ball; simp
theorem ball_succ {E : List (Nat × Nat)} {s k v : Nat} : ball E s (k + 1) v = true ↔ ball E s k v = true ∨ ∃ u, (u, v) ∈ E ∧ ball E s k u = true := by
  rw [ball, Bool.or_eq_true, List.any_eq_true]
  refine or_congr Iff.rfl ⟨?_, ?_⟩
  · rintro ⟨⟨a, b⟩, he, h⟩
    simp only [Bool.and_eq_true, beq_iff_eq] at h
    obtain ⟨rfl, h⟩ := h
    exact ⟨a, he, h⟩
  · rintro ⟨u, he, h⟩
    exact ⟨(u, v), he, by simp [h]⟩
theorem ball_mono {E : List (Nat × Nat)} {s v j k : Nat} (hjk : j ≤ k) (h : ball E s j v = true) : ball E s k v = true := by
  induction k with
  | zero => rw [show 0 = j by omega]; exact h
  | succ k ih =>
    by_cases e : j = k + 1
    · rw [← e]; exact h
    · exact ball_succ.2 (.inl (ih (by omega)))
theorem ball_lt {n : Nat} {E : List (Nat × Nat)} {s : Nat} (hE : Ok n E) (hs : s < n) : ∀ {k v : Nat}, ball E s k v = true → v < n
  | 0, v, h => by rw [ball_zero.1 h]; exact hs
  | k + 1, v, h => by
    rcases ball_succ.1 h with h | ⟨u, he, _⟩
    · exact ball_lt hE hs h
    · exact (hE _ he).2
/-- When a round adds nothing, no later one does. -/
theorem ball_stable {E : List (Nat × Nat)} {s k : Nat} (h : ∀ v, ball E s (k + 1) v = true → ball E s k v = true) : ∀ m v, ball E s m v = true → ball E s k v = true := by
  have h2 : ∀ m, ∀ v, ball E s (k + m) v = true → ball E s k v = true := by
    intro m
    induction m with
    | zero => intro v hv; exact hv
    | succ m ih =>
      intro v hv
      rcases ball_succ.1 (show ball E s (k + m + 1) v = true from hv) with hv | ⟨u, he, hu⟩
      · exact ih v hv
      · exact h v (ball_succ.2 (.inr ⟨u, he, ih u hu⟩))
  intro m v hv
  exact h2 m v (ball_mono (by omega) hv)
/-- How many vertices below n there are. -/
def cnt (p : Nat → Bool) (n : Nat) : Nat := ((List.range n).filter p).length
theorem cnt_succ (p : Nat → Bool) (n : Nat) : cnt p (n + 1) = cnt p n + if p n then 1 else 0 := by
  unfold cnt
  rw [List.range_succ, List.filter_append, List.length_append]
  cases h : p n <;> simp [h]
theorem cnt_le_n (p : Nat → Bool) (n : Nat) : cnt p n ≤ n := by
  unfold cnt; exact Nat.le_trans (List.length_filter_le _ _) (by simp)
theorem cnt_le {p q : Nat → Bool} : ∀ {n : Nat}, (∀ v, v < n → p v = true → q v = true) → cnt p n ≤ cnt q n
  | 0, _ => by simp [cnt]
  | n + 1, h => by
    have ih := cnt_le (n := n) (p := p) (q := q) fun v hv => h v (by omega)
    rw [cnt_succ, cnt_succ]
    have := h n (by omega)
    cases hp : p n
    · simp; omega
    · rw [this hp]; simp; omega
theorem cnt_lt {p q : Nat → Bool} {n x : Nat} (h : ∀ v, v < n → p v = true → q v = true) (hx : x < n) (hp : p x = false) (hq : q x = true) : cnt p n < cnt q n := by
  induction n with
  | zero => omega
  | succ n ih =>
    rw [cnt_succ, cnt_succ]
    by_cases e : x = n
    · subst e
      have := cnt_le (n := x) (p := p) (q := q) fun v hv => h v (by omega)
      rw [hp, hq]; simp; omega
    · have := ih (fun v hv => h v (by omega)) (by omega)
      have h2 := h n (by omega)
      cases hpn : p n
      · simp; omega
      · rw [h2 hpn]; simp; omega
/-- The balls stand still from n - 1 on. -/
theorem ball_all {n : Nat} {E : List (Nat × Nat)} {s : Nat} (hE : Ok n E) (hs : s < n) {m v : Nat} (h : ball E s m v = true) : ball E s (n - 1) v = true := by
  have key : ∀ k, (∃ j, j ≤ k ∧ ∀ v, ball E s (j + 1) v = true → ball E s j v = true) ∨ k + 2 ≤ cnt (ball E s (k + 1)) n := by
    intro k
    induction k with
    | zero =>
      by_cases h0 : ∀ v, ball E s (0 + 1) v = true → ball E s 0 v = true
      · exact .inl ⟨0, Nat.le_refl _, h0⟩
      · right
        obtain ⟨v, hv⟩ := Classical.not_forall.1 h0
        obtain ⟨h1, h2⟩ := Classical.not_imp.1 hv
        have h3 : cnt (ball E s 0) n < cnt (ball E s 1) n := cnt_lt (fun v _ hv => ball_mono (by omega) hv) (ball_lt hE hs h1) (by simpa using h2) h1
        have h4 : 0 < cnt (ball E s 0) n := by
          unfold cnt
          exact List.length_pos_of_mem (List.mem_filter.2 ⟨List.mem_range.2 hs, ball_zero.2 rfl⟩)
        show 2 ≤ cnt (ball E s 1) n
        omega
    | succ k ih =>
      rcases ih with ⟨j, hj, h⟩ | ih
      · exact .inl ⟨j, by omega, h⟩
      · by_cases h0 : ∀ v, ball E s (k + 1 + 1) v = true → ball E s (k + 1) v = true
        · exact .inl ⟨k + 1, by omega, h0⟩
        · right
          obtain ⟨v, hv⟩ := Classical.not_forall.1 h0
          obtain ⟨h1, h2⟩ := Classical.not_imp.1 hv
          have := cnt_lt (n := n) (p := ball E s (k + 1)) (q := ball E s (k + 1 + 1)) (fun v _ hv => ball_mono (show k + 1 ≤ k + 1 + 1 by omega) hv) (ball_lt hE hs h1) (by simpa using h2) h1
          omega
  rcases key (n - 1) with ⟨j, hj, h2⟩ | h2
  · exact ball_mono hj (ball_stable h2 m v h)
  · have := cnt_le_n (ball E s (n - 1 + 1)) n
    omega
/-- The distance of a vertex, or -1. -/
def dist (n : Nat) (E : List (Nat × Nat)) (s v : Nat) : Int := match (List.range n).find? (fun k => ball E s k v) with
  | some k => k
  | none => -1
theorem find_range {p : Nat → Bool} : ∀ {n k : Nat}, (List.range n).find? p = some k ↔ k < n ∧ p k = true ∧ ∀ j, j < k → p j = false
  | 0, k => by simp
  | n + 1, k => by
    rw [List.range_succ, List.find?_append]
    cases h : (List.range n).find? p with
    | some i =>
      obtain ⟨h1, h2, h3⟩ := find_range.1 h
      simp only [Option.some_or, Option.some.injEq]
      constructor
      · rintro rfl; exact ⟨by omega, h2, h3⟩
      · rintro ⟨g1, g2, g3⟩
        rcases Nat.lt_trichotomy i k with e | e | e
        · rw [g3 i e] at h2; cases h2
        · exact e
        · rw [h3 k e] at g2; cases g2
    | none =>
      have h1 := List.find?_eq_none.1 h
      simp only [Option.none_or, List.find?_cons, List.find?_nil]
      constructor
      · intro g
        split at g
        · next hp =>
          obtain rfl := Option.some.inj g
          exact ⟨by omega, hp, fun j hj => by simpa using h1 j (List.mem_range.2 hj)⟩
        · cases g
      · rintro ⟨g1, g2, g3⟩
        have : k = n := by
          refine Classical.byContradiction fun e => ?_
          exact h1 k (List.mem_range.2 (by omega)) g2
        subst this
        rw [g2]
theorem dist_some {n : Nat} {E : List (Nat × Nat)} {s v k : Nat} (hE : Ok n E) (hs : s < n) : dist n E s v = k ↔ ball E s k v = true ∧ ∀ j, j < k → ball E s j v = false := by
  unfold dist
  constructor
  · intro h
    cases hf : (List.range n).find? (fun k => ball E s k v) with
    | none => rw [hf] at h; simp only at h; omega
    | some i =>
      rw [hf] at h
      simp only [Int.ofNat_inj] at h
      subst h
      exact (find_range.1 hf).2
  · rintro ⟨h1, h2⟩
    have hk : k < n := by
      refine Classical.byContradiction fun e => ?_
      have := h2 (n - 1) (by omega)
      rw [ball_all hE hs h1] at this; cases this
    rw [find_range.2 ⟨hk, h1, h2⟩]
theorem dist_none {n : Nat} {E : List (Nat × Nat)} {s v : Nat} (hE : Ok n E) (hs : s < n) : dist n E s v = -1 ↔ ∀ k, ball E s k v = false := by
  unfold dist
  constructor
  · intro h k
    cases hf : (List.range n).find? (fun k => ball E s k v) with
    | some i => rw [hf] at h; simp only at h; omega
    | none =>
      have h1 := List.find?_eq_none.1 hf
      cases hk : ball E s k v
      · rfl
      · exact absurd (ball_all hE hs hk) (by simpa using h1 (n - 1) (List.mem_range.2 (by omega)))
  · intro h
    rw [List.find?_eq_none.2 fun k _ => by simp [h k]]
theorem dist_cases (n : Nat) (E : List (Nat × Nat)) (s v : Nat) : dist n E s v = -1 ∨ ∃ k : Nat, k < n ∧ dist n E s v = k := by
  unfold dist
  cases hf : (List.range n).find? (fun k => ball E s k v) with
  | none => exact .inl rfl
  | some i => exact .inr ⟨i, List.mem_range.1 (List.mem_of_find?_eq_some hf), rfl⟩
section
variable {n : Nat} {E : List (Nat × Nat)} {s : Nat} (hE : Ok n E) (hs : s < n)
include hE hs
theorem dist_ball {v k : Nat} : ball E s k v = true ↔ 0 ≤ dist n E s v ∧ dist n E s v ≤ k := by
  rcases dist_cases n E s v with h | ⟨i, hi, h⟩
  · rw [h]
    have := (dist_none hE hs).1 h k
    rw [this]; simp
  · rw [h]
    obtain ⟨h1, h2⟩ := (dist_some hE hs).1 h
    constructor
    · intro hk
      refine ⟨by omega, ?_⟩
      have : ¬ k < i := fun e => by rw [h2 k e] at hk; cases hk
      omega
    · rintro ⟨_, hk⟩
      exact ball_mono (by omega) h1
theorem dist_self : dist n E s s = 0 := (dist_some hE hs (k := 0)).2 ⟨ball_zero.2 rfl, fun j hj => by omega⟩
theorem dist_zero {v : Nat} : dist n E s v = 0 ↔ v = s := by
  constructor
  · intro h
    exact ball_zero.1 ((dist_some hE hs (k := 0)).1 h).1
  · rintro rfl; exact dist_self hE hs
/-- Along an edge the distance grows by 1 at most. -/
theorem dist_edge {u v : Nat} (he : (u, v) ∈ E) (hu : 0 ≤ dist n E s u) : 0 ≤ dist n E s v ∧ dist n E s v ≤ dist n E s u + 1 := by
  obtain ⟨k, hk⟩ := Int.eq_ofNat_of_zero_le hu
  have h1 : ball E s k u = true := (dist_ball hE hs).2 ⟨hu, by omega⟩
  have h2 := (dist_ball hE hs).1 (ball_succ.2 (.inr ⟨u, he, h1⟩) : ball E s (k + 1) v = true)
  omega
/-- A vertex of a positive distance has an edge from one that is nearer. -/
theorem dist_pred {v : Nat} {k : Nat} (h : dist n E s v = (k : Int) + 1) : ∃ u, (u, v) ∈ E ∧ dist n E s u = k := by
  obtain ⟨h1, h2⟩ := (dist_some hE hs (k := k + 1)).1 (by simpa using h)
  rcases ball_succ.1 h1 with h1 | ⟨u, he, hu⟩
  · rw [h2 k (by omega)] at h1; cases h1
  · refine ⟨u, he, ?_⟩
    have hd := (dist_ball hE hs).1 hu
    have he2 := dist_edge hE hs he hd.1
    omega
omit hE in
theorem dist_lt {v : Nat} : dist n E s v < n := by
  rcases dist_cases n E s v with h | ⟨i, hi, h⟩ <;> omega
omit hE hs in
theorem dist_ge {v : Nat} : -1 ≤ dist n E s v := by
  rcases dist_cases n E s v with h | ⟨i, hi, h⟩ <;> omega
theorem dist_out {v : Nat} (hv : ¬ v < n) : dist n E s v = -1 := by
  refine (dist_none hE hs).2 fun k => ?_
  cases hk : ball E s k v
  · rfl
  · exact absurd (ball_lt hE hs hk) hv
end
end Dg
namespace Dg
/-- Is a number a vertex? -/
def vtx (n x : Int) : Bool := decide (0 ≤ x ∧ x < n)
/-- Are all edges right? -/
def allE (n : Int) (E : List (Int × Int)) : Bool := E.all fun e => vtx n e.1 && vtx n e.2
/-- What Check returns. -/
def chk (n : Int) (E : List (Int × Int)) : Int := if n < 0 ∨ 256 < n then 2 else if 4096 < E.length then 5 else if allE n E then 0 else 2
/-- A right graph with natural numbers. -/
def cst (es : List (Nat × Nat)) : List (Int × Int) := es.map fun e => ((e.1 : Int), (e.2 : Int))
theorem cst_len (es : List (Nat × Nat)) : (cst es).length = es.length := by simp [cst]
theorem cst_at (es : List (Nat × Nat)) (i : Nat) : (cst es).getD i (0, 0) = (((es.getD i (0, 0)).1 : Int), ((es.getD i (0, 0)).2 : Int)) := by
  unfold cst
  simp only [List.getD_eq_getElem?_getD, List.getElem?_map]
  cases es[i]? <;> rfl
theorem getD_mem {α : Type} {l : List α} {i : Nat} {d : α} (h : i < l.length) : l.getD i d ∈ l := by
  rw [List.getD_eq_getElem?_getD, List.getElem?_eq_getElem h]; exact List.getElem_mem h
theorem mem_getD {α : Type} {l : List α} {x : α} (d : α) (h : x ∈ l) : ∃ i, i < l.length ∧ l.getD i d = x := by
  obtain ⟨i, hi, rfl⟩ := List.getElem_of_mem h
  exact ⟨i, hi, by rw [List.getD_eq_getElem?_getD, List.getElem?_eq_getElem hi]; rfl⟩
theorem take_at {α : Type} {l : List α} {i : Nat} (d : α) (h : i < l.length) : l.take (i + 1) = l.take i ++ [l.getD i d] := by
  rw [List.take_add_one, List.getElem?_eq_getElem h, Option.toList_some, List.getD_eq_getElem?_getD, List.getElem?_eq_getElem h, Option.getD_some]
theorem vtx_nat {n x : Nat} : vtx n x = true ↔ x < n := by unfold vtx; simp
theorem chk_zero {n : Int} {E : List (Int × Int)} (h : chk n E = 0) : ∃ (m : Nat) (es : List (Nat × Nat)), n = m ∧ m ≤ 256 ∧ E = cst es ∧ es.length = E.length ∧ es.length ≤ 4096 ∧ Ok m es := by
  unfold chk at h
  by_cases h1 : n < 0 ∨ 256 < n
  · rw [if_pos h1] at h; cases h
  · rw [if_neg h1] at h
    by_cases h2 : 4096 < E.length
    · rw [if_pos h2] at h; cases h
    · rw [if_neg h2] at h
      cases h3 : allE n E
      · rw [h3] at h; cases h
      · obtain ⟨m, rfl⟩ := Int.eq_ofNat_of_zero_le (show 0 ≤ n by omega)
        unfold allE at h3
        rw [List.all_eq_true] at h3
        have hv : ∀ e ∈ E, (0 ≤ e.1 ∧ e.1 < m) ∧ (0 ≤ e.2 ∧ e.2 < m) := fun e he => by
          have := h3 e he
          unfold vtx at this
          simpa using this
        refine ⟨m, E.map fun e => (e.1.toNat, e.2.toNat), rfl, by omega, ?_, by simp, by simp; omega, ?_⟩
        · unfold cst
          rw [List.map_map]
          conv => lhs; rw [← List.map_id E]
          refine List.map_congr_left fun e he => ?_
          have := hv e he
          simp only [id, Function.comp]
          rw [Int.toNat_of_nonneg this.1.1, Int.toNat_of_nonneg this.2.1]
        · intro e he
          obtain ⟨x, hx, rfl⟩ := List.mem_map.1 he
          have := hv x hx
          simp only
          omega
theorem ok_all {n : Nat} {es : List (Nat × Nat)} (h : Ok n es) : allE n (cst es) = true := by
  unfold allE cst
  rw [List.all_eq_true]
  intro e he
  obtain ⟨x, hx, rfl⟩ := List.mem_map.1 he
  have := h x hx
  simp [vtx]; omega
theorem ok_chk {n : Nat} {es : List (Nat × Nat)} (hn : n ≤ 256) (hl : es.length ≤ 4096) (h : Ok n es) : chk n (cst es) = 0 := by
  unfold chk
  rw [if_neg (by omega), if_neg (by rw [cst_len]; omega), if_pos (ok_all h)]
end Dg
