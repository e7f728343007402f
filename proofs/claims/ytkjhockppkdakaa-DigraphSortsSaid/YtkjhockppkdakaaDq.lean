/- The order of a graph, as far as there is one. Plain facts. -/
import Derived.Test.YtkjhockppkdakaaDo
import Derived.Lib.Slices
namespace Dg
def rm (n : Nat) (f : Nat → Int) : List Int := (List.range n).map f
theorem rm_len (n : Nat) (f : Nat → Int) : (rm n f).length = n := by simp [rm]
theorem rm_at {n : Nat} (f : Nat → Int) {x : Nat} (hx : x < n) : (rm n f).getD x 0 = f x := by
  unfold rm; rw [List.getD_eq_getElem?_getD, List.getElem?_map, List.getElem?_range hx]; rfl
theorem rm_congr {n : Nat} {f g : Nat → Int} (h : ∀ x, x < n → f x = g x) : rm n f = rm n g := List.map_congr_left fun x hx => h x (List.mem_range.1 hx)
theorem rm_set {n : Nat} (f : Nat → Int) {x : Nat} (hx : x < n) (a : Int) : (rm n f).set x a = rm n fun y => if y = x then a else f y := by
  refine ext_getD 0 (by simp [rm_len]) fun i hi => ?_
  have hi' : i < n := by simpa [rm_len] using hi
  rw [set_getD _ _ _ _ _ (by rw [rm_len]; exact hx), rm_at _ hi', rm_at _ hi']
theorem countP_or {α : Type} {p q r : α → Bool} : ∀ (l : List α), (∀ x ∈ l, p x = (q x || r x) ∧ (q x && r x) = false) → l.countP p = l.countP q + l.countP r
  | [], _ => rfl
  | x :: l, h => by
    have ih := countP_or l (fun y hy => h y (List.mem_cons_of_mem _ hy))
    obtain ⟨h1, h2⟩ := h x (by simp)
    rw [List.countP_cons, List.countP_cons, List.countP_cons, ih, h1]
    cases hq : q x <;> cases hr : r x <;> simp_all <;> omega
theorem nb_count (es : List (Nat × Nat)) (v x : Nat) : (nb es v).count (x : Int) = es.countP fun e => e.1 == v && e.2 == x := by
  unfold nb
  rw [(List.mergeSort_perm _ _).count_eq]
  induction es with
  | nil => rfl
  | cons e es ih =>
    rw [List.countP_cons, ← ih]
    unfold adj
    by_cases h : e.1 = v
    · rw [List.filter_cons_of_pos (by simpa using h), List.map_cons]
      unfold ci
      rw [List.map_cons, List.count_cons]
      by_cases h2 : e.2 = x
      · simp [h, h2]
      · have h3 : (e.2 : Int) ≠ (x : Int) := by omega
        simp [h, h2, h3]
    · rw [List.filter_cons_of_neg (by simpa using h)]
      simp [h]
/-- The numbers of edges while they are being counted. -/
def inc (es : List (Nat × Nat)) (i m x : Nat) : Int := ((es.countP (fun e => e.2 == x && decide (e.1 < i)) + ((nb es i).take m).count (x : Int) : Nat) : Int)
theorem inc_zero (es : List (Nat × Nat)) (x : Nat) : inc es 0 0 x = 0 := by simp [inc]
theorem inc_step {es : List (Nat × Nat)} {i m u : Nat} (hm : m < (nb es i).length) (hu : (nb es i).getD m 0 = u) (y : Nat) : inc es i (m + 1) y = if y = u then inc es i m u + 1 else inc es i m y := by
  unfold inc
  rw [take_at 0 hm, hu, List.count_append]
  by_cases h : y = u
  · subst h; rw [if_pos rfl]; simp; omega
  · rw [if_neg h]
    have : List.count (y : Int) [(u : Int)] = 0 := by rw [List.count_eq_zero]; simp; omega
    omega
theorem inc_next (es : List (Nat × Nat)) (i x : Nat) : inc es (i + 1) 0 x = inc es i (nb es i).length x := by
  unfold inc
  rw [List.take_length, nb_count, List.take_zero, List.count_nil, Nat.add_zero, countP_or (q := fun e => e.2 == x && decide (e.1 < i)) (r := fun e => e.1 == i && e.2 == x)]
  intro e _
  constructor
  · cases h : e.2 == x
    · simp
    · simp only [Bool.true_and, Bool.and_true]
      rw [Bool.eq_iff_iff]; simp; omega
  · cases h : e.2 == x
    · simp
    · simp only [Bool.true_and, Bool.and_true]
      rw [Bool.and_eq_false_iff]; simp; omega
theorem inc_bound {es : List (Nat × Nat)} (i m x : Nat) (he : es.length ≤ 4096) : 0 ≤ inc es i m x ∧ inc es i m x ≤ 8192 := by
  unfold inc
  have h1 := List.countP_le_length (p := fun e : Nat × Nat => e.2 == x && decide (e.1 < i)) (l := es)
  have h2 := List.count_le_length (a := (x : Int)) (l := (nb es i).take m)
  have h3 : ((nb es i).take m).length ≤ (nb es i).length := by rw [List.length_take]; omega
  have h4 := nb_len es i
  have h5 := adj_len es i
  omega
/-- From how many vertices that are not in a list edges lead to a vertex; -1 in the list. -/
def wt (es : List (Nat × Nat)) (l : List Nat) (x : Nat) : Int := if x ∈ l then -1 else (es.countP fun e => e.2 == x && decide (e.1 ∉ l) : Nat)
theorem inc_all {n : Nat} {es : List (Nat × Nat)} (hE : Ok n es) (x : Nat) : inc es n 0 x = wt es [] x := by
  unfold inc wt
  rw [if_neg (by simp), List.take_zero, List.count_nil, Nat.add_zero]
  congr 1
  refine List.countP_congr fun e he => ?_
  simp [(hE e he).1]
theorem wt_zero {es : List (Nat × Nat)} {l : List Nat} {x : Nat} : wt es l x = 0 ↔ x ∉ l ∧ ∀ u, (u, x) ∈ es → u ∈ l := by
  unfold wt
  by_cases h : x ∈ l
  · simp [h]
  · rw [if_neg h]
    simp only [Int.natCast_eq_zero, List.countP_eq_zero, Bool.and_eq_true, beq_iff_eq, decide_eq_true_eq, not_and, Classical.not_not]
    constructor
    · intro g; exact ⟨h, fun u hu => g _ hu rfl⟩
    · rintro ⟨_, g⟩ ⟨a, b⟩ he rfl; exact g a he
/-- Behind the choice of a vertex, while its edges are taken away. -/
def dec (es : List (Nat × Nat)) (l : List Nat) (v m x : Nat) : Int := if x ∈ l ∨ x = v then -1 else (es.countP fun e => e.2 == x && decide (e.1 ∉ l) : Nat) - (((nb es v).take m).count (x : Int) : Nat)
theorem dec_zero (es : List (Nat × Nat)) (l : List Nat) (v x : Nat) : dec es l v 0 x = if x = v then -1 else wt es l x := by
  unfold dec wt
  by_cases h1 : x = v <;> by_cases h2 : x ∈ l <;> simp [h1, h2]
theorem dec_step {es : List (Nat × Nat)} {l : List Nat} {v m u : Nat} (hm : m < (nb es v).length) (hu : (nb es v).getD m 0 = u) (h1 : u ∉ l) (h2 : u ≠ v) (y : Nat) : dec es l v (m + 1) y = if y = u then dec es l v m u - 1 else dec es l v m y := by
  unfold dec
  by_cases h : y = u
  · subst h
    rw [if_pos rfl, if_neg (by simp [h1, h2]), if_neg (by simp [h1, h2]), take_at 0 hm, hu, List.count_append]
    simp; omega
  · rw [if_neg h]
    by_cases h3 : y ∈ l ∨ y = v
    · rw [if_pos h3, if_pos h3]
    · rw [if_neg h3, if_neg h3, take_at 0 hm, hu, List.count_append]
      have : List.count (y : Int) [(u : Int)] = 0 := by rw [List.count_eq_zero]; simp; omega
      omega
theorem dec_all {es : List (Nat × Nat)} {l : List Nat} {v : Nat} (hv : v ∉ l) (x : Nat) : dec es l v (nb es v).length x = wt es (l ++ [v]) x := by
  unfold dec wt
  rw [List.take_length, nb_count]
  by_cases h : x ∈ l ∨ x = v
  · rw [if_pos h, if_pos (by simpa using h)]
  · rw [if_neg h, if_neg (by simpa using h)]
    have hc := countP_or (p := fun e : Nat × Nat => e.2 == x && decide (e.1 ∉ l)) (q := fun e : Nat × Nat => e.2 == x && decide (e.1 ∉ l ++ [v])) (r := fun e : Nat × Nat => e.1 == v && e.2 == x) es (fun e _ => by
      by_cases h1 : e.2 = x <;> by_cases h2 : e.1 = v <;> by_cases h3 : e.1 ∈ l <;> simp_all)
    omega
theorem dec_bound {es : List (Nat × Nat)} (l : List Nat) (v m x : Nat) (he : es.length ≤ 4096) : -8192 ≤ dec es l v m x ∧ dec es l v m x ≤ 8192 := by
  unfold dec
  have h1 := List.countP_le_length (p := fun e : Nat × Nat => e.2 == x && decide (e.1 ∉ l)) (l := es)
  have h2 := List.count_le_length (a := (x : Int)) (l := (nb es v).take m)
  have h3 : ((nb es v).take m).length ≤ (nb es v).length := by rw [List.length_take]; omega
  have h4 := nb_len es v
  have h5 := adj_len es v
  split <;> omega
/-- The vertex that is taken next. -/
def pk (n : Nat) (es : List (Nat × Nat)) (l : List Nat) : Option Nat := (List.range n).find? fun x => wt es l x == 0
theorem pk_some {n : Nat} {es : List (Nat × Nat)} {l : List Nat} {v : Nat} : pk n es l = some v ↔ v < n ∧ (v ∉ l ∧ ∀ u, (u, v) ∈ es → u ∈ l) ∧ ∀ x, x < v → ¬ (x ∉ l ∧ ∀ u, (u, x) ∈ es → u ∈ l) := by
  unfold pk
  rw [find_range]
  simp only [beq_iff_eq, wt_zero, beq_eq_false_iff_ne, ne_eq]
theorem pk_none {n : Nat} {es : List (Nat × Nat)} {l : List Nat} (h : pk n es l = none) {v : Nat} (hv : v < n) : ¬ (v ∉ l ∧ ∀ u, (u, v) ∈ es → u ∈ l) := by
  have := List.find?_eq_none.1 h v (List.mem_range.2 hv)
  rw [← wt_zero]
  simpa using this
def ix (n : Nat) (es : List (Nat × Nat)) (l : List Nat) : Int := match pk n es l with | some v => (v : Int) | none => -1
theorem idx_rm (n : Nat) (es : List (Nat × Nat)) (l : List Nat) : Go.Lib.idxOf ((rm n (wt es l)).take n) 0 = ix n es l := by
  unfold ix
  cases h : pk n es l with
  | some v =>
    obtain ⟨h1, h2, h3⟩ := find_range.1 h
    refine Go.Lib.idxOf_hit _ n v 0 h1 (by rw [rm_len]; exact Nat.le_refl _) (by rw [rm_at _ h1]; simpa using h2) fun j hj => ?_
    rw [rm_at _ (by omega)]
    simpa using h3 j hj
  | none =>
    refine Go.Lib.idxOf_miss _ n 0 fun j hj => ?_
    rw [rm_at _ hj]
    simpa using List.find?_eq_none.1 h j (List.mem_range.2 hj)
/-- The first vertices. -/
def ords (n : Nat) (es : List (Nat × Nat)) : Nat → List Nat
  | 0 => []
  | j + 1 => match pk n es (ords n es j) with
    | some v => ords n es j ++ [v]
    | none => ords n es j
def ordL (n : Nat) (es : List (Nat × Nat)) : List Nat := ords n es n
theorem ords_some {n : Nat} {es : List (Nat × Nat)} {j v : Nat} (h : pk n es (ords n es j) = some v) : ords n es (j + 1) = ords n es j ++ [v] := by rw [ords, h]
theorem ords_none {n : Nat} {es : List (Nat × Nat)} {j : Nat} (h : pk n es (ords n es j) = none) : ∀ m, ords n es (j + m) = ords n es j
  | 0 => rfl
  | m + 1 => by
    rw [← Nat.add_assoc, ords, ords_none h m, h]
structure OrdI (n : Nat) (es : List (Nat × Nat)) (l : List Nat) : Prop where
  lt : ∀ x ∈ l, x < n
  closed : ∀ x ∈ l, ∀ u, (u, x) ∈ es → u ∈ l
  nodup : l.Nodup
  len : l.length ≤ cnt (fun x => decide (x ∈ l)) n
theorem OrdI.snoc {n : Nat} {es : List (Nat × Nat)} {l : List Nat} (h : OrdI n es l) {v : Nat} (hp : pk n es l = some v) : OrdI n es (l ++ [v]) := by
  obtain ⟨h1, ⟨h2, h3⟩, _⟩ := pk_some.1 hp
  refine ⟨fun x hx => ?_, fun x hx u hu => ?_, ?_, ?_⟩
  · rcases List.mem_append.1 hx with hx | hx
    · exact h.lt x hx
    · rw [List.mem_singleton.1 hx]; exact h1
  · rcases List.mem_append.1 hx with hx | hx
    · exact List.mem_append_left _ (h.closed x hx u hu)
    · rw [List.mem_singleton.1 hx] at hu; exact List.mem_append_left _ (h3 u hu)
  · rw [List.nodup_append]
    exact ⟨h.nodup, by simp, fun a ha b hb => by rw [List.mem_singleton.1 hb]; rintro rfl; exact h2 ha⟩
  · have := cnt_lt (p := fun x => decide (x ∈ l)) (q := fun x => decide (x ∈ l ++ [v])) (n := n) (x := v) (fun x _ hx => by simp at hx ⊢; exact .inl hx) h1 (by simpa using h2) (by simp)
    have h4 := h.len
    rw [List.length_append]; simp only [List.length_singleton]; omega
theorem ords_ok (n : Nat) (es : List (Nat × Nat)) : ∀ j, OrdI n es (ords n es j)
  | 0 => ⟨fun _ h => (by cases h), fun _ h => (by cases h), by simp [ords], by simp [ords]⟩
  | j + 1 => by
    have ih := ords_ok n es j
    unfold ords
    split
    · next h => exact ih.snoc h
    · exact ih
theorem OrdI.len_n {n : Nat} {es : List (Nat × Nat)} {l : List Nat} (h : OrdI n es l) : l.length ≤ n := Nat.le_trans h.len (cnt_le_n _ _)
theorem ordL_none {n : Nat} {es : List (Nat × Nat)} {j : Nat} (hj : j ≤ n) (h : pk n es (ords n es j) = none) : ordL n es = ords n es j := by
  have := ords_none h (n - j)
  rw [Nat.add_sub_cancel' hj] at this
  exact this
end Dg
