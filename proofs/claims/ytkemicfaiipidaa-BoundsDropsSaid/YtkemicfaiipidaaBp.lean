/- Difference bounds: sums and lesser ones of bounds, closing in place, least sums of walks. Plain facts, of no program. -/
namespace Bn
abbrev Mx := Nat → Nat → Int
/-- The sum of two bounds, and the lesser one. -/
def sm (a b : Int) : Int := if a = -1099511627776 ∨ b = -1099511627776 then -1099511627776 else a + b
def mn (a b : Int) : Int := if a = -1099511627776 ∨ (b ≠ -1099511627776 ∧ b < a) then b else a
/-- All bounds are of a magnitude. -/
def Bd (n : Nat) (B : Int) (m : Mx) : Prop := ∀ i j, i ≤ n → j ≤ n → m i j = -1099511627776 ∨ (-B ≤ m i j ∧ m i j ≤ B)
def stp (k : Nat) (m : Mx) : Mx := fun i j => mn (m i j) (sm (m i k) (m k j))
/-- Closing: behind k rounds. -/
def fw (m : Mx) : Nat → Mx
  | 0 => m
  | k + 1 => stp k (fw m k)
def bad (n : Nat) (m : Mx) : Bool := (List.range (n + 1)).any fun i => decide (m i i < 0)
theorem bad_iff {n : Nat} {m : Mx} : bad n m = true ↔ ∃ i, i ≤ n ∧ m i i < 0 := by
  unfold bad
  rw [List.any_eq_true]
  constructor
  · rintro ⟨i, h1, h2⟩; exact ⟨i, by have := List.mem_range.1 h1; omega, of_decide_eq_true h2⟩
  · rintro ⟨i, h1, h2⟩; exact ⟨i, List.mem_range.2 (by omega), decide_eq_true h2⟩
theorem bad_no {n : Nat} {m : Mx} (h : bad n m = false) {i : Nat} (hi : i ≤ n) : 0 ≤ m i i := by
  refine Int.not_lt.1 fun g => ?_
  rw [bad_iff.2 ⟨i, hi, g⟩] at h; cases h
/-- The closing finds no contradiction; the closed bounds. -/
def ok (n : Nat) (b : Mx) : Bool := (List.range (n + 1)).all fun k => !bad n (fw b (k + 1))
def clo (n : Nat) (b : Mx) : Mx := fw b (n + 1)
theorem ok_at {n : Nat} {b : Mx} (h : ok n b = true) {k : Nat} (hk : k ≤ n) : bad n (fw b (k + 1)) = false := by
  have := List.all_eq_true.1 h k (List.mem_range.2 (by omega))
  simpa using this
theorem ok_no {n : Nat} {b : Mx} (h : ok n b = false) : ∃ k, k ≤ n ∧ bad n (fw b (k + 1)) = true := by
  obtain ⟨k, h1, h2⟩ := List.all_eq_false.1 h
  exact ⟨k, by have := List.mem_range.1 h1; omega, by simpa using h2⟩

/-! Walks. -/
def psum (b : Mx) (v : Nat → Nat) : Nat → Int
  | 0 => 0
  | t + 1 => psum b v t + b (v t) (v (t + 1))
/-- A walk of L bounds from i to j, with its sum. -/
def Wk (n : Nat) (b : Mx) (L i j : Nat) (s : Int) : Prop :=
  ∃ v : Nat → Nat, v 0 = i ∧ v L = j ∧ (∀ t, t ≤ L → v t ≤ n) ∧ (∀ t, t < L → b (v t) (v (t + 1)) ≠ -1099511627776) ∧ psum b v L = s
theorem psum_congr {b : Mx} {v u : Nat → Nat} : ∀ {L : Nat}, (∀ t, t ≤ L → v t = u t) → psum b v L = psum b u L
  | 0, _ => rfl
  | L + 1, h => by
    rw [psum, psum, psum_congr (fun t ht => h t (by omega)), h L (by omega), h (L + 1) (by omega)]
theorem psum_shift {b : Mx} {v : Nat → Nat} (a : Nat) : ∀ L, psum b (fun t => v (a + t)) L = psum b v (a + L) - psum b v a
  | 0 => by simp [psum]
  | L + 1 => by
    rw [psum, psum_shift a L, ← Nat.add_assoc, psum]
    simp only [Nat.add_assoc]
    omega
section
variable {n : Nat} {b : Mx}
theorem Wk.zero {i : Nat} (hi : i ≤ n) : Wk n b 0 i i 0 := ⟨fun _ => i, rfl, rfl, fun _ _ => hi, fun t h => by omega, rfl⟩
theorem Wk.one {i j : Nat} (hi : i ≤ n) (hj : j ≤ n) (h : b i j ≠ -1099511627776) : Wk n b 1 i j (b i j) := by
  refine ⟨fun t => if t = 0 then i else j, rfl, rfl, fun t _ => ?_, fun t ht => ?_, ?_⟩
  · by_cases e : t = 0
    · simp [e]; exact hi
    · simp [e]; exact hj
  · obtain rfl : t = 0 := by omega
    simpa using h
  · simp [psum]
theorem Wk.trans {L K i k j : Nat} {s r : Int} (h1 : Wk n b L i k s) (h2 : Wk n b K k j r) : Wk n b (L + K) i j (s + r) := by
  obtain ⟨v, a1, a2, a3, a4, a5⟩ := h1
  obtain ⟨u, b1, b2, b3, b4, b5⟩ := h2
  have e1 : ∀ t, t ≤ L → (if t ≤ L then v t else u (t - L)) = v t := fun t ht => if_pos ht
  have e2 : ∀ t, (if L + t ≤ L then v (L + t) else u (L + t - L)) = u t := fun t => by
    by_cases e : t = 0
    · subst e; simp; rw [a2, b1]
    · rw [if_neg (by omega)]; congr 1; omega
  refine ⟨fun t => if t ≤ L then v t else u (t - L), ?_, ?_, fun t ht => ?_, fun t ht => ?_, ?_⟩
  · simp only []; rw [e1 0 (by omega), a1]
  · simp only []; rw [e2 K, b2]
  · by_cases e : t ≤ L
    · simp only []; rw [e1 t e]; exact a3 t e
    · simp only []; rw [if_neg e]; exact b3 _ (by omega)
  · by_cases e : t < L
    · simp only []; rw [e1 t (by omega), e1 (t + 1) (by omega)]; exact a4 t e
    · obtain ⟨d, rfl⟩ : ∃ d, t = L + d := ⟨t - L, by omega⟩
      simp only []; rw [e2 d, Nat.add_assoc, e2 (d + 1)]; exact b4 d (by omega)
  · have h1 := psum_shift (b := b) (v := fun t => if t ≤ L then v t else u (t - L)) L K
    have h2 : psum b (fun t => (fun t => if t ≤ L then v t else u (t - L)) (L + t)) K = psum b u K := psum_congr fun t _ => e2 t
    have h3 : psum b (fun t => if t ≤ L then v t else u (t - L)) L = psum b v L := psum_congr fun t ht => e1 t ht
    rw [h2, h3] at h1
    omega
theorem Wk.snoc {L i k j : Nat} {s : Int} (h : Wk n b L i k s) (hj : j ≤ n) (hb : b k j ≠ -1099511627776) : Wk n b (L + 1) i j (s + b k j) := by
  have hk : k ≤ n := by obtain ⟨v, _, a2, a3, _⟩ := h; rw [← a2]; exact a3 L (Nat.le_refl _)
  exact h.trans (Wk.one hk hj hb)
theorem Wk.last {L i j : Nat} {s : Int} (h : Wk n b (L + 1) i j s) : ∃ k r, Wk n b L i k r ∧ k ≤ n ∧ b k j ≠ -1099511627776 ∧ s = r + b k j := by
  obtain ⟨v, a1, a2, a3, a4, a5⟩ := h
  refine ⟨v L, psum b v L, ⟨v, a1, rfl, fun t ht => a3 t (by omega), fun t ht => a4 t (by omega), rfl⟩, a3 L (by omega), ?_, ?_⟩
  · rw [← a2]; exact a4 L (by omega)
  · rw [← a5, psum, a2]
theorem Wk.le {L i j : Nat} {s : Int} (h : Wk n b L i j s) : i ≤ n ∧ j ≤ n := by
  obtain ⟨v, rfl, rfl, a3, _⟩ := h; exact ⟨a3 0 (by omega), a3 L (by omega)⟩
theorem Wk.bd {B : Int} (hB : Bd n B b) : ∀ {L i j : Nat} {s : Int}, Wk n b L i j s → -(L * B) ≤ s ∧ s ≤ L * B
  | 0, i, j, s, h => by obtain ⟨v, _, _, _, _, rfl⟩ := h; simp [psum]
  | L + 1, i, j, s, h => by
    have hj := h.le.2
    obtain ⟨k, r, h1, h2, h3, rfl⟩ := h.last
    have := Wk.bd hB h1
    have h4 := (hB k j h2 hj).resolve_left h3
    have : ((L + 1 : Nat) : Int) * B = L * B + B := by rw [Int.natCast_add, Int.add_mul]; simp
    rw [this]
    omega
/-- Of n + 2 numbers up to n two are the same. -/
theorem pigeon : ∀ (n : Nat) (v : Nat → Nat), (∀ t, t ≤ n + 1 → v t ≤ n) → ∃ a c, a < c ∧ c ≤ n + 1 ∧ v a = v c
  | 0, v, h => ⟨0, 1, by omega, by omega, by have := h 0 (by omega); have := h 1 (by omega); omega⟩
  | n + 1, v, h => by
    by_cases e : ∃ t, t ≤ n + 1 ∧ v t = v (n + 2)
    · obtain ⟨t, h1, h2⟩ := e
      exact ⟨t, n + 2, by omega, by omega, h2⟩
    · have hne : ∀ t, t ≤ n + 1 → v t ≠ v (n + 2) := fun t ht g => e ⟨t, ht, g⟩
      obtain ⟨a, c, h1, h2, h3⟩ := pigeon n (fun t => if v t = n + 1 then v (n + 2) else v t) (fun t ht => by
        have a1 := h t (by omega)
        have a2 := h (n + 2) (by omega)
        have a3 := hne t ht
        by_cases g : v t = n + 1
        · simp only [g, if_true]; omega
        · simp only [g, if_false]; omega)
      refine ⟨a, c, h1, by omega, ?_⟩
      have a1 := hne a (by omega)
      have a2 := hne c (by omega)
      by_cases g1 : v a = n + 1 <;> by_cases g2 : v c = n + 1 <;> simp only [g1, g2, if_true, if_false] at h3 ⊢ <;> omega
/-- A long walk goes round, and goes on without the round. -/
theorem Wk.cut {L i j : Nat} {s : Int} (h : Wk n b L i j s) (hL : n + 1 ≤ L) : ∃ k L1 L2 s1 s2, 0 < L1 ∧ L1 ≤ n + 1 ∧ Wk n b L1 k k s1 ∧ Wk n b L2 i j s2 ∧ L1 + L2 = L ∧ s1 + s2 = s := by
  obtain ⟨v, rfl, rfl, a3, a4, rfl⟩ := h
  obtain ⟨a, c, h1, h2, h3⟩ := pigeon n v (fun t ht => a3 t (by omega))
  have part : ∀ x y, x ≤ y → y ≤ L → Wk n b (y - x) (v x) (v y) (psum b v y - psum b v x) := fun x y hxy hy => by
    refine ⟨fun t => v (x + t), rfl, ?_, fun t ht => a3 _ (by omega), fun t ht => a4 (x + t) (by omega), ?_⟩
    · simp only []; congr 1; omega
    · rw [psum_shift, show x + (y - x) = y by omega]
  have p1 := part a c (by omega) (by omega)
  have p2 := part 0 a (by omega) (by omega)
  have p3 := part c L (by omega) (by omega)
  rw [h3] at p1 p2
  have p4 := p2.trans p3
  refine ⟨v c, c - a, _, _, _, by omega, by omega, p1, p4, by omega, ?_⟩
  simp only [psum]; omega
/-- Where there is a negative round, there is a short one. -/
theorem neg_short : ∀ (L : Nat) {i : Nat} {s : Int}, Wk n b L i i s → s < 0 → ∃ k K r, 0 < K ∧ K ≤ n + 1 ∧ Wk n b K k k r ∧ r < 0 := by
  intro L
  induction L using Nat.strongRecOn with
  | _ L ih =>
    intro i s h hs
    by_cases e : n + 1 ≤ L
    · obtain ⟨k, L1, L2, s1, s2, g1, g2, g3, g4, g5, g6⟩ := h.cut e
      by_cases e1 : s1 < 0
      · exact ⟨k, L1, s1, g1, g2, g3, e1⟩
      · exact ih L2 (by omega) g4 (by omega)
    · refine ⟨i, L, s, ?_, by omega, h, hs⟩
      rcases Nat.eq_zero_or_pos L with rfl | h0
      · obtain ⟨v, _, _, _, _, rfl⟩ := h; simp [psum] at hs
      · exact h0
/-- Without negative rounds the short walks are enough. -/
theorem Wk.short (hn : ∀ L i s, Wk n b L i i s → 0 ≤ s) : ∀ (L : Nat) {i j : Nat} {s : Int}, Wk n b L i j s → ∃ K r, K ≤ n ∧ Wk n b K i j r ∧ r ≤ s := by
  intro L
  induction L using Nat.strongRecOn with
  | _ L ih =>
    intro i j s h
    by_cases e : n + 1 ≤ L
    · obtain ⟨k, L1, L2, s1, s2, g1, g2, g3, g4, g5, g6⟩ := h.cut e
      obtain ⟨K, r, f1, f2, f3⟩ := ih L2 (by omega) g4
      have := hn _ _ _ g3
      exact ⟨K, r, f1, f2, by omega⟩
    · exact ⟨L, s, by omega, h, Int.le_refl _⟩
end

/-! Rounds of the least sums. -/
/-- The least of an element and the sums by way of the indices below k. -/
def rl (p b : Mx) (i j : Nat) : Nat → Int
  | 0 => p i j
  | k + 1 => mn (rl p b i j k) (sm (p i k) (b k j))
def pr (n : Nat) (b : Mx) : Nat → Mx
  | 0 => b
  | r + 1 => fun i j => rl (pr n b r) b i j (n + 1)
theorem pr_succ (n : Nat) (b : Mx) (r i j : Nat) : pr n b (r + 1) i j = rl (pr n b r) b i j (n + 1) := rfl
theorem fw_succ (b : Mx) (k i j : Nat) : fw b (k + 1) i j = mn (fw b k i j) (sm (fw b k i k) (fw b k k j)) := rfl
theorem mn_le {a b : Int} (h : a ≠ -1099511627776) : mn a b ≠ -1099511627776 ∧ mn a b ≤ a := by unfold mn; split <;> omega
theorem mn_le' {a b : Int} (h : b ≠ -1099511627776) : mn a b ≠ -1099511627776 ∧ mn a b ≤ b := by unfold mn; split <;> omega
theorem mn_or (a b : Int) : mn a b = a ∨ mn a b = b := by unfold mn; split <;> simp
theorem rl_le {p b : Mx} {i j : Nat} : ∀ {k : Nat}, p i j ≠ -1099511627776 → rl p b i j k ≠ -1099511627776 ∧ rl p b i j k ≤ p i j
  | 0, h => ⟨h, Int.le_refl _⟩
  | k + 1, h => by
    obtain ⟨h1, h2⟩ := rl_le (b := b) (k := k) h
    obtain ⟨h3, h4⟩ := mn_le (b := sm (p i k) (b k j)) h1
    exact ⟨h3, by rw [rl]; omega⟩
theorem rl_at {p b : Mx} {i j u : Nat} : ∀ {k : Nat}, u < k → sm (p i u) (b u j) ≠ -1099511627776 → rl p b i j k ≠ -1099511627776 ∧ rl p b i j k ≤ sm (p i u) (b u j)
  | k + 1, hu, h => by
    by_cases e : u = k
    · subst e; exact mn_le' h
    · obtain ⟨h1, h2⟩ := rl_at (k := k) (show u < k by omega) h
      obtain ⟨h3, h4⟩ := mn_le (b := sm (p i k) (b k j)) h1
      exact ⟨h3, by rw [rl]; omega⟩
theorem rl_or {p b : Mx} {i j : Nat} : ∀ k, rl p b i j k = p i j ∨ ∃ u, u < k ∧ rl p b i j k = sm (p i u) (b u j)
  | 0 => .inl rfl
  | k + 1 => by
    rw [rl]
    rcases mn_or (rl p b i j k) (sm (p i k) (b k j)) with h | h
    · rw [h]
      rcases rl_or (p := p) (b := b) (i := i) (j := j) k with h | ⟨u, h1, h2⟩
      · exact .inl h
      · exact .inr ⟨u, by omega, h2⟩
    · exact .inr ⟨k, by omega, h⟩
theorem sm_ne {a b : Int} (h : sm a b ≠ -1099511627776) : a ≠ -1099511627776 ∧ b ≠ -1099511627776 ∧ sm a b = a + b := by
  unfold sm at h ⊢
  split at h
  · exact absurd rfl h
  · rename_i h1
    rw [if_neg h1]
    exact ⟨fun g => h1 (.inl g), fun g => h1 (.inr g), rfl⟩
theorem sm_add {a b : Int} (h1 : a ≠ -1099511627776) (h2 : b ≠ -1099511627776) : sm a b = a + b := by
  unfold sm; rw [if_neg (fun h => h.elim h1 h2)]
/-- What a right matrix is. -/
structure Rt (n : Nat) (b : Mx) : Prop where
  n12 : n ≤ 12
  bd : Bd n 64000000 b
  diag : ∀ i, i ≤ n → b i i = 0
section
variable {n : Nat} {b : Mx}
theorem pr_walk : ∀ {r i j : Nat}, i ≤ n → j ≤ n → pr n b r i j ≠ -1099511627776 → ∃ L, 1 ≤ L ∧ L ≤ r + 1 ∧ Wk n b L i j (pr n b r i j)
  | 0, i, j, hi, hj, h => ⟨1, by omega, by omega, Wk.one hi hj h⟩
  | r + 1, i, j, hi, hj, h => by
    rw [pr_succ] at h ⊢
    rcases rl_or (p := pr n b r) (b := b) (i := i) (j := j) (n + 1) with e | ⟨u, hu, e⟩
    · rw [e] at h ⊢
      obtain ⟨L, h1, h2, h3⟩ := pr_walk hi hj h
      exact ⟨L, h1, by omega, h3⟩
    · rw [e] at h ⊢
      obtain ⟨g1, g2, g3⟩ := sm_ne h
      obtain ⟨L, h1, h2, h3⟩ := pr_walk (r := r) hi (show u ≤ n by omega) g1
      rw [g3]
      exact ⟨L + 1, by omega, by omega, h3.snoc hj g2⟩
variable (hR : Rt n b)
include hR
theorem pr_bd {r i j : Nat} (hi : i ≤ n) (hj : j ≤ n) (hr : r ≤ 14) (h : pr n b r i j ≠ -1099511627776) : -960000000 ≤ pr n b r i j ∧ pr n b r i j ≤ 960000000 := by
  obtain ⟨L, h1, h2, h3⟩ := pr_walk hi hj h
  have := h3.bd hR.bd
  omega
theorem pr_le : ∀ {r L i j : Nat} {s : Int}, r ≤ 14 → L ≤ r + 1 → Wk n b L i j s → pr n b r i j ≠ -1099511627776 ∧ pr n b r i j ≤ s
  | 0, 0, i, j, s, _, _, h => by
    have hi := h.le.1
    obtain ⟨v, rfl, h2, _, _, rfl⟩ := h
    subst h2
    rw [pr, hR.diag _ hi]
    exact ⟨by decide, Int.le_refl _⟩
  | 0, 1, i, j, s, _, _, h => by
    obtain ⟨k, q, h1, h2, h3, rfl⟩ := h.last
    obtain ⟨v, rfl, h2, _, _, rfl⟩ := h1
    subst h2
    simp only [pr, psum]
    exact ⟨h3, by omega⟩
  | r + 1, L, i, j, s, hr, hL, h => by
    by_cases e : L ≤ r + 1
    · obtain ⟨h1, h2⟩ := pr_le (r := r) (by omega) e h
      obtain ⟨h3, h4⟩ := rl_le (b := b) (k := n + 1) h1
      exact ⟨h3, by rw [pr_succ]; omega⟩
    · obtain rfl : L = r + 2 := by omega
      have hj := h.le.2
      obtain ⟨k, q, h1, h2, h3, rfl⟩ := h.last
      have hi := h1.le.1
      obtain ⟨h4, h5⟩ := pr_le (r := r) (by omega) (by omega) h1
      have h6 := pr_bd hR hi h2 (by omega) h4
      have h7 := (hR.bd k j h2 hj).resolve_left h3
      have h8 := sm_add h4 h3
      obtain ⟨h9, h10⟩ := rl_at (p := pr n b r) (b := b) (i := i) (j := j) (k := n + 1) (u := k) (by omega) (by rw [h8]; omega)
      exact ⟨h9, by rw [pr_succ]; omega⟩

/-! Closing in place. -/
omit hR in
theorem fw_walk : ∀ {k i j : Nat}, k ≤ n + 1 → i ≤ n → j ≤ n → fw b k i j ≠ -1099511627776 → ∃ L, L ≤ 2 ^ k ∧ Wk n b L i j (fw b k i j)
  | 0, i, j, _, hi, hj, h => ⟨1, by omega, Wk.one hi hj h⟩
  | k + 1, i, j, hk, hi, hj, h => by
    rw [fw_succ] at h ⊢
    have h2 : 2 ^ (k + 1) = 2 ^ k + 2 ^ k := by omega
    rcases mn_or (fw b k i j) (sm (fw b k i k) (fw b k k j)) with e | e
    · rw [e] at h ⊢
      obtain ⟨L, h1, h3⟩ := fw_walk (by omega) hi hj h
      exact ⟨L, by omega, h3⟩
    · rw [e] at h ⊢
      obtain ⟨g1, g2, g3⟩ := sm_ne h
      obtain ⟨L, h1, h3⟩ := fw_walk (k := k) (by omega) hi (show k ≤ n by omega) g1
      obtain ⟨K, h4, h5⟩ := fw_walk (k := k) (by omega) (show k ≤ n by omega) hj g2
      rw [g3]
      exact ⟨L + K, by omega, h3.trans h5⟩
theorem fw_bd {k i j : Nat} (hk : k ≤ n + 1) (hi : i ≤ n) (hj : j ≤ n) (h : fw b k i j ≠ -1099511627776) : -524288000000 ≤ fw b k i j ∧ fw b k i j ≤ 524288000000 := by
  obtain ⟨L, h1, h2⟩ := fw_walk hk hi hj h
  have := h2.bd hR.bd
  have h3 : 2 ^ k ≤ 2 ^ 13 := Nat.pow_le_pow_right (by omega) (by have := hR.n12; omega)
  omega
/-- What stands behind k rounds without a contradiction. -/
structure St (n : Nat) (K : Nat) (m : Mx) : Prop where
  bd : Bd n 524288000000 m
  diag : ∀ i, i ≤ n → m i i = 0
  tri : ∀ k i j, k < K → i ≤ n → j ≤ n → m i k ≠ -1099511627776 → m k j ≠ -1099511627776 → m i j ≠ -1099511627776 ∧ m i j ≤ m i k + m k j
theorem fw_st : ∀ {k : Nat}, k ≤ n + 1 → (∀ q, q < k → bad n (fw b (q + 1)) = false) → St n k (fw b k)
  | 0, _, _ => ⟨fun i j hi hj => (hR.bd i j hi hj).imp id fun h => by rw [fw]; omega, hR.diag, fun k i j hk => by omega⟩
  | K + 1, hK, hb => by
    have ih := fw_st (k := K) (by omega) (fun q hq => hb q (by omega))
    have hB : Bd n 524288000000 (fw b (K + 1)) := fun i j hi hj => by
      by_cases e : fw b (K + 1) i j = -1099511627776
      · exact .inl e
      · exact .inr (fw_bd hR hK hi hj e)
    have hkn : K ≤ n := by omega
    have hbK := hb K (by omega)
    rw [fw] at hB hbK ⊢
    generalize fw b K = m at *
    have d0 := ih.diag
    refine ⟨hB, fun i hi => ?_, fun k i j hk hi hj h1 h2 => ?_⟩
    · have h1 := bad_no hbK hi
      have h2 := d0 i hi
      have h3 := mn_le (a := m i i) (b := sm (m i K) (m K i)) (by rw [h2]; decide)
      simp only [stp] at h1 ⊢
      omega
    · have hkn' : k ≤ n := by omega
      have t1 := fun p q h h' => ih.tri k p q h h'
      have b1 := ih.bd i k hi hkn'
      have b2 := ih.bd k j hkn' hj
      have b3 := ih.bd i K hi hkn
      have b4 := ih.bd K k hkn hkn'
      have b5 := ih.bd k K hkn' hkn
      have b6 := ih.bd K j hkn hj
      have b7 := ih.bd i j hi hj
      have dK := d0 K hkn
      by_cases ek : k = K
      · subst ek
        simp only [stp, dK] at h1 h2 ⊢
        have e1 : mn (m i k) (sm (m i k) 0) = m i k := by unfold mn sm; split <;> split at * <;> omega
        have e2 : mn (m k j) (sm 0 (m k j)) = m k j := by unfold mn sm; split <;> split at * <;> omega
        rw [e1] at h1 ⊢
        rw [e2] at h2 ⊢
        have h3 := sm_add h1 h2
        obtain ⟨g1, g2⟩ := mn_le' (a := m i j) (b := sm (m i k) (m k j)) (by rw [h3]; omega)
        exact ⟨g1, by omega⟩
      · have T1 := ih.tri k i j (by omega) hi hj
        have T2 := ih.tri k i K (by omega) hi hkn
        have T3 := ih.tri k K j (by omega) hkn hj
        have T4 := ih.tri k K K (by omega) hkn hkn
        rw [dK] at T4
        have key : (m i j ≠ -1099511627776 ∧ m i j ≤ stp K m i k + stp K m k j) ∨ (m i K ≠ -1099511627776 ∧ m K j ≠ -1099511627776 ∧ m i K + m K j ≤ stp K m i k + stp K m k j) := by
          simp only [stp] at h1 h2 ⊢
          rcases mn_or (m i k) (sm (m i K) (m K k)) with e1 | e1 <;> rcases mn_or (m k j) (sm (m k K) (m K j)) with e2 | e2 <;> rw [e1] at h1 ⊢ <;> rw [e2] at h2 ⊢
          · exact .inl (T1 h1 h2)
          · obtain ⟨f1, f2, f3⟩ := sm_ne h2
            have := T2 h1 f1
            exact .inr ⟨this.1, f2, by omega⟩
          · obtain ⟨f1, f2, f3⟩ := sm_ne h1
            have := T3 f2 h2
            exact .inr ⟨f1, this.1, by omega⟩
          · obtain ⟨f1, f2, f3⟩ := sm_ne h1
            obtain ⟨f4, f5, f6⟩ := sm_ne h2
            have := T4 f2 f4
            exact .inr ⟨f1, f5, by omega⟩
        rcases key with ⟨g1, g2⟩ | ⟨g1, g2, g3⟩
        · obtain ⟨h3, h4⟩ := mn_le (a := m i j) (b := sm (m i K) (m K j)) g1
          refine ⟨h3, ?_⟩
          have : stp K m i j ≤ m i j := h4
          omega
        · have h3 := sm_add g1 g2
          obtain ⟨h4, h5⟩ := mn_le' (a := m i j) (b := sm (m i K) (m K j)) (by rw [h3]; omega)
          refine ⟨h4, ?_⟩
          have : stp K m i j ≤ sm (m i K) (m K j) := h5
          omega
theorem clo_st (h : ok n b = true) : St n (n + 1) (clo n b) := fw_st hR (Nat.le_refl _) (fun q hq => ok_at h (by omega))
omit hR in
theorem fw_le : ∀ {k i j : Nat}, b i j ≠ -1099511627776 → fw b k i j ≠ -1099511627776 ∧ fw b k i j ≤ b i j
  | 0, i, j, h => ⟨h, Int.le_refl _⟩
  | k + 1, i, j, h => by
    obtain ⟨h1, h2⟩ := fw_le (k := k) h
    obtain ⟨h3, h4⟩ := mn_le (b := sm (fw b k i k) (fw b k k j)) h1
    exact ⟨h3, by rw [fw_succ]; omega⟩
/-- Closed bounds are at most the sums of walks. -/
theorem clo_le (h : ok n b = true) : ∀ {L i j : Nat} {s : Int}, Wk n b L i j s → clo n b i j ≠ -1099511627776 ∧ clo n b i j ≤ s
  | 0, i, j, s, g => by
    have hi := g.le.1
    obtain ⟨v, rfl, h2, _, _, rfl⟩ := g
    subst h2
    rw [(clo_st hR h).diag _ hi]
    exact ⟨by decide, Int.le_refl _⟩
  | L + 1, i, j, s, g => by
    have hj := g.le.2
    obtain ⟨k, r, h1, h2, h3, rfl⟩ := g.last
    obtain ⟨h4, h5⟩ := clo_le h h1
    obtain ⟨h6, h7⟩ := fw_le (k := n + 1) (i := k) (j := j) h3
    obtain ⟨h8, h9⟩ := (clo_st hR h).tri k i j (by omega) h1.le.1 hj h4 h6
    exact ⟨h8, by unfold clo at *; omega⟩
theorem no_neg (h : ok n b = true) : ∀ L i s, Wk n b L i i s → 0 ≤ s := fun L i s g => by
  have := (clo_le hR h g).2
  rw [(clo_st hR h).diag i g.le.1] at this
  exact this
theorem clo_walk (h : ok n b = true) {i j : Nat} (hi : i ≤ n) (hj : j ≤ n) (g : clo n b i j ≠ -1099511627776) : ∃ L, L ≤ n ∧ Wk n b L i j (clo n b i j) := by
  obtain ⟨L, h1, h2⟩ := fw_walk (Nat.le_refl _) hi hj g
  obtain ⟨K, r, h3, h4, h5⟩ := Wk.short (no_neg hR h) L h2
  have := (clo_le hR h h4).2
  have e : r = clo n b i j := by unfold clo at *; omega
  rw [e] at h4
  exact ⟨K, h3, h4⟩
/-- Both ways of closing agree. -/
theorem clo_pr (h : ok n b = true) {i j : Nat} (hi : i ≤ n) (hj : j ≤ n) : pr n b (n + 1) i j = clo n b i j := by
  have hn := hR.n12
  by_cases e : clo n b i j = -1099511627776
  · by_cases e2 : pr n b (n + 1) i j = -1099511627776
    · rw [e, e2]
    · obtain ⟨L, _, _, h3⟩ := pr_walk hi hj e2
      exact absurd e (clo_le hR h h3).1
  · obtain ⟨L, h1, h2⟩ := clo_walk hR h hi hj e
    obtain ⟨h3, h4⟩ := pr_le hR (r := n + 1) (by omega) (by omega) h2
    obtain ⟨K, _, _, h5⟩ := pr_walk hi hj h3
    have := (clo_le hR h h5).2
    omega
theorem fw_diag : ∀ {k i : Nat}, i ≤ n → fw b k i i ≠ -1099511627776 := fun hi => (fw_le (by rw [hR.diag _ hi]; decide)).1
theorem ok_pr : bad n (pr n b (n + 1)) = !ok n b := by
  have hn := hR.n12
  cases h : ok n b
  · obtain ⟨k, h1, h2⟩ := ok_no h
    obtain ⟨i, h3, h4⟩ := bad_iff.1 h2
    obtain ⟨L, _, h5⟩ := fw_walk (show k + 1 ≤ n + 1 by omega) h3 h3 (fw_diag hR h3)
    obtain ⟨v, K, r, h6, h7, h8, h9⟩ := neg_short L h5 h4
    have := (pr_le hR (r := n + 1) (by omega) (by omega) h8).2
    exact bad_iff.2 ⟨v, h8.le.1, by omega⟩
  · cases e : bad n (pr n b (n + 1))
    · rfl
    · obtain ⟨i, h1, h2⟩ := bad_iff.1 e
      rw [clo_pr hR h h1 h1, (clo_st hR h).diag i h1] at h2
      omega
end
end Bn

