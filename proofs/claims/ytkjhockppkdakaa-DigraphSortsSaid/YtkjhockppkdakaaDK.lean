/- Plain facts: distances the other way round, paths, cycles, the condensed graph, the reversed graph. -/
import Derived.Test.YtkjhockppkdakaaDG
namespace Dg
theorem ball_cons {E : List (Nat × Nat)} {a b : Nat} (he : (a, b) ∈ E) : ∀ {k v : Nat}, ball E b k v = true → ball E a (k + 1) v = true
  | 0, v, h => by obtain rfl := ball_zero.1 h; exact ball_succ.2 (.inr ⟨a, he, ball_zero.2 rfl⟩)
  | k + 1, v, h => by
    rcases ball_succ.1 h with h | ⟨u, hu, h⟩
    · exact ball_mono (Nat.le_succ _) (ball_cons he h)
    · exact ball_succ.2 (.inr ⟨u, hu, ball_cons he h⟩)
theorem ball_rv_of {E : List (Nat × Nat)} {s : Nat} : ∀ {k v : Nat}, ball E s k v = true → ball (rv E) v k s = true
  | 0, v, h => by obtain rfl := ball_zero.1 h; exact ball_zero.2 rfl
  | k + 1, v, h => by
    rcases ball_succ.1 h with h | ⟨u, hu, h⟩
    · exact ball_mono (Nat.le_succ _) (ball_rv_of h)
    · exact ball_cons (rv_mem.2 hu) (ball_rv_of h)
theorem ball_rv {E : List (Nat × Nat)} {s k v : Nat} : ball (rv E) v k s = ball E s k v := by
  rw [Bool.eq_iff_iff]
  exact ⟨fun h => by have := ball_rv_of h; rwa [rv_rv] at this, ball_rv_of⟩
/-- The distance to a vertex is that of the reversed graph from it. -/
theorem dist_dt (n : Nat) (es : List (Nat × Nat)) (w t : Nat) : dist n es w t = dt n es t w := by
  unfold dt dist; simp only [ball_rv]
section
variable {n : Nat} {es : List (Nat × Nat)} {t : Nat} (hE : Ok n es) (ht : t < n)
include hE ht
omit hE ht in
theorem pth_at {v k : Nat} {i : Nat} (hi : i ≤ k) : (pth n es t v k).getD i 0 = it n es t v i := by
  unfold pth
  rw [List.getD_eq_getElem?_getD, List.getElem?_map, List.getElem?_range (by omega)]; rfl
theorem it_edge {v k : Nat} (hv : v < n) (h : dt n es t v = k) {i : Nat} (hi : i < k) : (it n es t v i, it n es t v (i + 1)) ∈ es := by
  obtain ⟨h1, h2⟩ := it_ok hE ht hv h i (by omega)
  exact (nx_ok hE ht (v := it n es t v i) (k := k - (i + 1)) (by omega)).1
theorem it_last {v k : Nat} (hv : v < n) (h : dt n es t v = k) : it n es t v k = t := by
  obtain ⟨h1, h2⟩ := it_ok hE ht hv h k (Nat.le_refl _)
  rw [Nat.sub_self] at h2
  exact (dist_zero (rv_ok hE) ht).1 h2
end
/-- What a cycle is. -/
theorem cyc_spec {n : Nat} {es : List (Nat × Nat)} (hE : Ok n es) {x : Nat} (hx : x < n) (h : onC n es x = true) :
    ∃ k : Nat, k < n ∧ (cyc n es x).length = k + 1 ∧ (∀ i, i ≤ k → (cyc n es x).getD i 0 < n) ∧ (∀ i, i ≤ k → ((cyc n es x).getD i 0, (cyc n es x).getD ((i + 1) % (k + 1)) 0) ∈ es) ∧ ∀ i j, i < j → j ≤ k → (cyc n es x).getD i 0 ≠ (cyc n es x).getD j 0 := by
  obtain ⟨h1, h2, -, h4, -⟩ := near_ok (t := x) hE x h
  obtain ⟨k, hk⟩ := Int.eq_ofNat_of_zero_le h4
  have hkn : k < n := by
    have := dist_lt (n := n) (E := rv es) (s := x) hx (v := nx n es x x)
    unfold dt at hk; omega
  have hI := it_ok hE hx h2 hk
  have hS := fun i => it_edge hE hx h2 hk (i := i)
  have hL := it_last hE hx h2 hk
  have hdef : cyc n es x = x :: (pth n es x (nx n es x x) k).take k := by
    unfold cyc; rw [hk, Int.toNat_natCast]
  have hlen : (cyc n es x).length = k + 1 := by rw [hdef]; simp [pth_len]
  have h0 : (cyc n es x).getD 0 0 = x := by rw [hdef]; rfl
  have hat : ∀ i, i < k → (cyc n es x).getD (i + 1) 0 = it n es x (nx n es x x) i := fun i hi => by
    rw [hdef, List.getD_cons_succ, List.getD_eq_getElem?_getD, List.getElem?_take_of_lt hi, ← List.getD_eq_getElem?_getD]
    exact pth_at (Nat.le_of_lt hi)
  refine ⟨k, hkn, hlen, fun i hi => ?_, fun i hi => ?_, fun i j hij hj => ?_⟩
  · cases i with
    | zero => rw [h0]; exact hx
    | succ i => rw [hat i hi]; exact (hI i (by omega)).1
  · by_cases e : i = k
    · subst e
      rw [Nat.mod_self, h0]
      cases i with
      | zero =>
        rw [h0]
        have e1 : nx n es x x = x := hL
        rw [e1] at h1; exact h1
      | succ i =>
        rw [hat i (by omega)]
        have := hS i (by omega)
        rwa [hL] at this
    · rw [Nat.mod_eq_of_lt (by omega), hat i (by omega)]
      cases i with
      | zero => rw [h0]; exact h1
      | succ i => rw [hat i (by omega)]; exact hS i (by omega)
  · obtain ⟨j, rfl⟩ : ∃ m, j = m + 1 := ⟨j - 1, by omega⟩
    rw [hat j (by omega)]
    have hj2 := (hI j (by omega)).2
    cases i with
    | zero =>
      rw [h0]
      intro e
      rw [← e, (dist_zero (rv_ok hE) hx (v := x)).2 rfl |> fun q => (show dt n es x x = 0 from q)] at hj2
      omega
    | succ i =>
      rw [hat i (by omega)]
      intro e
      have hi2 := (hI i (by omega)).2
      rw [e] at hi2
      omega
/-- The components of the reversed graph. -/
theorem mu_rv (n : Nat) (es : List (Nat × Nat)) : mu n (rv es) = mu n es := by
  funext u v; unfold mu; rw [rv_rv, Bool.and_comm]
theorem pL_rv (n : Nat) (es : List (Nat × Nat)) (j : Nat) : pL n (rv es) j = pL n es j := by
  have h1 : isL n (rv es) = isL n es := by unfold isL; rw [mu_rv]
  have h2 : ldr n (rv es) = ldr n es := by unfold ldr; rw [mu_rv]
  unfold pL lds mem; rw [h1, h2]
/-- Condensed edges. -/
theorem cE_mem {n : Nat} {es : List (Nat × Nat)} {x y : Nat} : (x, y) ∈ cE n es ↔ x ≠ y ∧ ∃ a b, (a, b) ∈ es ∧ num n es a = x ∧ num n es b = y := by
  unfold cE
  rw [List.mem_filter, List.mem_map]
  constructor
  · rintro ⟨⟨⟨a, b⟩, h, e⟩, hne⟩
    simp only [Prod.mk.injEq] at e
    exact ⟨by simpa using hne, a, b, h, e.1, e.2⟩
  · rintro ⟨hne, a, b, h, rfl, rfl⟩
    exact ⟨⟨(a, b), h, rfl⟩, by simpa using hne⟩
section
variable {n : Nat} {es : List (Nat × Nat)} (hE : Ok n es)
include hE
theorem num_ldr {a b : Nat} (ha : a < n) (hb : b < n) (h : num n es a = num n es b) : ldr n es a = ldr n es b := by
  have key : ∀ a b, a < n → b < n → ldr n es a < ldr n es b → num n es a = num n es b → False := fun a b ha hb hl h => by
    have h1 := cnt_mono (isL n es) (show ldr n es a + 1 ≤ ldr n es b from hl)
    rw [cnt_succ, ldr_isL hE ha] at h1
    simp only [if_true] at h1
    unfold num at h; omega
  rcases Nat.lt_trichotomy (ldr n es a) (ldr n es b) with e | e | e
  · exact (key a b ha hb e h).elim
  · exact e
  · exact (key b a hb ha e h.symm).elim
theorem num_rch {a b : Nat} (ha : a < n) (hb : b < n) : num n es a = num n es b ↔ rch es a b ∧ rch es b a := by
  constructor
  · intro h
    have h1 := num_ldr hE ha hb h
    obtain ⟨-, h2, -⟩ := ldr_spec hE ha
    obtain ⟨-, h3, -⟩ := ldr_spec hE hb
    have hl := ldr_lt hE ha
    rw [← h1] at h3
    obtain ⟨p1, p2⟩ := (mu_iff hE hl).1 h2
    obtain ⟨q1, q2⟩ := (mu_iff hE hl).1 h3
    exact ⟨rch_trans p2 q1, rch_trans q2 p1⟩
  · intro h
    have hm : mu n es a b = true := (mu_iff hE ha).2 h
    obtain ⟨-, h2, -⟩ := ldr_spec hE ha
    have h3 := mu_trans hE (ldr_lt hE ha) ha h2 hm
    have h4 := (ldr_eq hE (ldr_lt hE ha) hb (ldr_isL hE ha)).1 h3
    unfold num; rw [h4]
omit hE in
theorem cE_rch {C : List (Nat × Nat)} (hC : ∀ p, p ∈ C ↔ p ∈ cE n es) {a b : Nat} : rch es a b → rch C (num n es a) (num n es b) := by
  rintro ⟨k, hk⟩
  induction k generalizing b with
  | zero => rw [ball_zero.1 hk]; exact rch_refl _ _
  | succ k ih =>
    rcases ball_succ.1 hk with hk | ⟨u, he, hk⟩
    · exact ih hk
    · have h1 := ih hk
      by_cases e : num n es u = num n es b
      · rw [← e]; exact h1
      · exact rch_snoc h1 ((hC _).2 (cE_mem.2 ⟨e, u, b, he, rfl, rfl⟩))
theorem rch_cE {C : List (Nat × Nat)} (hC : ∀ p, p ∈ C ↔ p ∈ cE n es) {a b : Nat} (ha : a < n) (hb : b < n) : rch C (num n es a) (num n es b) → rch es a b := by
  rintro ⟨k, hk⟩
  have key : ∀ k y, ball C (num n es a) k y = true → ∀ b, b < n → num n es b = y → rch es a b := by
    intro k
    induction k with
    | zero =>
      intro y hk b hb hy
      exact ((num_rch hE ha hb).1 (by rw [hy, ball_zero.1 hk])).1
    | succ k ih =>
      intro y hk b hb hy
      rcases ball_succ.1 hk with hk | ⟨z, he, hk⟩
      · exact ih y hk b hb hy
      · obtain ⟨-, u, v, huv, hz, hv⟩ := cE_mem.1 ((hC _).1 he)
        have h1 := ih z hk u (hE _ huv).1 hz
        exact rch_trans (rch_snoc h1 huv) ((num_rch hE (hE _ huv).2 hb).1 (by rw [hv, hy])).1
  exact key k _ hk b hb rfl
theorem cE_ring {C : List (Nat × Nat)} (hC : ∀ p, p ∈ C ↔ p ∈ cE n es) {x y : Nat} (he : (x, y) ∈ C) (h : rch C y x) : False := by
  obtain ⟨hne, u, v, huv, rfl, rfl⟩ := cE_mem.1 ((hC _).1 he)
  have h1 := rch_cE hE hC (hE _ huv).2 (hE _ huv).1 h
  exact hne ((num_rch hE (hE _ huv).1 (hE _ huv).2).2 ⟨rch_snoc (rch_refl _ _) huv, h1⟩)
theorem cE_ok {C : List (Nat × Nat)} (hC : ∀ p, p ∈ C ↔ p ∈ cE n es) : Ok (cnt (isL n es) n) C := fun p hp => by
  obtain ⟨x, y⟩ := p
  obtain ⟨-, u, v, huv, rfl, rfl⟩ := cE_mem.1 ((hC _).1 hp)
  exact ⟨(num_lt hE (hE _ huv).1).1, (num_lt hE (hE _ huv).2).1⟩
end
theorem sum_no (x : Nat) (g : Nat → Nat) : ∀ ls : List Nat, x ∉ ls → (ls.map fun l => g l + if x == l then 1 else 0).sum = (ls.map g).sum
  | [], _ => rfl
  | a :: ls, h => by
    have h1 : x ≠ a := fun e => h (by rw [e]; exact List.mem_cons_self ..)
    have h2 := sum_no x g ls fun hm => h (List.mem_cons_of_mem _ hm)
    simp only [List.map_cons, List.sum_cons, h2]
    simp [h1]
theorem sum_one (x : Nat) (g : Nat → Nat) : ∀ ls : List Nat, ls.Nodup → x ∈ ls → (ls.map fun l => g l + if x == l then 1 else 0).sum = (ls.map g).sum + 1
  | [], _, h => by cases h
  | a :: ls, hn, h => by
    obtain ⟨hn1, hn2⟩ := List.nodup_cons.1 hn
    by_cases e : x = a
    · subst e
      simp only [List.map_cons, List.sum_cons, sum_no x g ls hn1]
      simp; omega
    · have h2 := sum_one x g ls hn2 ((List.mem_cons.1 h).resolve_left e)
      simp only [List.map_cons, List.sum_cons, h2]
      simp [e]; omega
theorem sum_all (f : Nat → Nat) (ls : List Nat) (hn : ls.Nodup) : ∀ n, (∀ w, w < n → f w ∈ ls) → (ls.map fun l => cnt (fun w => f w == l) n).sum = n
  | 0, _ => by
    have : (fun l => cnt (fun w => f w == l) 0) = fun _ => 0 := by funext l; simp [cnt]
    rw [this]
    clear hn
    have z : ∀ ls : List Nat, (ls.map fun _ => 0).sum = 0 := fun ls => by
      induction ls with
      | nil => rfl
      | cons a ls ih => simp only [List.map_cons, List.sum_cons, Nat.zero_add]; exact ih
    exact z ls
  | n + 1, h => by
    have h1 := sum_all f ls hn n fun w hw => h w (by omega)
    have h2 := sum_one (f n) (fun l => cnt (fun w => f w == l) n) ls hn (h n (by omega))
    rw [h1] at h2
    refine Eq.trans ?_ h2
    congr 1
    refine List.map_congr_left fun l _ => ?_
    rw [cnt_succ]
/-- The components have all vertices. -/
theorem pL_sum {n : Nat} {es : List (Nat × Nat)} (hE : Ok n es) : ((pL n es n).map List.length).sum = n := by
  have h1 := sum_all (ldr n es) (lds n es n) (List.Pairwise.sublist List.filter_sublist List.nodup_range) n fun w hw => List.mem_filter.2 ⟨List.mem_range.2 (ldr_lt hE hw), ldr_isL hE hw⟩
  unfold pL
  rw [List.map_map]
  refine Eq.trans ?_ h1
  congr 1
  refine List.map_congr_left fun l _ => ?_
  simp only [Function.comp, mem, ci_len]
  rfl
/-- Compact keeps the elements. -/
theorem compact_mem {l : List (Nat × Nat)} {p : Nat × Nat} : p ∈ Go.Lib.compact l ↔ p ∈ l := by
  unfold Go.Lib.compact Go.Lib.compactUpTo
  rw [List.mem_map]
  constructor
  · rintro ⟨j, hj, rfl⟩
    have := List.mem_range.1 (List.mem_filter.1 hj).1
    simp [getElem!_pos, this]
  · intro h
    obtain ⟨i, hi, rfl⟩ := List.getElem_of_mem h
    have key : ∀ i (hi : i < l.length), ∃ j, j ∈ (List.range l.length).filter (Go.Lib.keeps l.toArray) ∧ l.toArray[j]! = l[i] := by
      intro i
      induction i with
      | zero => intro hi; exact ⟨0, List.mem_filter.2 ⟨List.mem_range.2 hi, by simp [Go.Lib.keeps]⟩, by simp [getElem!_pos, hi]⟩
      | succ i ih =>
        intro hi
        by_cases e : l.toArray[i + 1]! = l.toArray[i]!
        · obtain ⟨j, h1, h2⟩ := ih (by omega)
          refine ⟨j, h1, ?_⟩
          have e1 : l.toArray[i + 1]! = l[i + 1] := by simp [getElem!_pos, hi]
          have e2 : l.toArray[i]! = l[i] := by simp [getElem!_pos, (show i < l.length by omega)]
          rw [h2, ← e1, ← e2, e]
        · exact ⟨i + 1, List.mem_filter.2 ⟨List.mem_range.2 hi, by unfold Go.Lib.keeps; simp only [decide_eq_true_eq]; right; simpa using e⟩, by simp [getElem!_pos, hi]⟩
    exact key i hi
end Dg
