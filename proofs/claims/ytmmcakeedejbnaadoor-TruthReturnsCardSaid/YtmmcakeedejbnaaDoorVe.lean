/- Orders of variables, and renaming: plain facts, of no program. -/
import Derived.Test.YtmmcakeedejbnaaDoorVp
namespace Tt
/-- The error of an order, from some element on. -/
def ordFrom (n : Int) : List Int → List Int → Int
  | _, [] => 0
  | seen, x :: r => if 0 ≤ x ∧ x < n then (if x ∈ seen then 7 else ordFrom n (seen ++ [x]) r) else 2
def ordE (n : Int) (os : List Int) : Int := if (os.length : Int) = n then ordFrom n [] os else 8
theorem ordFrom_zero (n : Int) : ∀ (r seen : List Int), ordFrom n seen r = 0 → (∀ x ∈ r, 0 ≤ x ∧ x < n ∧ x ∉ seen) ∧ r.Nodup
  | [], _, _ => ⟨fun _ h => (by cases h), List.nodup_nil⟩
  | x :: r, seen, h => by
    unfold ordFrom at h
    by_cases h1 : 0 ≤ x ∧ x < n
    · rw [if_pos h1] at h
      by_cases h2 : x ∈ seen
      · rw [if_pos h2] at h; cases h
      · rw [if_neg h2] at h
        obtain ⟨h3, h4⟩ := ordFrom_zero n r _ h
        refine ⟨fun y hy => ?_, List.nodup_cons.2 ⟨fun hx => (h3 x hx).2.2 (by simp), h4⟩⟩
        rcases List.mem_cons.1 hy with rfl | hy
        · exact ⟨h1.1, h1.2, h2⟩
        · exact ⟨(h3 y hy).1, (h3 y hy).2.1, fun hs => (h3 y hy).2.2 (by simp [hs])⟩
    · rw [if_neg h1] at h; cases h
theorem nodup_len : ∀ (n : Nat) (ps : List Nat), ps.Nodup → (∀ p ∈ ps, p < n) → ps.length ≤ n
  | 0, [], _, _ => Nat.le_refl _
  | 0, p :: _, _, h => absurd (h p (by simp)) (by omega)
  | n + 1, ps, hd, h => by
    have h1 := nodup_len n (ps.erase n) (hd.erase n) (fun p hp => by
      have h2 := (List.Nodup.mem_erase_iff hd).1 hp
      have := h p h2.2
      have := h2.1
      omega)
    by_cases hm : n ∈ ps
    · have := List.length_erase_of_mem hm
      have : 0 < ps.length := List.length_pos_of_mem hm
      omega
    · rw [List.erase_of_not_mem hm] at h1; omega
/-- The order as natural numbers. -/
structure Ord (n : Nat) (ps : List Nat) : Prop where
  len : ps.length = n
  lt : ∀ p ∈ ps, p < n
  one : ps.Nodup
theorem Ord.all {n : Nat} {ps : List Nat} (h : Ord n ps) {k : Nat} (hk : k < n) : ∃ j, j < n ∧ ps.getD j 0 = k := by
  have hm : k ∈ ps := Classical.byContradiction fun hm => by
    have h1 := nodup_len n (k :: ps) (List.nodup_cons.2 ⟨hm, h.one⟩) (fun p hp => by
      rcases List.mem_cons.1 hp with rfl | hp
      · exact hk
      · exact h.lt p hp)
    have h2 := h.len
    rw [List.length_cons] at h1
    omega
  obtain ⟨j, hj, he⟩ := List.getElem_of_mem hm
  exact ⟨j, by rw [← h.len]; exact hj, by rw [List.getD_eq_getElem?_getD, List.getElem?_eq_getElem hj]; exact he⟩
theorem Ord.at {n : Nat} {ps : List Nat} (h : Ord n ps) {j : Nat} (hj : j < n) : ps.getD j 0 < n := by
  have hj' : j < ps.length := by rw [h.len]; exact hj
  rw [List.getD_eq_getElem?_getD, List.getElem?_eq_getElem hj']
  exact h.lt _ (List.getElem_mem hj')
theorem Ord.inj {n : Nat} {ps : List Nat} (h : Ord n ps) {i j : Nat} (hi : i < n) (hj : j < n) (he : ps.getD i 0 = ps.getD j 0) : i = j := by
  have hi' : i < ps.length := by rw [h.len]; exact hi
  have hj' : j < ps.length := by rw [h.len]; exact hj
  rw [List.getD_eq_getElem?_getD, List.getElem?_eq_getElem hi', List.getD_eq_getElem?_getD, List.getElem?_eq_getElem hj'] at he
  have hp := List.pairwise_iff_getElem.1 h.one
  rcases Nat.lt_trichotomy i j with h1 | h1 | h1
  · exact absurd he (hp i j hi' hj' h1)
  · exact h1
  · exact absurd he.symm (hp j i hj' hi' h1)
theorem ord_of {n : Nat} {os : List Int} (h : ordE n os = 0) : Ord n (os.map Int.toNat) ∧ os = (os.map Int.toNat).map fun p : Nat => (p : Int) := by
  unfold ordE at h
  by_cases hl : (os.length : Int) = (n : Int)
  · rw [if_pos hl] at h
    obtain ⟨h1, h2⟩ := ordFrom_zero _ _ _ h
    have e : os = (os.map Int.toNat).map fun p : Nat => (p : Int) := by
      rw [List.map_map]
      conv => lhs; rw [← List.map_id os]
      exact List.map_congr_left fun x hx => by exact (Int.toNat_of_nonneg (h1 x hx).1).symm
    refine ⟨⟨by rw [List.length_map]; omega, fun p hp => ?_, ?_⟩, e⟩
    · obtain ⟨x, hx, rfl⟩ := List.mem_map.1 hp
      have := h1 x hx
      omega
    · have h3 : ((os.map Int.toNat).map fun p : Nat => (p : Int)).Nodup := e ▸ h2
      exact List.Pairwise.of_map _ (fun a b (h : (a : Int) ≠ (b : Int)) hab => h (by rw [hab])) h3
  · rw [if_neg hl] at h; cases h
/-- The point before renaming, as the definition has it. -/
def refY (ps : List Nat) (x : Nat) : Nat → Nat
  | 0 => 0
  | i + 1 => wth (refY ps x i) i (x.testBit (ps.getD i 0))
theorem refY_lt (ps : List Nat) (x : Nat) : ∀ i, refY ps x i < 2 ^ i
  | 0 => by simp [refY]
  | i + 1 => by
    have h := refY_lt ps x i
    have hp : 2 ^ (i + 1) = 2 ^ i + 2 ^ i := by rw [Nat.pow_succ]; omega
    have hb := Nat.testBit_lt_two_pow h
    unfold refY wth
    rw [hb]
    cases x.testBit (ps.getD i 0)
    · rw [if_pos rfl]; omega
    · rw [if_neg (by simp), if_pos rfl]; omega
theorem refY_bit (ps : List Nat) (x : Nat) : ∀ i j, (refY ps x i).testBit j = (decide (j < i) && x.testBit (ps.getD j 0))
  | 0, j => by simp [refY]
  | i + 1, j => by
    have h := refY_lt ps x i
    have hb := Nat.testBit_lt_two_pow h
    have ih := refY_bit ps x i j
    unfold refY wth
    rw [hb]
    cases hx : x.testBit (ps.getD i 0)
    · rw [if_pos rfl, ih]
      by_cases h1 : j < i
      · simp [h1, show j < i + 1 by omega]
      · by_cases h2 : j = i
        · subst h2; rw [hx]; simp
        · simp [h1, show ¬ j < i + 1 by omega]
    · rw [if_neg (by simp), if_pos rfl]
      have e := Nat.testBit_two_pow_mul_add 1 h j
      rw [Nat.mul_one, Nat.add_comm] at e
      rw [e]
      by_cases h1 : j < i
      · rw [if_pos h1, ih]; simp [h1, show j < i + 1 by omega]
      · rw [if_neg h1]
        by_cases h2 : j = i
        · subst h2; rw [hx]; simp
        · have : (1 : Nat).testBit (j - i) = false := by
            obtain ⟨d, hd⟩ : ∃ d, j - i = d + 1 := ⟨j - i - 1, by omega⟩
            rw [hd, Nat.testBit_succ]; simp
          rw [this]; simp; omega
/-- The point behind renaming, as the program computes it. -/
def devX (ps : List Nat) (y : Nat) : Nat → Nat
  | 0 => 0
  | i + 1 => devX ps y i ||| (y.testBit i).toNat * 2 ^ ps.getD i 0
theorem devX_bit (ps : List Nat) (y : Nat) : ∀ i k, (devX ps y i).testBit k = true ↔ ∃ j, j < i ∧ ps.getD j 0 = k ∧ y.testBit j = true
  | 0, k => by simp [devX]
  | i + 1, k => by
    have ih := devX_bit ps y i k
    unfold devX
    rw [Nat.testBit_or, Bool.or_eq_true, ih]
    constructor
    · rintro (⟨j, h1, h2, h3⟩ | h)
      · exact ⟨j, by omega, h2, h3⟩
      · cases hy : y.testBit i
        · rw [hy] at h; simp at h
        · rw [hy, Bool.toNat_true, Nat.one_mul, Nat.testBit_two_pow] at h
          exact ⟨i, by omega, by simpa using h, hy⟩
    · rintro ⟨j, h1, h2, h3⟩
      by_cases hj : j < i
      · exact .inl ⟨j, hj, h2, h3⟩
      · obtain rfl : j = i := by omega
        refine .inr ?_
        rw [h3, Bool.toNat_true, Nat.one_mul, Nat.testBit_two_pow]
        simpa using h2
theorem devX_lt {n : Nat} {ps : List Nat} (h : Ord n ps) (y : Nat) {i : Nat} (hi : i ≤ n) : devX ps y i < 2 ^ n := by
  refine Nat.lt_pow_two_of_testBit _ fun k hk => ?_
  rw [Bool.eq_false_iff]
  intro h2
  obtain ⟨j, h1, h3, _⟩ := (devX_bit ps y i k).1 h2
  have := h.at (show j < n by omega)
  omega
theorem ref_dev {n : Nat} {ps : List Nat} (h : Ord n ps) {y : Nat} (hy : y < 2 ^ n) : refY ps (devX ps y n) n = y := by
  apply Nat.eq_of_testBit_eq
  intro j
  rw [refY_bit]
  by_cases hj : j < n
  · rw [Bool.eq_iff_iff, Bool.and_eq_true, devX_bit]
    constructor
    · rintro ⟨_, i, h1, h2, h3⟩
      rw [h.inj hj h1 h2.symm]; exact h3
    · exact fun h3 => ⟨by simpa using hj, j, hj, rfl, h3⟩
  · rw [Nat.testBit_lt_two_pow (Nat.lt_of_lt_of_le hy (Nat.pow_le_pow_right (by omega) (by omega)))]; simp [hj]
theorem dev_ref {n : Nat} {ps : List Nat} (h : Ord n ps) {x : Nat} (hx : x < 2 ^ n) : devX ps (refY ps x n) n = x := by
  apply Nat.eq_of_testBit_eq
  intro k
  rw [Bool.eq_iff_iff, devX_bit]
  constructor
  · rintro ⟨j, h1, h2, h3⟩
    rw [refY_bit, h2] at h3
    simp at h3
    exact h3.2
  · intro hk
    have hkn : k < n := Nat.lt_of_not_le fun hle => by
      rw [Nat.testBit_lt_two_pow (Nat.lt_of_lt_of_le hx (Nat.pow_le_pow_right (by omega) hle))] at hk; cases hk
    obtain ⟨j, h1, h2⟩ := h.all hkn
    refine ⟨j, h1, h2, ?_⟩
    rw [refY_bit, h2, hk]; simpa using h1
/-- What the program has collected, of the points below m. -/
def acc (ps : List Nat) (n b m : Nat) : Nat := (List.range m).foldl (fun a y => if b.testBit y then a ||| 2 ^ devX ps y n else a) 0
theorem acc_succ (ps : List Nat) (n b m : Nat) : acc ps n b (m + 1) = if b.testBit m then acc ps n b m ||| 2 ^ devX ps m n else acc ps n b m := by
  unfold acc
  rw [List.range_succ, List.foldl_append, List.foldl_cons, List.foldl_nil]
theorem acc_bit (ps : List Nat) (n b k : Nat) : ∀ m, (acc ps n b m).testBit k = true ↔ ∃ y, y < m ∧ b.testBit y = true ∧ devX ps y n = k
  | 0 => by simp [acc]
  | m + 1 => by
    have ih := acc_bit ps n b k m
    rw [acc_succ]
    by_cases hb : b.testBit m = true
    · rw [if_pos hb, Nat.testBit_or, Bool.or_eq_true, ih, Nat.testBit_two_pow]
      constructor
      · rintro (⟨y, h1, h2, h3⟩ | h)
        · exact ⟨y, by omega, h2, h3⟩
        · exact ⟨m, by omega, hb, by simpa using h⟩
      · rintro ⟨y, h1, h2, h3⟩
        by_cases hy : y < m
        · exact .inl ⟨y, hy, h2, h3⟩
        · obtain rfl : y = m := by omega
          exact .inr (by simpa using h3)
    · rw [if_neg hb, ih]
      constructor
      · rintro ⟨y, h1, h2, h3⟩; exact ⟨y, by omega, h2, h3⟩
      · rintro ⟨y, h1, h2, h3⟩
        refine ⟨y, Nat.lt_of_not_le fun hle => hb ?_, h2, h3⟩
        obtain rfl : y = m := by omega
        exact h2
theorem acc_next {ps : List Nat} {n b x m : Nat} (hH : high b x m) (h0 : x ≠ 0) (h : x < 18446744073709551616) : acc ps n b (Go.Lib.ctz 64 x + 1) = acc ps n b m ||| 2 ^ devX ps (Go.Lib.ctz 64 x) n := by
  obtain ⟨h1, h2⟩ := high_low hH h0 h
  apply Nat.eq_of_testBit_eq
  intro k
  rw [Bool.eq_iff_iff, acc_bit, Nat.testBit_or, Bool.or_eq_true, acc_bit, Nat.testBit_two_pow]
  constructor
  · rintro ⟨y, h3, h4, h5⟩
    by_cases hy : y < m
    · exact .inl ⟨y, hy, h4, h5⟩
    · have h6 : y = Go.Lib.ctz 64 x := Classical.byContradiction fun hne => by
        have h7 := hH y
        rw [low_none h0 h (by omega), h4] at h7
        simp at h7
        omega
      subst h6
      exact .inr (by simpa using h5)
  · rintro (⟨y, h3, h4, h5⟩ | h5)
    · exact ⟨y, by omega, h4, h5⟩
    · exact ⟨_, Nat.lt_succ_self _, h2, by simpa using h5⟩
theorem acc_lt {ps : List Nat} {n b m : Nat} (hO : Ord n ps) : acc ps n b m < 2 ^ 2 ^ n := by
  refine Nat.lt_pow_two_of_testBit _ fun k hk => ?_
  rw [Bool.eq_false_iff]
  intro h
  obtain ⟨y, _, _, h3⟩ := (acc_bit ps n b k m).1 h
  have := devX_lt hO y (Nat.le_refl n)
  omega
theorem acc_end {ps : List Nat} {n b m : Nat} (hO : Ord n ps) (hH : high b 0 m) (hb : b < 2 ^ 2 ^ n) : acc ps n b m = mk n (fun x => b.testBit (refY ps x n)) := by
  have z : ∀ k, m ≤ k → b.testBit k = false := fun k hk => by
    have := hH k
    rw [Nat.zero_testBit] at this
    simp [hk] at this
    exact this
  refine same (n := n) (acc_lt hO) (mk_lt n _) fun k hk => ?_
  rw [mk_bit, Bool.eq_iff_iff, acc_bit]
  simp only [hk, decide_true, Bool.true_and]
  constructor
  · rintro ⟨y, _, h2, h3⟩
    have hy : y < 2 ^ n := Nat.lt_of_not_le fun hle => by rw [high_bit hb hle] at h2; cases h2
    rw [← h3, ref_dev hO hy]
    exact h2
  · intro h
    exact ⟨refY ps k n, Nat.lt_of_not_le fun hle => (by rw [z _ hle] at h; cases h), h, dev_ref hO hk⟩
end Tt
