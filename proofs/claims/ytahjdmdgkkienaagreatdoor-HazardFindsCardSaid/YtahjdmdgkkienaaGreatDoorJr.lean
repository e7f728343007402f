/- The list of prime implicants: whole, without repetition, and what it covers; plain facts. -/
import Derived.Test.YtahjdmdgkkienaaGreatDoorJq
namespace Ic

theorem or_mod {a n : Nat} (h : a < 2 ^ n) : (a ||| 2 ^ n) % 2 ^ n = a := by
  apply Nat.eq_of_testBit_eq
  intro i
  rw [Nat.testBit_mod_two_pow, Nat.testBit_or, Nat.testBit_two_pow]
  by_cases hi : i < n
  · simp [hi, show ¬ n = i by omega]
  · rw [Nat.testBit_lt_two_pow (Nat.lt_of_lt_of_le h (Nat.pow_le_pow_right (by omega) (by omega)))]; simp [hi]
theorem three_mod {n : Nat} {y x : Nat × Nat} (hy : Fits n y) (hx : x ∈ three (2 ^ n) y) : (x.1 % 2 ^ n, x.2 % 2 ^ n) = y := by
  have h2 : y.2 < 2 ^ n := hy.2.lt hy.1
  simp only [three, List.mem_cons, List.not_mem_nil, or_false] at hx
  rcases hx with rfl | rfl | rfl
  · simp [Nat.mod_eq_of_lt hy.1, Nat.mod_eq_of_lt h2]
  · simp [or_mod hy.1, Nat.mod_eq_of_lt h2]
  · simp [or_mod hy.1, or_mod h2]
theorem or_ne {a n : Nat} (h : a < 2 ^ n) : a ≠ a ||| 2 ^ n := by
  intro e
  have : (a ||| 2 ^ n).testBit n = true := by rw [Nat.testBit_or]; simp
  rw [← e, Nat.testBit_lt_two_pow h] at this
  cases this
theorem cubesL_nodup (n : Nat) : (cubesL n).Nodup := by
  induction n with
  | zero => simp [cubesL]
  | succ n ih =>
    unfold cubesL List.Nodup
    rw [List.pairwise_flatMap]
    refine ⟨fun y hy => ?_, ?_⟩
    · have hf := cubesL_fits n y hy
      have h2 : y.2 < 2 ^ n := hf.2.lt hf.1
      simp only [three, List.pairwise_cons, List.mem_cons, List.not_mem_nil, or_false]
      refine ⟨fun x hx => ?_, fun x hx => ?_, by simp, List.Pairwise.nil⟩
      · rcases hx with rfl | rfl
        · intro e; exact or_ne hf.1 (congrArg Prod.fst e)
        · intro e; exact or_ne hf.1 (congrArg Prod.fst e)
      · subst hx; intro e; exact or_ne h2 (congrArg Prod.snd e)
    · refine List.Pairwise.imp_of_mem ?_ ih
      intro a b ha hb hab x hx y hy e
      subst e
      exact hab ((three_mod (cubesL_fits n a ha) hx).symm.trans (three_mod (cubesL_fits n b hb) hy))
theorem cubesL_all (n : Nat) : ∀ x, Fits n x → x ∈ cubesL n := by
  induction n with
  | zero =>
    rintro ⟨a, b⟩ h
    have h1 : a = 0 := by have := h.1; simp at this; exact this
    have h2 : b = 0 := by have := h.2.lt h.1; simp at this; exact this
    subst h1 h2
    simp [cubesL]
  | succ n ih =>
    intro x h
    rw [cubesL, List.mem_flatMap]
    refine ⟨(x.1 % 2 ^ n, x.2 % 2 ^ n), ih _ ⟨Nat.mod_lt _ (Nat.pow_pos (by omega)), fun i hi => ?_⟩, ?_⟩
    · rw [Nat.testBit_mod_two_pow, Bool.and_eq_true] at *
      exact ⟨hi.1, h.2 i hi.2⟩
    · have hx1 := h.1
      have hx2 := h.2.lt h.1
      have hsplit : ∀ a, a < 2 ^ (n + 1) → a = if a.testBit n then a % 2 ^ n ||| 2 ^ n else a % 2 ^ n := by
        intro a ha
        apply Nat.eq_of_testBit_eq
        intro i
        by_cases hi : i < n
        · split <;> simp [Nat.testBit_or, Nat.testBit_mod_two_pow, hi, show ¬ n = i by omega]
        · by_cases e : i = n
          · subst e
            split <;> rename_i hb
            · simp [Nat.testBit_or, hb]
            · simp [Nat.testBit_mod_two_pow, hb]
          · rw [Nat.testBit_lt_two_pow (Nat.lt_of_lt_of_le ha (Nat.pow_le_pow_right (by omega) (by omega)))]
            split <;> simp [Nat.testBit_or, Nat.testBit_mod_two_pow, hi, show ¬ n = i by omega]
      have e1 := hsplit x.1 hx1
      have e2 := hsplit x.2 hx2
      simp only [three, List.mem_cons, List.not_mem_nil, or_false]
      cases h1 : x.1.testBit n
      · have h2 : x.2.testBit n = false := by
          cases h' : x.2.testBit n
          · rfl
          · rw [h.2 n h'] at h1; cases h1
        rw [h1] at e1; rw [h2] at e2
        exact .inl (Prod.ext (by simpa using e1) (by simpa using e2))
      · rw [h1] at e1
        cases h2 : x.2.testBit n
        · rw [h2] at e2
          exact .inr (.inl (Prod.ext (by simpa using e1) (by simpa using e2)))
        · rw [h2] at e2
          exact .inr (.inr (Prod.ext (by simpa using e1) (by simpa using e2)))

theorem primesS_mem {n on fr : Nat} {x : Nat × Nat} : x ∈ primesS n on fr ↔ Fits n x ∧ prime n on fr x.1 x.2 = true := by
  rw [primesS, sortL_mem, primesL, List.mem_filter]
  exact ⟨fun h => ⟨cubesL_fits n x h.1, h.2⟩, fun h => ⟨cubesL_all n x h.1, h.2⟩⟩
theorem primesS_nodup (n on fr : Nat) : (primesS n on fr).Nodup := by
  unfold primesS sortL
  rw [(List.mergeSort_perm _ _).nodup_iff]
  exact (cubesL_nodup n).filter _
theorem onc_bit (n : Nat) (l : List (Nat × Nat)) (k : Nat) : (onc n l).1.testBit k = true ↔ ∃ x ∈ l, (tab n x.1 x.2).testBit k = true := by
  have : ∀ (l : List (Nat × Nat)) (s : Nat × Nat), (l.foldl (fun s x => (s.1 ||| tab n x.1 x.2, s.2 ||| (s.1 &&& tab n x.1 x.2))) s).1.testBit k = true ↔ s.1.testBit k = true ∨ ∃ x ∈ l, (tab n x.1 x.2).testBit k = true := by
    intro l
    induction l with
    | nil => intro s; simp
    | cons x l ih =>
      intro s
      rw [List.foldl_cons, ih]
      simp only [Nat.testBit_or, Bool.or_eq_true, List.mem_cons, exists_eq_or_imp]
      rw [or_assoc]
  unfold onc
  rw [this]
  simp
/-- All points of On are covered. -/
theorem cover_on {n on fr : Nat} (hn : n ≤ 6) (ho : on < 2 ^ 2 ^ n) (hf : fr < 2 ^ 64) : on &&& (18446744073709551615 - (onc n (primesS n on fr)).1) = 0 := by
  have ho64 := Tt.w64 hn ho
  rw [sub_iff ho64 (onc_lt hn _).1]
  intro k hk
  have hkn : k < 2 ^ n := bit_lt ho hk
  rw [onc_bit]
  have hfull : Sub k (2 ^ n - 1) := fun i hi => by
    rw [Nat.testBit_two_pow_sub_one]
    exact decide_eq_true (bit_lt hkn hi)
  have hc : 2 ^ n - 1 < 2 ^ n := by have := Nat.pow_pos (a := 2) (n := n) (by omega); omega
  have hinn : inn (2 ^ n - 1) k k = true := (inn_iff hfull).2 fun _ _ => rfl
  have himp : imp n on fr (2 ^ n - 1) k = true := by
    rw [imp_iff hn ho64 hf]
    intro j hj hij
    rw [inn_iff hfull] at hij
    have : j = k := Nat.eq_of_testBit_eq fun i => by
      by_cases hi : i < n
      · exact hij i (by rw [Nat.testBit_two_pow_sub_one]; exact decide_eq_true hi)
      · have hle : (2 : Nat) ^ n ≤ 2 ^ i := Nat.pow_le_pow_right (by omega) (by omega)
        rw [Nat.testBit_lt_two_pow (Nat.lt_of_lt_of_le hj hle), Nat.testBit_lt_two_pow (Nat.lt_of_lt_of_le hkn hle)]
    rw [this, Nat.testBit_or, hk, Bool.true_or]
  obtain ⟨d, u, b1, b2, b3, b4, -⟩ := prime_over hn ho64 hf hkn hk (2 ^ n - 1) k hc hfull himp hinn
  exact ⟨(d, u), primesS_mem.2 ⟨⟨b1, b2⟩, b3⟩, by rw [tab_in hkn]; exact b4⟩
/-- Without free points, just these are. -/
theorem cover_all {n on : Nat} (hn : n ≤ 6) (ho : on < 2 ^ 2 ^ n) : (onc n (primesS n on 0)).1 = on := by
  have ho64 := Tt.w64 hn ho
  apply Nat.eq_of_testBit_eq
  intro k
  rw [Bool.eq_iff_iff]
  constructor
  · intro h
    obtain ⟨x, hx, hk⟩ := (onc_bit n _ k).1 h
    rw [tab_bit, Bool.and_eq_true, decide_eq_true_iff] at hk
    have hp := (primesS_mem.1 hx).2
    have hi := (imp_iff hn ho64 (by decide)).1 (prime_iff.1 hp).2.1 k hk.1 hk.2
    rw [Nat.or_zero] at hi
    exact hi
  · intro h
    have h0 := (sub_iff ho64 (onc_lt hn (primesS n on 0)).1).1 (cover_on hn ho (by decide))
    exact h0 k h
theorem onc_fits {n : Nat} (l : List (Nat × Nat)) : (onc n l).1 < 2 ^ 2 ^ n := by
  refine Nat.lt_pow_two_of_testBit _ fun k hk => ?_
  rw [Bool.eq_false_iff]
  intro h
  obtain ⟨x, _, h2⟩ := (onc_bit n l k).1 h
  rw [tab_bit, Bool.and_eq_true, decide_eq_true_iff] at h2
  omega
section
variable {n on fr : Nat} (hn : n ≤ 6) (ho : on < 2 ^ 64) (hf : fr < 2 ^ 64)
theorem getD_mem {l : List (Nat × Nat)} {i : Nat} (hi : i < l.length) : l.getD i (0, 0) ∈ l := by
  rw [List.getD_eq_getElem?_getD, List.getElem?_eq_getElem hi]; exact List.getElem_mem hi
include hn ho hf
theorem primes_apart {i j : Nat} (hij : j < i) (hi : i < (primesS n on fr).length) :
    insV n ((primesS n on fr).getD i (0, 0)).1 ((primesS n on fr).getD i (0, 0)).2 ((primesS n on fr).getD j (0, 0)).1 ((primesS n on fr).getD j (0, 0)).2 = (false, 0) ∧
    insV n ((primesS n on fr).getD j (0, 0)).1 ((primesS n on fr).getD j (0, 0)).2 ((primesS n on fr).getD i (0, 0)).1 ((primesS n on fr).getD i (0, 0)).2 = (false, 0) := by
  have hj : j < (primesS n on fr).length := by omega
  obtain ⟨f1, p1⟩ := primesS_mem.1 (getD_mem hi)
  obtain ⟨f2, p2⟩ := primesS_mem.1 (getD_mem hj)
  have hne : (primesS n on fr).getD j (0, 0) ≠ (primesS n on fr).getD i (0, 0) := by
    have h := List.pairwise_iff_getElem.1 (primesS_nodup n on fr) j i hj hi hij
    rw [List.getD_eq_getElem?_getD, List.getElem?_eq_getElem hj, List.getD_eq_getElem?_getD, List.getElem?_eq_getElem hi]
    exact h
  generalize (primesS n on fr).getD i (0, 0) = x at *
  generalize (primesS n on fr).getD j (0, 0) = y at *
  have c1 := chk_of hn f1.1 f1.2
  have c2 := chk_of hn f2.1 f2.2
  constructor
  · unfold insV
    rw [if_pos (chk2_zero.2 ⟨c1, c2⟩)]
    cases h : insB x.1 x.2 y.1 y.2
    · rfl
    · obtain ⟨e1, e2⟩ := prime_alone hn ho hf f1.1 f2.1 f1.2 f2.2 p1 p2 h
      exact absurd (Prod.ext e1.symm e2.symm) hne
  · unfold insV
    rw [if_pos (chk2_zero.2 ⟨c2, c1⟩)]
    cases h : insB y.1 y.2 x.1 x.2
    · rfl
    · obtain ⟨e1, e2⟩ := prime_alone hn ho hf f2.1 f1.1 f2.2 f1.2 p2 p1 h
      exact absurd (Prod.ext e1 e2) hne
end
end Ic

