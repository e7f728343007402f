/- What the laws of package hazard say: plain facts. -/
import Derived.Test.YtahjdmdgkkienaaGreatDoorHE
import Derived.Test.YtahjdmdgkkienaaGreatDoorHC
namespace Hz
open Ic (inn Sub)
theorem way_self {n m k : Nat} (hm : m < 2 ^ n) : k ∈ way n m m ↔ k = m := by
  rw [way_mem, onB_iff]
  constructor
  · rintro ⟨hk, h⟩
    refine Nat.eq_of_testBit_eq fun i => ?_
    by_cases hi : i < n
    · exact h i hi rfl
    · have f : ∀ x, x < 2 ^ n → x.testBit i = false := fun x hx => Nat.testBit_lt_two_pow (Nat.lt_of_lt_of_le hx (Nat.pow_le_pow_right (by omega) (by omega)))
      rw [f k hk, f m hm]
  · rintro rfl; exact ⟨hm, fun _ _ _ => rfl⟩
theorem st_one {W : List Nat} {l : List (Nat × Nat)} : st W l = 1 ↔ ∃ p ∈ l, ∀ k ∈ W, inn p.1 p.2 k = true := by
  unfold st
  have h : l.any (al W) = true ↔ ∃ p ∈ l, ∀ k ∈ W, inn p.1 p.2 k = true := by
    rw [List.any_eq_true]
    refine exists_congr fun p => and_congr_right fun _ => ?_
    unfold al; rw [List.all_eq_true]
  rw [← h]
  cases l.any (al W)
  · cases l.any (so W) <;> simp
  · simp
theorem st_zero {W : List Nat} {l : List (Nat × Nat)} (hW : W ≠ []) : st W l = 0 ↔ ∀ p ∈ l, ∀ k ∈ W, inn p.1 p.2 k = false := by
  have h : l.any (so W) = false ↔ ∀ p ∈ l, ∀ k ∈ W, inn p.1 p.2 k = false := by
    rw [List.any_eq_false]
    refine forall_congr' fun p => forall_congr' fun _ => ?_
    unfold so
    rw [Bool.not_eq_true, List.any_eq_false]
    exact forall_congr' fun k => forall_congr' fun _ => by simp
  rw [← h]
  unfold st
  cases h0 : l.any (so W)
  · have : l.any (al W) = false := by
      rw [List.any_eq_false]
      intro p hp ha
      obtain ⟨k, hk⟩ := List.exists_mem_of_ne_nil W hW
      unfold al at ha
      rw [List.all_eq_true] at ha
      have := h.1 h0 p hp k hk
      rw [ha k hk] at this; cases this
    simp [this]
  · cases l.any (al W) <;> simp
theorem st_le (W : List Nat) (l : List (Nat × Nat)) : st W l ≤ 2 := by unfold st; split <;> (try split) <;> omega
theorem way_ne {n a b : Nat} (ha : a < 2 ^ n) : way n a b ≠ [] := List.ne_nil_of_mem (way_mem.2 ⟨ha, self_on n a b⟩)
theorem cv_true {l : List (Nat × Nat)} {k : Nat} : cv l k = true ↔ ∃ p ∈ l, inn p.1 p.2 k = true := by unfold cv; rw [List.any_eq_true]
theorem cv_false {l : List (Nat × Nat)} {k : Nat} : cv l k = false ↔ ∀ p ∈ l, inn p.1 p.2 k = false := by
  unfold cv; rw [List.any_eq_false]; exact forall_congr' fun p => forall_congr' fun _ => by simp
/-- Between a point and itself. -/
theorem sm_self {n m : Nat} {l : List (Nat × Nat)} (hn : n ≤ 6) (hm : m < 2 ^ n) (hl : Ok n l) : sm n m m l = if cv l m then 1 else 0 := by
  rw [sm_st hn hm hm hl]
  cases h : cv l m
  · rw [if_neg (by simp), st_zero (way_ne hm)]
    intro p hp k hk
    rw [(way_self hm).1 hk]
    exact cv_false.1 h p hp
  · rw [if_pos rfl, st_one]
    obtain ⟨p, hp, hi⟩ := cv_true.1 h
    exact ⟨p, hp, fun k hk => by rw [(way_self hm).1 hk]; exact hi⟩
theorem mid_way {n a b c k : Nat} (hn : n ≤ 6) (ha : a < 2 ^ n) (hb : b < 2 ^ n) (h : k ∈ way n a (mid a b c)) : k ∈ way n a b := by
  rw [way_mem, onB_iff] at h ⊢
  refine ⟨h.1, fun i hi e => h.2 i hi ?_⟩
  rw [mid_bit (Ic.w64 hn ha) (Ic.w64 hn hb), if_pos e]
theorem mid_in {n a b c : Nat} (hn : n ≤ 6) (ha : a < 2 ^ n) (hb : b < 2 ^ n) (hm : mid a b c < 2 ^ n) : mid a b c ∈ way n a b := way_mem.2 ⟨hm, mid_on hn ha hb⟩
theorem mid_lt' {n a b c : Nat} (hn : n ≤ 6) (ha : a < 2 ^ n) (hb : b < 2 ^ n) : mid a b c < 2 ^ n := by
  refine Nat.lt_pow_two_of_testBit _ fun i hi => ?_
  have f : ∀ x, x < 2 ^ n → x.testBit i = false := fun x hx => Nat.testBit_lt_two_pow (Nat.lt_of_lt_of_le hx (Nat.pow_le_pow_right (by omega) hi))
  rw [mid_bit (Ic.w64 hn ha) (Ic.w64 hn hb), f a ha, f b hb]; rfl
/-- What is known stays known when less changes. -/
theorem steady {n a b c : Nat} {l : List (Nat × Nat)} (hn : n ≤ 6) (ha : a < 2 ^ n) (hb : b < 2 ^ n) (hl : Ok n l) (h : sm n a b l ≠ 2) : sm n a b l = (if cv l (mid a b c) then 1 else 0) ∧ sm n a (mid a b c) l = sm n a b l := by
  have hm := mid_lt' (c := c) hn ha hb
  have hin := mid_in (c := c) hn ha hb hm
  rw [sm_st hn ha hb hl] at h ⊢
  rw [sm_st hn ha hm hl]
  have hle := st_le (way n a b) l
  rcases (show st (way n a b) l = 0 ∨ st (way n a b) l = 1 by omega) with e | e
  · rw [e]
    have e' := (st_zero (way_ne ha)).1 e
    refine ⟨?_, (st_zero (way_ne ha)).2 fun p hp k hk => e' p hp k (mid_way hn ha hb hk)⟩
    rw [cv_false.2 fun p hp => e' p hp _ hin]; rfl
  · rw [e]
    obtain ⟨p, hp, e'⟩ := st_one.1 e
    refine ⟨?_, st_one.2 ⟨p, hp, fun k hk => e' k (mid_way hn ha hb hk)⟩⟩
    rw [cv_true.2 ⟨p, hp, e' _ hin⟩]; rfl

/-! A change of one variable. -/
theorem wayT_bit {n a b k : Nat} (hn : n ≤ 6) (ha : a < 2 ^ n) (hb : b < 2 ^ n) (hk : k < 2 ^ n) : (wayT n a b).testBit k = onB n a b k := by
  unfold wayT
  rw [made_bit hk]
  have hx : a ^^^ b < 2 ^ 64 := Nat.xor_lt_two_pow (Ic.w64 hn ha) (Ic.w64 hn hb)
  have hf : 2 ^ n - 1 < 2 ^ 64 := by have := Tt.size_le hn; omega
  have hsb : ∀ i, (still n a b).testBit i = (decide (i < n) && (a.testBit i == b.testBit i)) := fun i => by
    unfold still
    rw [Nat.testBit_and, full_bit]
    by_cases hi : i < n
    · rw [Ic.not_bit hx (by omega), Nat.testBit_xor]
      cases a.testBit i <;> cases b.testBit i <;> simp [hi]
    · simp [hi]
  unfold cv
  rw [List.any_cons, List.any_nil, Bool.or_false, Bool.eq_iff_iff, Ic.inn_iff (still_ok n a b _ (List.mem_singleton.2 rfl)).2, onB_iff]
  constructor
  · intro h i hi e
    have hs : (still n a b).testBit i = true := by rw [hsb, e]; simp [hi]
    rw [h i hs, Nat.testBit_and, hs, Bool.and_true]
  · intro h i hi
    have h2 := hsb i
    rw [hi] at h2
    have h3 : i < n ∧ a.testBit i = b.testBit i := by simpa using h2.symm
    rw [h i h3.1 h3.2, Nat.testBit_and, hi, Bool.and_true]
theorem wayT_lt (n a b : Nat) : wayT n a b < 2 ^ 2 ^ n := made_lt _ _
/-- Has the function one value all the way? -/
theorem one_iff {n a b : Nat} {l : List (Nat × Nat)} (hn : n ≤ 6) (ha : a < 2 ^ n) (hb : b < 2 ^ n) : ((wayT n a b &&& made n l == 0 || wayT n a b &&& made n l == wayT n a b) = true) ↔ (∀ k ∈ way n a b, cv l k = false) ∨ (∀ k ∈ way n a b, cv l k = true) := by
  rw [Bool.or_eq_true, beq_iff_eq, beq_iff_eq]
  refine or_congr ?_ ?_
  · constructor
    · intro h k hk
      have hk' := way_mem.1 hk
      have : (wayT n a b &&& made n l).testBit k = false := by rw [h, Nat.zero_testBit]
      rw [Nat.testBit_and, wayT_bit hn ha hb hk'.1, hk'.2, made_bit hk'.1, Bool.true_and] at this
      exact this
    · intro h
      refine Tt.same (n := n) (Nat.lt_of_le_of_lt Nat.and_le_left (wayT_lt n a b)) (Nat.pow_pos (by omega)) fun k hk => ?_
      rw [Nat.testBit_and, wayT_bit hn ha hb hk, made_bit hk, Nat.zero_testBit]
      cases ho : onB n a b k
      · rfl
      · rw [h k (way_mem.2 ⟨hk, ho⟩)]; rfl
  · constructor
    · intro h k hk
      have hk' := way_mem.1 hk
      have : (wayT n a b &&& made n l).testBit k = (wayT n a b).testBit k := by rw [h]
      rw [Nat.testBit_and, wayT_bit hn ha hb hk'.1, hk'.2, made_bit hk'.1, Bool.true_and] at this
      exact this
    · intro h
      refine Tt.same (n := n) (Nat.lt_of_le_of_lt Nat.and_le_left (wayT_lt n a b)) (wayT_lt n a b) fun k hk => ?_
      rw [Nat.testBit_and, wayT_bit hn ha hb hk, made_bit hk]
      cases ho : onB n a b k
      · rfl
      · rw [h k (way_mem.2 ⟨hk, ho⟩)]; rfl
/-- The way of one variable. -/
theorem way_pair {n a b i k : Nat} (ha : a < 2 ^ n) (hb : b < 2 ^ n) (_ : i < n) (hab : ∀ j, b.testBit j = (a.testBit j != decide (i = j))) : k ∈ way n a b ↔ k = a ∨ k = b := by
  rw [way_mem, onB_iff]
  constructor
  · rintro ⟨hk, h⟩
    have h0 : ∀ z, z < 2 ^ n → ∀ j, n ≤ j → z.testBit j = false := fun z hz j hj => Nat.testBit_lt_two_pow (Nat.lt_of_lt_of_le hz (Nat.pow_le_pow_right (by omega) hj))
    have hj : ∀ j, j ≠ i → k.testBit j = a.testBit j := fun j hji => by
      by_cases hjn : j < n
      · exact h j hjn (by rw [hab j, decide_eq_false (Ne.symm hji)]; cases a.testBit j <;> rfl)
      · rw [h0 k hk j (by omega), h0 a ha j (by omega)]
    by_cases hki : k.testBit i = a.testBit i
    · exact .inl (Nat.eq_of_testBit_eq fun j => by by_cases e : j = i; rw [e]; exact hki; exact hj j e)
    · refine .inr (Nat.eq_of_testBit_eq fun j => ?_)
      by_cases e : j = i
      · rw [e, hab i]
        revert hki
        generalize k.testBit i = u
        generalize a.testBit i = v
        cases u <;> cases v <;> simp
      · rw [hj j e, hab j, decide_eq_false (Ne.symm e)]; cases a.testBit j <;> rfl
  · rintro (rfl | rfl)
    · exact ⟨ha, fun _ _ _ => rfl⟩
    · exact ⟨hb, fun j _ e => e.symm⟩
/-- A change of one variable can be noticed exactly at static hazards. -/
theorem notices {n a b i : Nat} {l : List (Nat × Nat)} (hn : n ≤ 6) (ha : a < 2 ^ n) (hb : b < 2 ^ n) (hi : i < n) (hl : Ok n l) (hab : ∀ j, b.testBit j = (a.testBit j != decide (i = j))) :
    (logB n l a b = true ↔ (cv l a = true ∧ cv l b = true ∧ tog l (a, b) = false)) := by
  have hw := fun k => way_pair (k := k) ha hb hi hab
  unfold logB
  rw [Bool.and_eq_true, one_iff hn ha hb, beq_iff_eq, sm_st hn ha hb hl]
  have htog : tog l (a, b) = false ↔ ∀ p ∈ l, ¬ (inn p.1 p.2 a = true ∧ inn p.1 p.2 b = true) := by
    unfold tog jn
    rw [List.any_eq_false]
    exact forall_congr' fun p => forall_congr' fun _ => by simp
  constructor
  · rintro ⟨h1, h2⟩
    have n1 : ¬ st (way n a b) l = 1 := by omega
    have n0 : ¬ st (way n a b) l = 0 := by omega
    rw [st_one] at n1
    rw [st_zero (way_ne ha)] at n0
    have hall : ∀ k ∈ way n a b, cv l k = true := by
      rcases h1 with h1 | h1
      · exact absurd (fun p hp k hk => cv_false.1 (h1 k hk) p hp) n0
      · exact h1
    refine ⟨hall a ((hw a).2 (.inl rfl)), hall b ((hw b).2 (.inr rfl)), htog.2 fun p hp hh => n1 ⟨p, hp, fun k hk => ?_⟩⟩
    rcases (hw k).1 hk with rfl | rfl
    · exact hh.1
    · exact hh.2
  · rintro ⟨h1, h2, h3⟩
    refine ⟨.inr fun k hk => ?_, ?_⟩
    · rcases (hw k).1 hk with rfl | rfl
      · exact h1
      · exact h2
    · have hle := st_le (way n a b) l
      have n1 : ¬ st (way n a b) l = 1 := fun e => by
        obtain ⟨p, hp, e'⟩ := st_one.1 e
        exact htog.1 h3 p hp ⟨e' a ((hw a).2 (.inl rfl)), e' b ((hw b).2 (.inr rfl))⟩
      have n0 : ¬ st (way n a b) l = 0 := fun e => by
        have e' := (st_zero (way_ne ha)).1 e
        obtain ⟨p, hp, hh⟩ := cv_true.1 h1
        rw [e' p hp a ((hw a).2 (.inl rfl))] at hh; cases hh
      omega

/-! What Mend adds. -/
theorem tog_append (a b : List (Nat × Nat)) (p : Nat × Nat) : tog (a ++ b) p = (tog a p || tog b p) := by unfold tog; rw [List.any_append]
theorem mstep_app (ps acc : List (Nat × Nat)) (p : Nat × Nat) : ∃ r, mstep ps acc p = acc ++ r := by
  unfold mstep
  split
  · exact ⟨[], by simp⟩
  · split
    · exact ⟨_, rfl⟩
    · exact ⟨[], by simp⟩
theorem mstep_tog {ps acc : List (Nat × Nat)} {p : Nat × Nat} (h : ∃ c, pick ps p = some c) : tog (mstep ps acc p) p = true := by
  unfold mstep
  cases ht : tog acc p
  · obtain ⟨c, hc⟩ := h
    simp only [hc, Bool.false_eq_true, if_false]
    rw [tog_append]
    have : jn c p = true := List.find?_some (p := fun c => jn c p) hc
    simp [tog, this]
  · simp [ht]
theorem fold_tog (ps : List (Nat × Nat)) : ∀ (L acc : List (Nat × Nat)), (∀ p ∈ L, ∃ c, pick ps p = some c) → (∃ r, L.foldl (mstep ps) acc = acc ++ r) ∧ ∀ p ∈ L, tog (L.foldl (mstep ps) acc) p = true
  | [], acc, _ => ⟨⟨[], by simp⟩, by simp⟩
  | p :: L, acc, h => by
    rw [List.foldl_cons]
    obtain ⟨⟨r, hr⟩, h2⟩ := fold_tog ps L (mstep ps acc p) fun q hq => h q (List.mem_cons_of_mem _ hq)
    obtain ⟨r', hr'⟩ := mstep_app ps acc p
    refine ⟨⟨r' ++ r, by rw [hr, hr', List.append_assoc]⟩, fun q hq => ?_⟩
    rcases List.mem_cons.1 hq with rfl | hq
    · rw [hr, tog_append, mstep_tog (h q List.mem_cons_self), Bool.true_or]
    · exact h2 q hq
section
variable {n : Nat} {l : List (Nat × Nat)} (hn : n ≤ 6)
include hn
theorem mend_tog : ∀ p ∈ bad n l, tog (mend n l) p = true :=
  (fold_tog (Ic.primesS n (made n l) 0) (bad n l) [] fun _ hp => pick_some hn (made_lt n l) (bad_mem.1 hp).1).2
theorem mend_made : made n (l ++ mend n l) = made n l := by
  refine Tt.same (n := n) (made_lt _ _) (made_lt _ _) fun k hk => ?_
  rw [made_bit hk, made_bit hk]
  have : cv (l ++ mend n l) k = (cv l k || cv (mend n l) k) := by unfold cv; rw [List.any_append]
  rw [this]
  cases h : cv (mend n l) k
  · simp
  · obtain ⟨q, hq, hi⟩ := cv_true.1 h
    have hp := (Ic.primesS_mem.1 (mendW_mem _ _ q hq)).2
    have hm := (Ic.imp_iff hn (Tt.w64 hn (made_lt n l)) (by omega)).1 (Ic.prime_iff.1 hp).2.1 k hk hi
    rw [Nat.or_zero, made_bit hk] at hm
    rw [hm]; rfl
theorem mend_none : bad n (l ++ mend n l) = [] := by
  unfold bad
  rw [mend_made hn, List.filter_eq_nil_iff]
  intro p hp
  rw [tog_append]
  cases h : tog l p
  · rw [mend_tog hn p (bad_mem.2 ⟨hp, h⟩)]; simp
  · simp
theorem mend_nil : mend n l = [] ↔ bad n l = [] := by
  constructor
  · intro h
    refine List.eq_nil_iff_forall_not_mem.2 fun p hp => ?_
    have := mend_tog hn p hp
    rw [h] at this
    simp [tog] at this
  · intro h
    unfold mend; rw [h]; rfl
end
theorem mend_len (n : Nat) (l : List (Nat × Nat)) : (mend n l).length ≤ (bad n l).length := by
  have := mendW_len (Ic.primesS n (made n l) 0) (bad n l) _ (Nat.le_refl _)
  rw [List.take_length] at this
  exact this
theorem mend_ok (n : Nat) (l : List (Nat × Nat)) : Ok n (mend n l) := fun p hp => primes_ok n (made n l) p (mendW_mem _ _ p hp)
theorem ok_append {n : Nat} {a b : List (Nat × Nat)} (ha : Ok n a) (hb : Ok n b) : Ok n (a ++ b) := fun p hp => by
  rcases List.mem_append.1 hp with h | h
  · exact ha p h
  · exact hb p h
theorem bad_len5 {n : Nat} (hn : n ≤ 5) (l : List (Nat × Nat)) : (bad n l).length ≤ 160 := by
  refine Nat.le_trans (List.length_filter_le _ _) (Nat.le_trans (nbr_len _ _ _) ?_)
  have h1 := Tt.pts_len (fun k => (made n l).testBit k) (2 ^ n)
  have h2 : 2 ^ n ≤ 32 := Nat.pow_le_pow_right (n := 2) (by omega) hn
  exact Nat.mul_le_mul hn (show _ ≤ 32 by omega)
end Hz
