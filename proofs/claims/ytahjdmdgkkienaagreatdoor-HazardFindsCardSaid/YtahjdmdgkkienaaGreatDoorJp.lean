/- The common cube, the consensus and the inclusion of cubes, by their points: plain facts. -/
import Derived.Test.YtahjdmdgkkienaaGreatDoorIe
namespace Ic

theorem tab_ne {n c v : Nat} {y : Nat} : tab n c v &&& y ≠ 0 ↔ ∃ k, k < 2 ^ n ∧ inn c v k = true ∧ y.testBit k = true := by
  constructor
  · intro h
    obtain ⟨k, hk⟩ := Nat.exists_testBit_of_ne_zero h
    rw [Nat.testBit_and, tab_bit, Bool.and_eq_true, Bool.and_eq_true, decide_eq_true_iff] at hk
    exact ⟨k, hk.1.1, hk.1.2, hk.2⟩
  · rintro ⟨k, h1, h2, h3⟩ e
    have : (tab n c v &&& y).testBit k = true := by rw [Nat.testBit_and, tab_bit, h2, h3]; simp [h1]
    rw [e, Nat.zero_testBit] at this
    cases this
theorem tab_in {n c v k : Nat} (hk : k < 2 ^ n) : (tab n c v).testBit k = inn c v k := by rw [tab_bit]; simp [hk]

/-- Inside, by points. -/
theorem ins_tab {n c v d u : Nat} (hn : n ≤ 6) (hc : c < 2 ^ n) (hd : d < 2 ^ n) (hs : Sub v c) (ht : Sub u d) : insB c v d u = (tab n c v &&& (18446744073709551615 - tab n d u) == 0) := by
  rw [← within_ins hc hd hs ht, Bool.eq_iff_iff, beq_iff_eq, sub_iff (Tt.w64 hn (tab_lt n c v)) (Tt.w64 hn (tab_lt n d u))]
  unfold within
  rw [List.all_eq_true]
  constructor
  · intro h k hk
    rw [tab_bit, Bool.and_eq_true, decide_eq_true_iff] at hk ⊢
    have := h k (List.mem_range.2 hk.1)
    rw [hk.2] at this
    exact ⟨hk.1, by simpa using this⟩
  · intro h k hk
    have hk' := List.mem_range.1 hk
    have := h k
    rw [tab_in hk', tab_in hk'] at this
    cases h1 : inn c v k
    · rfl
    · simpa using this h1

/-- The joint value has the values of a cube where this asks for one, if there is no opposition there. -/
theorem join_left {c v d u i : Nat} (ht : Sub u d) (ho : (opp c v d u).testBit i = false) (hc : c.testBit i = true) : (v ||| u).testBit i = v.testBit i := by
  rw [opp_bit, hc, Bool.true_and] at ho
  rw [Nat.testBit_or]
  cases hd : d.testBit i
  · have : u.testBit i = false := by
      cases h : u.testBit i
      · rfl
      · rw [ht i h] at hd; cases hd
    rw [this, Bool.or_false]
  · rw [hd, Bool.true_and] at ho
    have : v.testBit i = u.testBit i := by simpa using ho
    rw [this, Bool.or_self]
theorem opp_comm (c v d u : Nat) : opp c v d u = opp d u c v := by unfold opp; rw [Nat.and_comm c d, Nat.xor_comm v u]
theorem join_right {c v d u i : Nat} (hs : Sub v c) (ho : (opp c v d u).testBit i = false) (hd : d.testBit i = true) : (v ||| u).testBit i = u.testBit i := by
  rw [Nat.or_comm]
  exact join_left hs (by rw [opp_comm]; exact ho) hd

/-- The common points. -/
theorem meet_tab {n c v d u : Nat} (hs : Sub v c) (ht : Sub u d) (ho : opp c v d u = 0) : tab n (c ||| d) (v ||| u) = tab n c v &&& tab n d u := by
  apply Nat.eq_of_testBit_eq
  intro k
  have h0 : ∀ i, (opp c v d u).testBit i = false := fun i => by rw [ho, Nat.zero_testBit]
  rw [Nat.testBit_and, tab_bit, tab_bit, tab_bit]
  have : inn (c ||| d) (v ||| u) k = (inn c v k && inn d u k) := by
    rw [Bool.eq_iff_iff, Bool.and_eq_true, inn_iff (sub_or hs ht), inn_iff hs, inn_iff ht]
    constructor
    · intro h
      refine ⟨fun i hi => ?_, fun i hi => ?_⟩
      · rw [h i (by rw [Nat.testBit_or, hi, Bool.true_or]), join_left ht (h0 i) hi]
      · rw [h i (by rw [Nat.testBit_or, hi, Bool.or_true]), join_right hs (h0 i) hi]
    · rintro ⟨h1, h2⟩ i hi
      rw [Nat.testBit_or, Bool.or_eq_true] at hi
      rcases hi with hi | hi
      · rw [h1 i hi, join_left ht (h0 i) hi]
      · rw [h2 i hi, join_right hs (h0 i) hi]
  rw [this]
  cases decide (k < 2 ^ n) <;> simp
theorem opp_tab {n c v d u : Nat} (hc : c < 2 ^ n) (hd : d < 2 ^ n) (hs : Sub v c) (ht : Sub u d) : (opp c v d u = 0) ↔ tab n c v &&& tab n d u ≠ 0 := by
  constructor
  · intro ho
    have h0 : ∀ i, (opp c v d u).testBit i = false := fun i => by rw [ho, Nat.zero_testBit]
    have hk : v ||| u < 2 ^ n := Nat.or_lt_two_pow (hs.lt hc) (ht.lt hd)
    refine tab_ne.2 ⟨v ||| u, hk, (inn_iff hs).2 fun i hi => join_left ht (h0 i) hi, ?_⟩
    rw [tab_in hk]
    exact (inn_iff ht).2 fun i hi => join_right hs (h0 i) hi
  · intro h
    obtain ⟨k, hk, h1, h2⟩ := tab_ne.1 h
    rw [tab_in hk] at h2
    rw [opp_zero]
    intro i hi hj
    rw [← (inn_iff hs).1 h1 i hi, ← (inn_iff ht).1 h2 i hj]

/-- The consensus: its bits. -/
theorem cons_bit {a o i : Nat} (ha : a < 2 ^ 64) (ho : o < 2 ^ 64) : (a &&& (18446744073709551615 - o)).testBit i = (a.testBit i && !o.testBit i) := by
  rw [Nat.testBit_and]
  by_cases hi : i < 64
  · rw [not_bit ho hi]
  · rw [Nat.testBit_lt_two_pow (Nat.lt_of_lt_of_le ha (Nat.pow_le_pow_right (by omega) (by omega)))]; rfl
theorem one_opp {n c v d u : Nat} (hn : n ≤ 6) (hc : c < 2 ^ n) (h : cnt (opp c v d u) = 1) : ∃ i0, i0 < n ∧ c.testBit i0 = true ∧ d.testBit i0 = true ∧ v.testBit i0 = !u.testBit i0 ∧ ∀ i, i ≠ i0 → (opp c v d u).testBit i = false := by
  have hx := opp_lt (v := v) (d := d) (u := u) hc
  rw [← cnt_pts hn hx, List.length_eq_one_iff] at h
  obtain ⟨i, h⟩ := h
  obtain ⟨h1, h2⟩ := one_bit hx h
  have hb : (opp c v d u).testBit i = true := by rw [h1]; simp
  have hb2 := hb
  rw [opp_bit, Bool.and_eq_true, Bool.and_eq_true] at hb2
  refine ⟨i, h2, hb2.1.1, hb2.1.2, ?_, fun j hj => ?_⟩
  · have := hb2.2
    cases h3 : v.testBit i <;> cases h4 : u.testBit i <;> simp_all
  · rw [h1, Nat.testBit_two_pow]; simp; omega

def consC (c v d u : Nat) : Nat := (c ||| d) &&& (18446744073709551615 - opp c v d u)
def consU (c v d u : Nat) : Nat := (v ||| u) &&& (18446744073709551615 - opp c v d u)
theorem consC_bit {n c v d u : Nat} (hn : n ≤ 6) (hc : c < 2 ^ n) (hd : d < 2 ^ n) (_ : Sub v c) (_ : Sub u d) (i : Nat) : (consC c v d u).testBit i = ((c.testBit i || d.testBit i) && !(opp c v d u).testBit i) := by
  unfold consC
  rw [cons_bit (w64 hn (Nat.or_lt_two_pow hc hd)) (w64 hn (opp_lt hc)), Nat.testBit_or]
theorem consC_lt {n c v d u : Nat} (hc : c < 2 ^ n) (hd : d < 2 ^ n) : consC c v d u < 2 ^ n := Nat.lt_of_le_of_lt Nat.and_le_left (Nat.or_lt_two_pow hc hd)
section
variable {n c v d u : Nat} (hn : n ≤ 6) (hc : c < 2 ^ n) (hd : d < 2 ^ n) (hs : Sub v c) (ht : Sub u d)
include hn hc hd hs ht
theorem consU_bit (i : Nat) : (consU c v d u).testBit i = ((v.testBit i || u.testBit i) && !(opp c v d u).testBit i) := by
  unfold consU
  rw [cons_bit (w64 hn (Nat.or_lt_two_pow (hs.lt hc) (ht.lt hd))) (w64 hn (opp_lt hc)), Nat.testBit_or]
theorem cons_sub : Sub (consU c v d u) (consC c v d u) := fun i hi => by
  rw [consU_bit hn hc hd hs ht, Bool.and_eq_true, Bool.or_eq_true] at hi
  rw [consC_bit hn hc hd hs ht, Bool.and_eq_true, Bool.or_eq_true]
  refine ⟨?_, hi.2⟩
  rcases hi.1 with h | h
  · exact .inl (hs i h)
  · exact .inr (ht i h)
theorem cons_in {k : Nat} : inn (consC c v d u) (consU c v d u) k = true ↔ ∀ i, (c.testBit i = true ∨ d.testBit i = true) → (opp c v d u).testBit i = false → k.testBit i = (v ||| u).testBit i := by
  rw [inn_iff (cons_sub hn hc hd hs ht)]
  constructor
  · intro h i hi ho
    have h1 := h i (by rw [consC_bit hn hc hd hs ht, ho, Bool.and_eq_true, Bool.or_eq_true]; exact ⟨hi, rfl⟩)
    rw [h1, consU_bit hn hc hd hs ht, ho, Nat.testBit_or]; simp
  · intro h i hi
    rw [consC_bit hn hc hd hs ht, Bool.and_eq_true, Bool.or_eq_true] at hi
    have ho : (opp c v d u).testBit i = false := by simpa using hi.2
    rw [h i hi.1 ho, consU_bit hn hc hd hs ht, ho, Nat.testBit_or]; simp
theorem cons_under (h : cnt (opp c v d u) = 1) : tab n (consC c v d u) (consU c v d u) &&& (18446744073709551615 - (tab n c v ||| tab n d u)) = 0 := by
  rw [sub_iff (Tt.w64 hn (tab_lt n _ _)) (Nat.or_lt_two_pow (Tt.w64 hn (tab_lt n c v)) (Tt.w64 hn (tab_lt n d u)))]
  intro k hk
  rw [tab_bit, Bool.and_eq_true, decide_eq_true_iff] at hk
  obtain ⟨hkn, hz⟩ := hk
  rw [Nat.testBit_or, tab_in hkn, tab_in hkn, Bool.or_eq_true, inn_iff hs, inn_iff ht]
  rw [cons_in hn hc hd hs ht] at hz
  obtain ⟨j, hj, hcj, hdj, hvu, hoj⟩ := one_opp hn hc h
  by_cases hkj : k.testBit j = v.testBit j
  · refine .inl fun i hi => ?_
    by_cases e : i = j
    · rw [e]; exact hkj
    · rw [hz i (.inl hi) (hoj i e), join_left ht (hoj i e) hi]
  · refine .inr fun i hi => ?_
    by_cases e : i = j
    · rw [e]
      rw [hvu] at hkj
      cases h1 : k.testBit j <;> cases h2 : u.testBit j <;> simp_all
    · rw [hz i (.inr hi) (hoj i e), join_right hs (hoj i e) hi]
theorem cons_left (h : cnt (opp c v d u) = 1) : tab n (consC c v d u) (consU c v d u) &&& tab n c v ≠ 0 := by
  obtain ⟨j, hj, hcj, hdj, hvu, hoj⟩ := one_opp hn hc h
  have hk : (v ||| (u &&& (18446744073709551615 - opp c v d u))) < 2 ^ n := Nat.or_lt_two_pow (hs.lt hc) (Nat.lt_of_le_of_lt Nat.and_le_left (ht.lt hd))
  have hb : ∀ i, (v ||| (u &&& (18446744073709551615 - opp c v d u))).testBit i = (v.testBit i || (u.testBit i && !(opp c v d u).testBit i)) := fun i => by
    rw [Nat.testBit_or, cons_bit (w64 hn (ht.lt hd)) (w64 hn (opp_lt hc))]
  refine tab_ne.2 ⟨_, hk, (cons_in hn hc hd hs ht).2 fun i hi ho => ?_, ?_⟩
  · rw [hb, ho, Nat.testBit_or]; simp
  · rw [tab_in hk, inn_iff hs]
    intro i hi
    by_cases e : i = j
    · have ho : (opp c v d u).testBit j = true := by
        rw [opp_bit, hcj, hdj, hvu]; cases u.testBit j <;> rfl
      rw [hb, e, ho]; simp
    · rw [← join_left ht (hoj i e) hi, hb, hoj i e, Nat.testBit_or]; simp
theorem cons_right (h : cnt (opp c v d u) = 1) : tab n (consC c v d u) (consU c v d u) &&& tab n d u ≠ 0 := by
  obtain ⟨j, hj, hcj, hdj, hvu, hoj⟩ := one_opp hn hc h
  have hk : ((v &&& (18446744073709551615 - opp c v d u)) ||| u) < 2 ^ n := Nat.or_lt_two_pow (Nat.lt_of_le_of_lt Nat.and_le_left (hs.lt hc)) (ht.lt hd)
  have hb : ∀ i, ((v &&& (18446744073709551615 - opp c v d u)) ||| u).testBit i = ((v.testBit i && !(opp c v d u).testBit i) || u.testBit i) := fun i => by
    rw [Nat.testBit_or, cons_bit (w64 hn (hs.lt hc)) (w64 hn (opp_lt hc))]
  refine tab_ne.2 ⟨_, hk, (cons_in hn hc hd hs ht).2 fun i hi ho => ?_, ?_⟩
  · rw [hb, ho, Nat.testBit_or]; simp
  · rw [tab_in hk, inn_iff ht]
    intro i hi
    by_cases e : i = j
    · have ho : (opp c v d u).testBit j = true := by
        rw [opp_bit, hcj, hdj, hvu]; cases u.testBit j <;> rfl
      rw [hb, e, ho]; simp
    · rw [← join_right hs (hoj i e) hi, hb, hoj i e, Nat.testBit_or]; simp
end
end Ic

