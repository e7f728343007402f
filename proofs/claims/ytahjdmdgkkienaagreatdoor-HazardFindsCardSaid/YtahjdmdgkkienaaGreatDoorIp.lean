/- Cubes as numbers: plain facts, of no program. -/
import Derived.Test.YtahjdmdgkkienaaGreatDoorUk
namespace Ic
open Tt (pts)

theorem not_bit {c i : Nat} (hc : c < 2 ^ 64) (hi : i < 64) : (18446744073709551615 - c).testBit i = !c.testBit i := by
  rw [show (18446744073709551615 : Nat) - c = 2 ^ 64 - (c + 1) by omega, Nat.testBit_two_pow_sub_succ (by omega)]; simp [hi]
theorem bit_lt {c i m : Nat} (hc : c < 2 ^ m) (h : c.testBit i = true) : i < m := by
  apply Nat.lt_of_not_le
  intro hle
  rw [Nat.testBit_lt_two_pow (Nat.lt_of_lt_of_le hc (Nat.pow_le_pow_right (by omega) hle))] at h
  cases h
/-- Has one number the bits of another alone? -/
def Sub (v c : Nat) : Prop := ∀ i, v.testBit i = true → c.testBit i = true
theorem sub_iff {v c : Nat} (hv : v < 2 ^ 64) (hc : c < 2 ^ 64) : v &&& (18446744073709551615 - c) = 0 ↔ Sub v c := by
  constructor
  · intro h i hi
    have h64 := bit_lt hv hi
    have h2 : (v &&& (18446744073709551615 - c)).testBit i = false := by rw [h, Nat.zero_testBit]
    rw [Nat.testBit_and, hi, not_bit hc h64] at h2
    simpa using h2
  · intro h
    apply Nat.eq_of_testBit_eq
    intro i
    rw [Nat.testBit_and, Nat.zero_testBit]
    cases hb : v.testBit i
    · simp
    · rw [not_bit hc (bit_lt hv hb), h i hb]; simp
theorem Sub.lt {v c m : Nat} (h : Sub v c) (hc : c < 2 ^ m) : v < 2 ^ m := by
  refine Nat.lt_pow_two_of_testBit _ fun i hi => ?_
  cases hb : v.testBit i
  · rfl
  · have := bit_lt hc (h i hb); omega
/-- What Check returns. -/
def chk (n : Int) (c v : Nat) : Int := if n < 0 ∨ 6 < n then 2 else if 2 ^ n.toNat ≤ c ∨ v &&& (18446744073709551615 - c) ≠ 0 then 3 else 0
theorem chk_zero {n : Int} {c v : Nat} (hv : v < 2 ^ 64) : chk n c v = 0 ↔ 0 ≤ n ∧ n ≤ 6 ∧ c < 2 ^ n.toNat ∧ Sub v c := by
  unfold chk
  by_cases h1 : n < 0 ∨ 6 < n
  · rw [if_pos h1]; simp; omega
  · rw [if_neg h1]
    have hn : n.toNat ≤ 6 := by omega
    by_cases hc : c < 2 ^ n.toNat
    · have h64 : c < 2 ^ 64 := Nat.lt_of_lt_of_le hc (Nat.pow_le_pow_right (by omega) (by omega))
      rw [← sub_iff hv h64]
      by_cases h2 : v &&& (18446744073709551615 - c) = 0
      · rw [if_neg (by simp only [h2, ne_eq, not_true, or_false]; omega)]; simp [h2, hc]; omega
      · rw [if_pos (Or.inr h2)]; simp [h2]
    · rw [if_pos (Or.inl (by omega))]; simp [hc]
theorem chk_nat {n : Int} {c v : Nat} (hv : v < 2 ^ 64) (h : chk n c v = 0) : ∃ m : Nat, n = m ∧ m ≤ 6 ∧ c < 2 ^ m ∧ Sub v c := by
  obtain ⟨h0, h6, hc, hs⟩ := (chk_zero hv).1 h
  obtain ⟨m, rfl⟩ := Int.eq_ofNat_of_zero_le h0
  exact ⟨m, rfl, by omega, by simpa using hc, hs⟩
theorem p64 {m c : Nat} (hm : m ≤ 6) (h : c < 2 ^ m) : c < 64 := Nat.lt_of_lt_of_le h (Nat.pow_le_pow_right (n := 2) (by omega) hm)
theorem w64 {m c : Nat} (hm : m ≤ 6) (h : c < 2 ^ m) : c < 2 ^ 64 := Nat.lt_of_lt_of_le h (Nat.pow_le_pow_right (n := 2) (by omega) (by omega))
theorem chk_of {m c v : Nat} (hm : m ≤ 6) (hc : c < 2 ^ m) (hs : Sub v c) : chk m c v = 0 := (chk_zero (w64 hm (hs.lt hc))).2 ⟨by omega, by omega, by simpa using hc, hs⟩
/-- Is a point in a cube? -/
def inn (c v k : Nat) : Bool := k &&& c == v
theorem inn_iff {c v k : Nat} (hs : Sub v c) : inn c v k = true ↔ ∀ i, c.testBit i = true → k.testBit i = v.testBit i := by
  unfold inn
  rw [beq_iff_eq]
  constructor
  · rintro rfl i hi
    rw [Nat.testBit_and, hi, Bool.and_true]
  · intro h
    apply Nat.eq_of_testBit_eq
    intro i
    rw [Nat.testBit_and]
    cases hc : c.testBit i
    · cases hv : v.testBit i
      · simp
      · rw [hs i hv] at hc; cases hc
    · rw [h i hc, Bool.and_true]
/-- The bits of the variables for which two cubes ask for both values. -/
def opp (c v d u : Nat) : Nat := c &&& d &&& (v ^^^ u)
theorem opp_bit (c v d u i : Nat) : (opp c v d u).testBit i = (c.testBit i && d.testBit i && (v.testBit i != u.testBit i)) := by
  unfold opp
  rw [Nat.testBit_and, Nat.testBit_and, Nat.testBit_xor]
theorem opp_zero {c v d u : Nat} : opp c v d u = 0 ↔ ∀ i, c.testBit i = true → d.testBit i = true → v.testBit i = u.testBit i := by
  constructor
  · intro h i h1 h2
    have h3 : (opp c v d u).testBit i = false := by rw [h, Nat.zero_testBit]
    rw [opp_bit, h1, h2] at h3
    simpa using h3
  · intro h
    apply Nat.eq_of_testBit_eq
    intro i
    rw [opp_bit, Nat.zero_testBit]
    cases h1 : c.testBit i
    · simp
    · cases h2 : d.testBit i
      · simp
      · rw [h i h1 h2]; simp
theorem opp_lt {c v d u m : Nat} (hc : c < 2 ^ m) : opp c v d u < 2 ^ m := Nat.lt_of_le_of_lt (Nat.le_trans Nat.and_le_left Nat.and_le_left) hc
theorem or_left {a b : Nat} : a ||| b = a ↔ Sub b a := by
  constructor
  · intro h i hi
    rw [← h, Nat.testBit_or, hi, Bool.or_true]
  · intro h
    apply Nat.eq_of_testBit_eq
    intro i
    rw [Nat.testBit_or]
    cases hb : b.testBit i
    · simp
    · rw [h i hb]; simp
theorem sub_or {a b c d : Nat} (h1 : Sub a c) (h2 : Sub b d) : Sub (a ||| b) (c ||| d) := fun i hi => by
  rw [Nat.testBit_or] at *
  cases ha : a.testBit i
  · rw [ha, Bool.false_or] at hi; rw [h2 i hi, Bool.or_true]
  · rw [h1 i ha, Bool.true_or]
/-- Is a cube inside another one, as the program asks it? -/
def insB (c v d u : Nat) : Bool := opp c v d u == 0 && (c ||| d == c && v ||| u == v)
/-- .. and as the points say. -/
def within (n c v d u : Nat) : Bool := (List.range (2 ^ n)).all fun k => !inn c v k || inn d u k
theorem within_ins {n c v d u : Nat} (hc : c < 2 ^ n) (hd : d < 2 ^ n) (hv : Sub v c) (hu : Sub u d) : within n c v d u = insB c v d u := by
  rw [Bool.eq_iff_iff]
  unfold within insB
  rw [List.all_eq_true, Bool.and_eq_true, Bool.and_eq_true, beq_iff_eq, beq_iff_eq, beq_iff_eq, or_left, or_left]
  constructor
  · intro h
    have H : ∀ k, k < 2 ^ n → inn c v k = true → inn d u k = true := fun k hk h1 => by
      have := h k (List.mem_range.2 hk)
      rw [h1] at this
      simpa using this
    have h0 := (inn_iff hu).1 (H v (hv.lt hc) ((inn_iff hv).2 fun _ _ => rfl))
    refine ⟨opp_zero.2 fun i _ h2 => h0 i h2, ?_, ?_⟩
    · intro i hi
      cases hci : c.testBit i
      · have hin := bit_lt hd hi
        have h1 := (inn_iff hu).1 (H (v ||| 2 ^ i) (Nat.or_lt_two_pow (hv.lt hc) (Nat.pow_lt_pow_right (by omega) hin)) ((inn_iff hv).2 fun j hj => by
          rw [Nat.testBit_or, Nat.testBit_two_pow]
          by_cases hij : i = j
          · subst hij; rw [hci] at hj; cases hj
          · simp [hij])) i hi
        rw [Nat.testBit_or, Nat.testBit_two_pow, ← h0 i hi] at h1
        simp at h1
        rw [hv i h1] at hci; cases hci
      · rfl
    · intro i hi
      rw [h0 i (hu i hi)]; exact hi
  · rintro ⟨h1, h2, _⟩ k hk
    cases hin : inn c v k
    · rfl
    · rw [Bool.not_true, Bool.false_or]
      refine (inn_iff hu).2 fun i hi => ?_
      rw [(inn_iff hv).1 hin i (h2 i hi)]
      exact opp_zero.1 h1 i (h2 i hi) hi
theorem within_zero (p : Nat → Bool) : (List.range 0).all p = true := rfl
theorem all_succ (p : Nat → Bool) (m : Nat) : (List.range (m + 1)).all p = ((List.range m).all p && p m) := by
  rw [List.range_succ, List.all_append]; simp
theorem all_bad {p : Nat → Bool} {m N : Nat} (hm : m < N) (h : p m = false) : (List.range N).all p = false := by
  rw [Bool.eq_false_iff]
  intro h2
  rw [List.all_eq_true] at h2
  rw [h2 m (List.mem_range.2 hm)] at h; cases h
/-- The number of bits. -/
def cnt (x : Nat) : Nat := (pts (fun i => x.testBit i) 6).length
theorem pts_cut {p : Nat → Bool} {n m : Nat} (hnm : n ≤ m) (h : ∀ k, n ≤ k → p k = false) : pts p m = pts p n := by
  obtain ⟨d, rfl⟩ : ∃ d, m = n + d := ⟨m - n, by omega⟩
  clear hnm
  induction d with
  | zero => rfl
  | succ d ih =>
    rw [← Nat.add_assoc, Tt.pts_succ, if_neg (by rw [h (n + d) (by omega)]; simp)]
    exact ih
theorem cnt_pts {n x : Nat} (hn : n ≤ 6) (hx : x < 2 ^ n) : (pts (fun i => x.testBit i) n).length = cnt x := by
  unfold cnt
  rw [pts_cut hn fun k hk => Nat.testBit_lt_two_pow (Nat.lt_of_lt_of_le hx (Nat.pow_le_pow_right (by omega) hk))]
theorem mem_pts {p : Nat → Bool} {m k : Nat} : k ∈ pts p m ↔ k < m ∧ p k = true := by
  unfold pts
  rw [List.mem_filter, List.mem_range]
theorem cnt_zero {x : Nat} (hx : x < 64) : cnt x = 0 ↔ x = 0 := by
  unfold cnt
  rw [List.length_eq_zero_iff]
  constructor
  · intro h
    apply Nat.eq_of_testBit_eq
    intro i
    rw [Nat.zero_testBit]
    cases hb : x.testBit i
    · rfl
    · have := (mem_pts (p := fun i => x.testBit i) (m := 6) (k := i)).2 ⟨bit_lt (m := 6) (by omega) hb, hb⟩
      rw [h] at this; cases this
  · rintro rfl
    unfold pts
    simp
/-- A number without some bits. -/
def clr (x : Nat) (l : List Nat) : Nat := l.foldl (fun x i => x &&& (18446744073709551615 - 2 ^ i)) x
theorem one_bit {n x i : Nat} (hx : x < 2 ^ n) (h : pts (fun i => x.testBit i) n = [i]) : x = 2 ^ i ∧ i < n := by
  have hm : i ∈ pts (fun i => x.testBit i) n := by rw [h]; simp
  have hi := mem_pts.1 hm
  refine ⟨?_, hi.1⟩
  apply Nat.eq_of_testBit_eq
  intro j
  rw [Nat.testBit_two_pow]
  by_cases hij : i = j
  · subst hij; simp [hi.2]
  · simp only [hij, decide_false]
    cases hb : x.testBit j
    · rfl
    · have := mem_pts (p := fun i => x.testBit i).2 ⟨bit_lt hx hb, hb⟩
      rw [h] at this
      simp at this
      omega
theorem clr_one {n c v d u x : Nat} (hn : n ≤ 6) (hc : c < 2 ^ n) (h : cnt (opp c v d u) = 1) : clr x (pts (fun i => (opp c v d u).testBit i) n) = x &&& (18446744073709551615 - opp c v d u) := by
  have hx := opp_lt (v := v) (d := d) (u := u) hc
  rw [← cnt_pts hn hx, List.length_eq_one_iff] at h
  obtain ⟨i, h⟩ := h
  rw [h, clr, List.foldl_cons, List.foldl_nil, ← (one_bit hx h).1]
/-- What functions with two cubes check. -/
def chk2 (n : Int) (c v d u : Nat) : Int := if chk n c v ≠ 0 then chk n c v else chk n d u
theorem chk2_zero {n : Int} {c v d u : Nat} : chk2 n c v d u = 0 ↔ chk n c v = 0 ∧ chk n d u = 0 := by
  unfold chk2
  by_cases h : chk n c v = 0 <;> simp [h]
def insV (n : Int) (c v d u : Nat) : Bool × Int := if chk2 n c v d u = 0 then (insB c v d u, 0) else (false, chk2 n c v d u)
def meetV (n : Int) (c v d u : Nat) : ((Nat × Nat) × Bool) × Int :=
  if chk2 n c v d u = 0 then (if opp c v d u = 0 then ((c ||| d, v ||| u), true) else ((0, 0), false), 0) else (((0, 0), false), chk2 n c v d u)
def consV (n : Int) (c v d u : Nat) : ((Nat × Nat) × Bool) × Int :=
  if chk2 n c v d u = 0 then (if cnt (opp c v d u) = 1 then (((c ||| d) &&& (18446744073709551615 - opp c v d u), (v ||| u) &&& (18446744073709551615 - opp c v d u)), true) else ((0, 0), false), 0) else (((0, 0), false), chk2 n c v d u)
end Ic

