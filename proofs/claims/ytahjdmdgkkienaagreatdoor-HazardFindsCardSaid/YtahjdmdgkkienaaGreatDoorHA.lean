/- Forms and what they have while variables change: plain facts, of no program. Lists of cubes: their errors, on both sides. The number of literals of a form, and whether it is right: Literals of package minimal, Check of package hazard. The function of a form: table of package hazard. Forms of the reference: Cubes, Check, FewCubes; right of the law. -/
import Derived.Test.YtahjdmdgkkienaaGreatDoorIp
import Derived.Test.YtahjdmdgkkienaaGreatDoorIv
import Derived.Test.YtahjdmdgkkienaaGreatDoorIx
namespace Hz
open Tt (pts)
open Ic (inn Sub)

/-- The error of the first wrong cube. -/
def fst (n : Int) : List (Nat × Nat) → Int
  | [] => 0
  | p :: l => if Ic.chk n p.1 p.2 = 0 then fst n l else Ic.chk n p.1 p.2
/-- What a list of cubes has as its error. -/
def cub (n : Int) (l : List (Nat × Nat)) : Int := if 256 < l.length then 5 else fst n l
/-- What Check returns. -/
def chk (n : Int) (l : List (Nat × Nat)) : Int := if n < 0 ∨ 6 < n then 2 else cub n l
theorem fst_zero {n : Int} : ∀ {l : List (Nat × Nat)}, fst n l = 0 ↔ ∀ p ∈ l, Ic.chk n p.1 p.2 = 0
  | [] => by simp [fst]
  | p :: l => by
    unfold fst
    by_cases h : Ic.chk n p.1 p.2 = 0
    · rw [if_pos h, fst_zero]; simp [h]
    · rw [if_neg h]; simp [h]
/-- Right cubes. -/
def Ok (n : Nat) (l : List (Nat × Nat)) : Prop := ∀ p ∈ l, p.1 < 2 ^ n ∧ Sub p.2 p.1
theorem Ok.tl {n : Nat} {p : Nat × Nat} {l : List (Nat × Nat)} (h : Ok n (p :: l)) : Ok n l := fun q hq => h q (List.mem_cons_of_mem _ hq)
theorem Ok.hd {n : Nat} {p : Nat × Nat} {l : List (Nat × Nat)} (h : Ok n (p :: l)) : p.1 < 2 ^ n ∧ Sub p.2 p.1 := h p List.mem_cons_self
theorem chk_ok {n : Int} {l : List (Nat × Nat)} (hv : ∀ p ∈ l, p.2 < 2 ^ 64) (h : chk n l = 0) : ∃ m : Nat, n = m ∧ m ≤ 6 ∧ l.length ≤ 256 ∧ Ok m l := by
  unfold chk cub at h
  by_cases h1 : n < 0 ∨ 6 < n
  · rw [if_pos h1] at h; cases h
  · rw [if_neg h1] at h
    by_cases h2 : 256 < l.length
    · rw [if_pos h2] at h; cases h
    · rw [if_neg h2, fst_zero] at h
      obtain ⟨m, rfl⟩ := Int.eq_ofNat_of_zero_le (show 0 ≤ n by omega)
      refine ⟨m, rfl, by omega, by omega, fun p hp => ?_⟩
      obtain ⟨_, _, a, b⟩ := (Ic.chk_zero (hv p hp)).1 (h p hp)
      exact ⟨by simpa using a, b⟩
theorem ok_chk {n : Nat} {l : List (Nat × Nat)} (hn : n ≤ 6) (hl : l.length ≤ 256) (h : Ok n l) : chk n l = 0 := by
  unfold chk cub
  rw [if_neg (by omega), if_neg (by omega), fst_zero]
  exact fun p hp => Ic.chk_of hn (h p hp).1 (h p hp).2

/-- Is a point in one of some cubes? -/
def cv (l : List (Nat × Nat)) (k : Nat) : Bool := l.any fun p => inn p.1 p.2 k
/-- The function of a form. -/
def made (n : Nat) (l : List (Nat × Nat)) : Nat := Tt.mk n (cv l)
theorem made_bit {n : Nat} {l : List (Nat × Nat)} {k : Nat} (hk : k < 2 ^ n) : (made n l).testBit k = cv l k := by
  unfold made; rw [Tt.mk_bit]; simp [hk]
theorem made_lt (n : Nat) (l : List (Nat × Nat)) : made n l < 2 ^ 2 ^ n := Tt.mk_lt _ _
theorem made_nil (n : Nat) : made n [] = 0 := by
  refine Tt.same (n := n) (made_lt _ _) (Nat.pow_pos (by omega)) fun k hk => ?_
  rw [made_bit hk]; simp [cv]
theorem made_snoc (n : Nat) (l : List (Nat × Nat)) (p : Nat × Nat) : made n (l ++ [p]) = made n l ||| Tt.mk n (inn p.1 p.2) := by
  refine Tt.same (n := n) (made_lt _ _) (Nat.or_lt_two_pow (made_lt _ _) (Tt.mk_lt _ _)) fun k hk => ?_
  rw [Nat.testBit_or, made_bit hk, made_bit hk, Tt.mk_bit]
  simp [hk, cv]

/-! What a form has while variables change, as the program says it. -/
def both : Nat → Nat → Nat
  | 0, _ => 0
  | _, 0 => 0
  | 1, 1 => 1
  | _, _ => 2
def either : Nat → Nat → Nat
  | 1, _ => 1
  | _, 1 => 1
  | 0, 0 => 0
  | _, _ => 2
def lit (v a b i : Nat) : Nat := if a.testBit i = b.testBit i then (if a.testBit i = v.testBit i then 1 else 0) else 2
def pr (c v a b : Nat) : Nat → Nat
  | 0 => 1
  | i + 1 => if c.testBit i then both (pr c v a b i) (lit v a b i) else pr c v a b i
def sm (n a b : Nat) (l : List (Nat × Nat)) : Nat := l.foldl (fun s p => either s (pr p.1 p.2 a b n)) 0
theorem lit_le (v a b i : Nat) : lit v a b i ≤ 2 := by unfold lit; split <;> (try split) <;> omega
theorem both_le (x y : Nat) : both x y ≤ 2 := by unfold both; split <;> omega
theorem either_le (x y : Nat) : either x y ≤ 2 := by unfold either; split <;> omega
theorem pr_le (c v a b : Nat) : ∀ i, pr c v a b i ≤ 2
  | 0 => by unfold pr; omega
  | i + 1 => by unfold pr; split; exact both_le _ _; exact pr_le c v a b i
theorem sm_snoc (n a b : Nat) (l : List (Nat × Nat)) (p : Nat × Nat) : sm n a b (l ++ [p]) = either (sm n a b l) (pr p.1 p.2 a b n) := by
  unfold sm; rw [List.foldl_append]; rfl
theorem sm_le (n a b : Nat) (l : List (Nat × Nat)) : sm n a b l ≤ 2 := by
  rcases List.eq_nil_or_concat l with rfl | ⟨l, p, rfl⟩
  · unfold sm; simp
  · rw [List.concat_eq_append, sm_snoc]; exact either_le _ _
theorem both_zero {x y : Nat} : both x y = 0 ↔ x = 0 ∨ y = 0 := by
  unfold both; split <;> simp_all
theorem both_one {x y : Nat} : both x y = 1 ↔ x = 1 ∧ y = 1 := by
  unfold both; split <;> simp_all
theorem either_zero {x y : Nat} : either x y = 0 ↔ x = 0 ∧ y = 0 := by
  unfold either; split <;> simp_all
theorem either_one {x y : Nat} : either x y = 1 ↔ x = 1 ∨ y = 1 := by
  unfold either; split <;> simp_all
theorem lit_zero {v a b i : Nat} : lit v a b i = 0 ↔ a.testBit i = b.testBit i ∧ a.testBit i ≠ v.testBit i := by
  unfold lit; split <;> (try split) <;> simp_all
theorem lit_one {v a b i : Nat} : lit v a b i = 1 ↔ a.testBit i = b.testBit i ∧ a.testBit i = v.testBit i := by
  unfold lit; split <;> (try split) <;> simp_all
theorem pr_zero {c v a b : Nat} : ∀ {m : Nat}, pr c v a b m = 0 ↔ ∃ i, i < m ∧ c.testBit i = true ∧ a.testBit i = b.testBit i ∧ a.testBit i ≠ v.testBit i
  | 0 => by unfold pr; simp
  | m + 1 => by
    unfold pr
    cases hc : c.testBit m
    · simp only [Bool.false_eq_true, if_false]
      rw [pr_zero]
      constructor
      · rintro ⟨i, h, h'⟩; exact ⟨i, by omega, h'⟩
      · rintro ⟨i, h, h1, h'⟩
        refine ⟨i, ?_, h1, h'⟩
        have : i ≠ m := fun e => by rw [e, hc] at h1; cases h1
        omega
    · simp only [if_true]
      rw [both_zero, pr_zero, lit_zero]
      constructor
      · rintro (⟨i, h, h'⟩ | h)
        · exact ⟨i, by omega, h'⟩
        · exact ⟨m, by omega, hc, h⟩
      · rintro ⟨i, h, h1, h'⟩
        by_cases e : i = m
        · subst e; exact .inr h'
        · exact .inl ⟨i, by omega, h1, h'⟩
theorem pr_one {c v a b : Nat} : ∀ {m : Nat}, pr c v a b m = 1 ↔ ∀ i, i < m → c.testBit i = true → a.testBit i = b.testBit i ∧ a.testBit i = v.testBit i
  | 0 => by unfold pr; simp
  | m + 1 => by
    unfold pr
    cases hc : c.testBit m
    · simp only [Bool.false_eq_true, if_false]
      rw [pr_one]
      constructor
      · intro h i hi h1
        have : i ≠ m := fun e => by rw [e, hc] at h1; cases h1
        exact h i (by omega) h1
      · intro h i hi; exact h i (by omega)
    · simp only [if_true]
      rw [both_one, pr_one, lit_one]
      constructor
      · rintro ⟨h, h'⟩ i hi h1
        by_cases e : i = m
        · subst e; exact h'
        · exact h i (by omega) h1
      · intro h
        exact ⟨fun i hi => h i (by omega), h m (by omega) hc⟩
theorem fold_zero {n a b : Nat} : ∀ {l : List (Nat × Nat)} {s : Nat}, l.foldl (fun s p => either s (pr p.1 p.2 a b n)) s = 0 ↔ s = 0 ∧ ∀ p ∈ l, pr p.1 p.2 a b n = 0
  | [], s => by simp
  | p :: l, s => by rw [List.foldl_cons, fold_zero, either_zero]; simp [and_assoc]
theorem fold_one {n a b : Nat} : ∀ {l : List (Nat × Nat)} {s : Nat}, l.foldl (fun s p => either s (pr p.1 p.2 a b n)) s = 1 ↔ s = 1 ∨ ∃ p ∈ l, pr p.1 p.2 a b n = 1
  | [], s => by simp
  | p :: l, s => by rw [List.foldl_cons, fold_one, either_one]; simp [or_assoc]
theorem sm_zero {n a b : Nat} {l : List (Nat × Nat)} : sm n a b l = 0 ↔ ∀ p ∈ l, pr p.1 p.2 a b n = 0 := by
  unfold sm; rw [fold_zero]; simp
theorem sm_one {n a b : Nat} {l : List (Nat × Nat)} : sm n a b l = 1 ↔ ∃ p ∈ l, pr p.1 p.2 a b n = 1 := by
  unfold sm; rw [fold_one]; simp

/-! The points on the way. -/
def onB (n a b k : Nat) : Bool := (List.range n).all fun i => !(a.testBit i == b.testBit i) || k.testBit i == a.testBit i
def way (n a b : Nat) : List Nat := pts (onB n a b) (2 ^ n)
theorem onB_iff {n a b k : Nat} : onB n a b k = true ↔ ∀ i, i < n → a.testBit i = b.testBit i → k.testBit i = a.testBit i := by
  unfold onB
  rw [List.all_eq_true]
  constructor
  · intro h i hi e
    have := h i (List.mem_range.2 hi)
    rw [e] at this ⊢
    simpa using this
  · intro h i hi
    have := h i (List.mem_range.1 hi)
    cases h1 : a.testBit i <;> cases h2 : b.testBit i <;> simp_all
theorem way_mem {n a b k : Nat} : k ∈ way n a b ↔ k < 2 ^ n ∧ onB n a b k = true := by
  unfold way pts; rw [List.mem_filter, List.mem_range]
/-- The point on the way that a cube asks for. -/
def mid (a b v : Nat) : Nat := (a &&& (18446744073709551615 - (a ^^^ b))) ||| (v &&& (a ^^^ b))
theorem mid_bit {a b v i : Nat} (ha : a < 2 ^ 64) (hb : b < 2 ^ 64) : (mid a b v).testBit i = if a.testBit i = b.testBit i then a.testBit i else v.testBit i := by
  have hx : a ^^^ b < 2 ^ 64 := Nat.xor_lt_two_pow ha hb
  unfold mid
  rw [Nat.testBit_or, Nat.testBit_and, Nat.testBit_and, Nat.testBit_xor]
  by_cases hi : i < 64
  · rw [Ic.not_bit hx hi, Nat.testBit_xor]
    cases a.testBit i <;> cases b.testBit i <;> cases v.testBit i <;> rfl
  · have h1 : a.testBit i = false := Nat.testBit_lt_two_pow (Nat.lt_of_lt_of_le ha (Nat.pow_le_pow_right (by omega) (by omega)))
    have h2 : b.testBit i = false := Nat.testBit_lt_two_pow (Nat.lt_of_lt_of_le hb (Nat.pow_le_pow_right (by omega) (by omega)))
    rw [h1, h2]; simp
theorem mid_lt {n a b v : Nat} (hn : n ≤ 6) (ha : a < 2 ^ n) (hb : b < 2 ^ n) (_ : v < 2 ^ n) : mid a b v < 2 ^ n := by
  refine Nat.lt_pow_two_of_testBit _ fun i hi => ?_
  have f : ∀ x, x < 2 ^ n → x.testBit i = false := fun x hx => Nat.testBit_lt_two_pow (Nat.lt_of_lt_of_le hx (Nat.pow_le_pow_right (by omega) hi))
  rw [mid_bit (Ic.w64 hn ha) (Ic.w64 hn hb), f a ha, f b hb]; rfl
theorem mid_on {n a b v : Nat} (hn : n ≤ 6) (ha : a < 2 ^ n) (hb : b < 2 ^ n) : onB n a b (mid a b v) = true := by
  rw [onB_iff]
  intro i hi e
  rw [mid_bit (Ic.w64 hn ha) (Ic.w64 hn hb), if_pos e]
def al (W : List Nat) (p : Nat × Nat) : Bool := W.all (inn p.1 p.2)
def so (W : List Nat) (p : Nat × Nat) : Bool := W.any (inn p.1 p.2)
theorem pr_so {n a b c v : Nat} (hn : n ≤ 6) (ha : a < 2 ^ n) (hb : b < 2 ^ n) (hc : c < 2 ^ n) (hs : Sub v c) : pr c v a b n ≠ 0 ↔ so (way n a b) (c, v) = true := by
  unfold so
  rw [ne_eq, pr_zero, List.any_eq_true]
  constructor
  · intro h
    have hm := mid_lt hn ha hb (hs.lt hc)
    refine ⟨mid a b v, way_mem.2 ⟨hm, mid_on hn ha hb⟩, (Ic.inn_iff hs).2 fun i hi => ?_⟩
    rw [mid_bit (Ic.w64 hn ha) (Ic.w64 hn hb)]
    split
    · next e => exact Classical.byContradiction fun hne => h ⟨i, Ic.bit_lt hc hi, hi, e, hne⟩
    · rfl
  · rintro ⟨k, hk, hin⟩ ⟨i, hi, h1, h2, h3⟩
    have := onB_iff.1 (way_mem.1 hk).2 i hi h2
    exact h3 (this.symm.trans ((Ic.inn_iff hs).1 hin i h1))
theorem self_on (n a b : Nat) : onB n a b a = true := onB_iff.2 fun _ _ _ => rfl
theorem other_on (n a b : Nat) : onB n a b b = true := onB_iff.2 fun _ _ e => e.symm
theorem pr_al {n a b c v : Nat} (ha : a < 2 ^ n) (hb : b < 2 ^ n) (hc : c < 2 ^ n) (hs : Sub v c) : pr c v a b n = 1 ↔ al (way n a b) (c, v) = true := by
  unfold al
  rw [pr_one, List.all_eq_true]
  constructor
  · intro h k hk
    refine (Ic.inn_iff hs).2 fun i hi => ?_
    have hin := Ic.bit_lt hc hi
    obtain ⟨e1, e2⟩ := h i hin hi
    exact (onB_iff.1 (way_mem.1 hk).2 i hin e1).trans e2
  · intro h i hi h1
    have k1 := (Ic.inn_iff hs).1 (h a (way_mem.2 ⟨ha, self_on _ _ _⟩)) i h1
    have k2 := (Ic.inn_iff hs).1 (h b (way_mem.2 ⟨hb, other_on _ _ _⟩)) i h1
    exact ⟨k1.trans k2.symm, k1⟩
/-- What a form has, by the points on the way. -/
def st (W : List Nat) (l : List (Nat × Nat)) : Nat := if l.any (al W) then 1 else if l.any (so W) then 2 else 0
theorem sm_st {n a b : Nat} {l : List (Nat × Nat)} (hn : n ≤ 6) (ha : a < 2 ^ n) (hb : b < 2 ^ n) (hl : Ok n l) : sm n a b l = st (way n a b) l := by
  have h1 : sm n a b l = 1 ↔ l.any (al (way n a b)) = true := by
    rw [sm_one, List.any_eq_true]
    exact ⟨fun ⟨p, hp, h⟩ => ⟨p, hp, (pr_al ha hb (hl p hp).1 (hl p hp).2).1 h⟩, fun ⟨p, hp, h⟩ => ⟨p, hp, (pr_al ha hb (hl p hp).1 (hl p hp).2).2 h⟩⟩
  have h0 : sm n a b l = 0 ↔ l.any (so (way n a b)) = false := by
    rw [sm_zero, List.any_eq_false]
    refine forall_congr' fun p => forall_congr' fun hp => ?_
    rw [← pr_so hn ha hb (hl p hp).1 (hl p hp).2]; simp
  have hle := sm_le n a b l
  unfold st
  cases e1 : l.any (al (way n a b))
  · cases e0 : l.any (so (way n a b))
    · simp; exact h0.2 e0
    · have n1 : sm n a b l ≠ 1 := fun h => by rw [h1.1 h] at e1; cases e1
      have n0 : sm n a b l ≠ 0 := fun h => by rw [h0.1 h] at e0; cases e0
      simp; omega
  · simp; exact h1.2 e1
end Hz

namespace Hz
/-- The numbers of cubes are words. -/
def W64 (l : List (Nat × Nat)) : Prop := ∀ p ∈ l, p.1 < 2 ^ 64 ∧ p.2 < 2 ^ 64
theorem getD_mem {l : List (Nat × Nat)} {i : Nat} (h : i < l.length) : l.getD i (0, 0) ∈ l := by
  rw [List.getD_eq_getElem?_getD, List.getElem?_eq_getElem h]; exact List.getElem_mem h
theorem W64.at {l : List (Nat × Nat)} (h : W64 l) {i : Nat} (hi : i < l.length) : (l.getD i (0, 0)).1 < 2 ^ 64 ∧ (l.getD i (0, 0)).2 < 2 ^ 64 := h _ (getD_mem hi)
theorem drop_at {l : List (Nat × Nat)} {i : Nat} (h : i < l.length) : l.drop i = l.getD i (0, 0) :: l.drop (i + 1) := by
  rw [List.drop_eq_getElem_cons h, List.getD_eq_getElem?_getD, List.getElem?_eq_getElem h, Option.getD_some]
theorem take_at {l : List (Nat × Nat)} {i : Nat} (h : i < l.length) : l.take (i + 1) = l.take i ++ [l.getD i (0, 0)] := by
  rw [List.take_add_one, List.getElem?_eq_getElem h, Option.toList_some, List.getD_eq_getElem?_getD, List.getElem?_eq_getElem h, Option.getD_some]
theorem fst_on {n : Int} {l : List (Nat × Nat)} {i : Nat} (h : i < l.length) (h0 : fst n (l.drop i) = fst n l) (hc : Ic.chk n (l.getD i (0, 0)).1 (l.getD i (0, 0)).2 = 0) : fst n (l.drop (i + 1)) = fst n l := by
  rw [drop_at h, fst, if_pos hc] at h0; exact h0
theorem fst_off {n : Int} {l : List (Nat × Nat)} {i : Nat} (h : i < l.length) (h0 : fst n (l.drop i) = fst n l) (hc : Ic.chk n (l.getD i (0, 0)).1 (l.getD i (0, 0)).2 ≠ 0) : Ic.chk n (l.getD i (0, 0)).1 (l.getD i (0, 0)).2 = fst n l := by
  rw [drop_at h, fst, if_neg hc] at h0; exact h0
theorem fst_end {n : Int} {l : List (Nat × Nat)} (h0 : fst n (l.drop l.length) = fst n l) : fst n l = 0 := by
  rw [List.drop_length, fst] at h0; exact h0.symm
end Hz
namespace Go.Proofs.YtahjdmdgkkienaaGreatDoor
open Go.RowKit Go.Shelf

/-- Where the cubes of a form lie, if there are any. -/
def CellsO (w : World) (ao : Option Addr) (l : List (Nat × Nat)) : Prop :=
  0 < l.length → ∃ g off, ao = some ⟨g, off, none⟩ ∧ g < w.heap.size ∧ ∀ i, i < l.length → w.cell? ⟨g, off + i * 2, none⟩ = some (.int .u64 ((l.getD i (0, 0)).1 : Int)) ∧ w.cell? ⟨g, off + i * 2 + 1, none⟩ = some (.int .u64 ((l.getD i (0, 0)).2 : Int))
/-- A slice value reads as a list of cubes, wherever it begins. -/
def SeesO (w : World) (v : Value) (l : List (Nat × Nat)) : Prop := ∃ ao cap, v = .slice ao l.length cap ∧ l.length ≤ cap ∧ cap ≤ 9223372036854775807 ∧ CellsO w ao l
theorem SeesC.o {w : World} {v : Value} {l : List (Nat × Nat)} (h : SeesC w v l) : SeesO w v l := by
  rcases h with ⟨rfl, rfl⟩ | ⟨g, cap, rfl, h1, h2, h3, h4⟩
  · exact ⟨none, 0, rfl, Nat.le_refl _, by omega, fun h => by simp at h⟩
  · exact ⟨_, cap, rfl, h1, by unfold maxLen at h2; omega, fun _ => ⟨g, 0, rfl, h3, fun i hi => ⟨by rw [Nat.zero_add]; exact (h4 i hi).1, by rw [Nat.zero_add]; exact (h4 i hi).2⟩⟩⟩
theorem SeesO.step {w w' : World} {v : Value} {l : List (Nat × Nat)} (h : SeesO w v l) (hb : Below w.heap.size w w') : SeesO w' v l := by
  obtain ⟨ao, cap, rfl, h1, h2, h3⟩ := h
  refine ⟨ao, cap, rfl, h1, h2, fun hl => ?_⟩
  obtain ⟨g, off, rfl, hg, h4⟩ := h3 hl
  exact ⟨g, off, rfl, Nat.lt_of_lt_of_le hg hb.size, fun i hi => ⟨(hb.cell (p := ⟨g, off + i * 2, none⟩) hg).trans (h4 i hi).1, (hb.cell (p := ⟨g, off + i * 2 + 1, none⟩) hg).trans (h4 i hi).2⟩⟩
theorem SeesO.opened {w : World} {v : Value} {l : List (Nat × Nat)} (h : SeesO w v l) : ∃ ao cap, v = .slice ao l.length cap ∧ l.length ≤ cap ∧ cap ≤ 9223372036854775807 ∧ CellsO w ao l := h
theorem CellsO.at {w wr : World} {ao : Option Addr} {l : List (Nat × Nat)} (h : CellsO w ao l) (hb : Below w.heap.size w wr) {i : Nat} (hi : i < l.length) :
    ∃ g off, ao = some ⟨g, off, none⟩ ∧ g < w.heap.size ∧ wr.cell? ⟨g, off + i * 2, none⟩ = some (.int .u64 ((l.getD i (0, 0)).1 : Int)) ∧ wr.cell? ⟨g, off + i * 2 + 1, none⟩ = some (.int .u64 ((l.getD i (0, 0)).2 : Int)) := by
  obtain ⟨g, off, h1, h2, h3⟩ := h (by omega)
  exact ⟨g, off, h1, h2, (hb.cell (p := ⟨g, off + i * 2, none⟩) h2).trans (h3 i hi).1, (hb.cell (p := ⟨g, off + i * 2 + 1, none⟩) h2).trans (h3 i hi).2⟩

theorem below_box {w0 w w' : World} {o : Obj} (h : Below w0.heap.size w0 w) (hb : Below (w.alloc o).heap.size (w.alloc o) w') : Below w0.heap.size w0 w' :=
  (h.alloc h.size o).trans (hb.mono (by have := h.size; simp; omega))

set_option maxHeartbeats 4000000 in
set_option maxRecDepth 100000 in
theorem mCubes_any (n : Int) (l : List (Nat × Nat)) (v : Value) (w : World) (hw : Hz.W64 l) (hs : SeesO w v l) :
    Calls Tryz.prog 54 #[.int .i64 n, v] w fun e w' => e = .returned (.int .i64 (Hz.cub n l)) ∧ Below w.heap.size w w' := by
  obtain ⟨ao, cap, rfl, hcap1, hcap2, hcells⟩ := hs.opened
  have HC := Lib.hid hcells
  have CK := fun i (hi : i < l.length) W => Lib.hid (iCheck_any n (l.getD i (0, 0)).1 (l.getD i (0, 0)).2 W (hw.at hi).1 (hw.at hi).2)
  have HE := Lib.hid (fun i (hi : i < l.length) => And.intro (Hz.fst_on (n := n) hi) (Hz.fst_off (n := n) hi))
  have HZ := Lib.hid (Hz.fst_end (n := n) (l := l))
  have H0 := Lib.hid (show Hz.fst n (l.drop 0) = Hz.fst n l by simp)
  unfold Hz.cub
  clear hcells hs hw
  by_cases hlen : 256 < l.length
  · rw [if_pos hlen]
    clear HE HZ H0 CK HC
    go_enter Tryz.func54, Tryz.ntmps54
    go_wp2
    exact bodyPost_ret (by simp [results, Tryz.results54, go_sem]) rfl ⟨rfl, Below.refl _ _⟩
  · rw [if_neg hlen]
    generalize Hz.fst n l = r at *
    go_enter Tryz.func54, Tryz.ntmps54
    go_wp2
    go_loopw [13] (fun s13 wr => ∃ i : Nat, i ≤ l.length ∧ s13 = .int .i64 i ∧ Hz.fst n (l.drop i) = r ∧ Hid (Below w.heap.size w wr)) (fun s13 _ => l.length - (intOf s13).toNat)
    case atStart => exact ⟨0, Nat.zero_le _, rfl, H0.out, Lib.hid (Below.refl _ _)⟩
    case round =>
      obtain ⟨i, hi, rfl, hr, HB⟩ := hrel
      by_cases hil : i < l.length
      · obtain ⟨g, off, rfl, hg, c1, c2⟩ := HC.out.at HB.out hil
        have CKi := CK i hil
        obtain ⟨h1, h2⟩ := HE.out i hil
        have HR := Lib.hid (fun hc => h1 hr hc)
        have HR2 := Lib.hid (fun hc => h2 hr hc)
        clear h1 h2 CK
        generalize l.getD i (0, 0) = y at *
        cases hck : decide (Ic.chk n y.1 y.2 = 0)
        · have hck := of_decide_eq_false hck
          have HR3 := Lib.hid (HR2.out hck)
          have hne : (Ic.chk n y.1 y.2 != 0) = true := by simp [hck]
          clear hck HR HR2
          generalize Ic.chk n y.1 y.2 = k at *
          go_wp2_with (go_at_call 53; refine ((CKi _).out).mono ?_; rintro e w3 ⟨rfl, hb⟩; have HB3 := Lib.hid (below_box HB.out hb); clear hb)
          exact bodyPost_ret (by simp [results, Tryz.results54, go_sem]) rfl ⟨congrArg (fun z => Ending.returned (.int .i64 z)) HR3.out, HB3.out⟩
        · have hck := of_decide_eq_true hck
          have HR3 := Lib.hid (HR.out hck)
          rw [hck] at CKi
          clear hck HR HR2
          go_wp2_with (go_at_call 53; refine ((CKi _).out).mono ?_; rintro e w3 ⟨rfl, hb⟩; have HB3 := Lib.hid (below_box HB.out hb); clear hb)
          exact ⟨⟨i + 1, by omega, rfl, HR3.out, HB3⟩, by simp [intOf]; omega⟩
      · obtain rfl : i = l.length := by omega
        have HR := Lib.hid (HZ.out)
        rw [List.drop_length] at hr
        obtain rfl : (0 : Int) = r := hr
        clear HR HZ HE CK
        go_wp2
        exact bodyPost_ret (by simp [results, Tryz.results54, go_sem]) rfl ⟨rfl, HB.out⟩
end Go.Proofs.YtahjdmdgkkienaaGreatDoor

namespace Hz
/-- The number of literals. -/
def lits (l : List (Nat × Nat)) : Nat := l.foldl (fun s p => s + Ic.cnt p.1) 0
theorem lits_snoc (l : List (Nat × Nat)) (p : Nat × Nat) : lits (l ++ [p]) = lits l + Ic.cnt p.1 := by simp [lits, List.foldl_append]
theorem lits_at {l : List (Nat × Nat)} {i : Nat} (h : i < l.length) : lits (l.take (i + 1)) = lits (l.take i) + Ic.cnt (l.getD i (0, 0)).1 := by
  rw [take_at h, lits_snoc]
theorem cnt_le (x : Nat) : Ic.cnt x ≤ 6 := Tt.pts_len _ _
theorem lits_le : ∀ (l : List (Nat × Nat)) (i : Nat), i ≤ l.length → lits (l.take i) ≤ 6 * i
  | l, 0, _ => by simp [lits]
  | l, i + 1, h => by
    have := lits_le l i (by omega)
    have := cnt_le (l.getD i (0, 0)).1
    rw [lits_at (by omega)]; omega
theorem chk0 (n : Int) : Ic.chk n 0 0 = if n < 0 ∨ 6 < n then 2 else 0 := by
  unfold Ic.chk
  by_cases h : n < 0 ∨ 6 < n
  · rw [if_pos h, if_pos h]
  · rw [if_neg h, if_neg h, if_neg]
    simp
end Hz
namespace Go.Proofs.YtahjdmdgkkienaaGreatDoor
open Go.RowKit Go.Shelf

/-- What Literals returns. -/
def litV (n : Int) (l : List (Nat × Nat)) : Nat × Int := if Hz.chk n l = 0 then (Hz.lits l, 0) else (0, Hz.chk n l)

set_option maxHeartbeats 4000000 in
set_option maxRecDepth 100000 in
theorem mLits_any (n : Int) (l : List (Nat × Nat)) (v : Value) (w : World) (hw : Hz.W64 l) (hs : SeesO w v l) :
    Calls Tryz.prog 30 #[.int .i64 n, v] w fun e w' => e = .returned (.tuple #[.int .i64 ((litV n l).1 : Nat), .int .i64 (litV n l).2]) ∧ Below w.heap.size w w' := by
  have CK : ∀ W, Hid (Calls Tryz.prog 53 #[.int .i64 n, .agg #[.int .u64 0, .int .u64 0]] W fun e w' => e = .returned (.int .i64 (Ic.chk n 0 0)) ∧ Below W.heap.size W w') := fun W => Lib.hid (iCheck_any n 0 0 W (by omega) (by omega))
  have CC := fun W (h : SeesO W v l) => Lib.hid (mCubes_any n l v W hw h)
  rw [Hz.chk0] at CK
  have HS := Lib.hid hs
  by_cases hn : n < 0 ∨ 6 < n
  · have hv : litV n l = (0, 2) := by unfold litV Hz.chk; rw [if_pos hn, if_neg (by omega)]
    rw [hv]
    rw [if_pos hn] at CK
    clear hn hv hs hw CC
    go_enter Tryz.func30, Tryz.ntmps30
    go_wp2_with (go_at_call 53; (with_reducible refine ((CK _).out).mono ?_); rintro e w1 ⟨rfl, hb⟩; have HB1 := Lib.hid hb; clear hb)
    exact bodyPost_ret (v := .tuple #[.int .i64 0, .int .i64 2]) (by simp [results, Tryz.results30, go_sem]) rfl ⟨rfl, HB1.out⟩
  · rw [if_neg hn] at CK
    have hc : Hz.chk n l = Hz.cub n l := by unfold Hz.chk; rw [if_neg hn]
    by_cases h0 : Hz.cub n l = 0
    · have hv : litV n l = (Hz.lits l, 0) := by unfold litV; rw [hc, if_pos h0]
      obtain ⟨m, rfl, hm, hlen, hok⟩ := Hz.chk_ok (fun p hp => (hw p hp).2) (hc.trans h0)
      rw [hv]
      rw [h0] at CC
      obtain ⟨ao, cap, rfl, hcap1, hcap2, hcells⟩ := hs.opened
      have HC := Lib.hid hcells
      have CO := fun i (hi : i < l.length) W => Lib.hid (iOnes_any (l.getD i (0, 0)).1 W (Ic.p64 hm (hok _ (Hz.getD_mem hi)).1))
      have HL := Lib.hid (fun i (hi : i < l.length) => And.intro (Hz.lits_at hi) (And.intro (Hz.lits_le l i (by omega)) (Hz.cnt_le (l.getD i (0, 0)).1)))
      have HE : Hid (Hz.lits (l.take l.length) = Hz.lits l) := Lib.hid (by rw [List.take_length])
      clear hn hv hs hw hc h0 hok hcells
      go_enter Tryz.func30, Tryz.ntmps30
      go_wp2_with (first | (go_at_call 53; (with_reducible refine ((CK _).out).mono ?_); rintro e w1 ⟨rfl, hb⟩; have HB1 := Lib.hid hb; clear hb) | (go_at_call 54; (with_reducible refine ((CC _ (HS.out.step HB1.out)).out).mono ?_); rintro e w2 ⟨rfl, hb⟩; have HB2 := Lib.hid (below_nxt HB1.out hb); clear hb))
      go_loopw [8, 25] (fun s8 s25 wr => ∃ i : Nat, i ≤ l.length ∧ s25 = .int .i64 i ∧ s8 = .int .i64 (Hz.lits (l.take i) : Nat) ∧ Hid (Below w.heap.size w wr)) (fun _ s25 _ => l.length - (intOf s25).toNat)
      case atStart => exact ⟨0, Nat.zero_le _, rfl, by simp [Hz.lits], HB2⟩
      case round =>
        obtain ⟨i, hi, rfl, rfl, HB⟩ := hrel
        by_cases hil : i < l.length
        · obtain ⟨g, off, rfl, hg, c1, c2⟩ := HC.out.at HB.out hil
          have COi := CO i hil
          obtain ⟨hl1, hl2, hl3⟩ := HL.out i hil
          have HL1 := Lib.hid hl1
          clear CO hl1
          generalize l.getD i (0, 0) = y at *
          generalize Ic.cnt y.1 = q at *
          generalize Hz.lits (l.take i) = a at *
          go_wp2_with (go_at_call 55; (with_reducible refine ((COi _).out).mono ?_); rintro e w3 ⟨rfl, rfl⟩)
          exact ⟨⟨i + 1, by omega, rfl, by rw [HL1.out]; simp, Lib.hid (below_box HB.out (Below.refl _ _))⟩, by simp [intOf]; omega⟩
        · obtain rfl : i = l.length := by omega
          go_wp2
          exact bodyPost_ret (v := .tuple #[.int .i64 (Hz.lits (l.take l.length) : Nat), .int .i64 0]) (by simp [results, Tryz.results30, go_sem]) rfl ⟨by rw [HE.out], HB.out⟩
    · have hv : litV n l = (0, Hz.cub n l) := by unfold litV; rw [hc, if_neg h0]
      rw [hv]
      have hne : (Hz.cub n l != 0) = true := by simp [h0]
      generalize Hz.cub n l = k at *
      clear hn hv hs hw hc h0
      go_enter Tryz.func30, Tryz.ntmps30
      go_wp2_with (first | (go_at_call 53; (with_reducible refine ((CK _).out).mono ?_); rintro e w1 ⟨rfl, hb⟩; have HB1 := Lib.hid hb; clear hb) | (go_at_call 54; (with_reducible refine ((CC _ (HS.out.step HB1.out)).out).mono ?_); rintro e w2 ⟨rfl, hb⟩; have HB2 := Lib.hid (below_nxt HB1.out hb); clear hb))
      exact bodyPost_ret (v := .tuple #[.int .i64 0, .int .i64 k]) (by simp [results, Tryz.results30, go_sem]) rfl ⟨rfl, HB2.out⟩

theorem hCheck_any (n : Int) (l : List (Nat × Nat)) (v : Value) (w : World) (hw : Hz.W64 l) (hs : SeesO w v l) :
    Calls Tryz.prog 13 #[.int .i64 n, v] w fun e w' => e = .returned (.int .i64 (Hz.chk n l)) ∧ Below w.heap.size w w' := by
  have CL := Lib.hid (mLits_any n l v w hw hs)
  have he : (litV n l).2 = Hz.chk n l := by unfold litV; split <;> simp_all
  rw [he] at CL
  generalize (litV n l).1 = a at *
  generalize Hz.chk n l = k at *
  clear hw hs he
  go_enter Tryz.func13, Tryz.ntmps13
  go_wp2_with (go_at_call 30; (with_reducible refine (CL.out).mono ?_); rintro e w1 ⟨rfl, hb⟩)
  exact bodyPost_ret (v := .int .i64 k) (by simp [results, Tryz.results13, go_sem]) rfl ⟨rfl, hb⟩
end Go.Proofs.YtahjdmdgkkienaaGreatDoor

namespace Hz
theorem made_at {n : Nat} {l : List (Nat × Nat)} {i : Nat} (h : i < l.length) : made n (l.take (i + 1)) = made n (l.take i) ||| Ic.tab n (l.getD i (0, 0)).1 (l.getD i (0, 0)).2 := by
  rw [take_at h, made_snoc]; rfl
theorem made_chk {n : Nat} (hn : n ≤ 6) (l : List (Nat × Nat)) : Tt.chk n (made n l) = 0 := Tt.chk_zero.2 ⟨by omega, by omega, by simpa using made_lt n l⟩
theorem tab_chk {n : Nat} (hn : n ≤ 6) (c v : Nat) : Tt.chk n (Ic.tab n c v) = 0 := Tt.chk_zero.2 ⟨by omega, by omega, by simpa using Ic.tab_lt n c v⟩
end Hz
namespace Go.Proofs.YtahjdmdgkkienaaGreatDoor
open Go.RowKit Go.Shelf

theorem iTab_ok (n c v : Nat) (w : World) (hn : n ≤ 6) (hc : c < 2 ^ n) (hs : Ic.Sub v c) (hst : St w) :
    Calls Tryz.prog 42 #[.int .i64 n, .agg #[.int .u64 c, .int .u64 v]] w fun e w' => e = .returned (.tuple #[.agg #[.int .i64 n, .int .u64 ((Ic.tab n c v : Nat) : Int)], .int .i64 0]) ∧ Below w.heap.size w w' := by
  have h := iTab_any n c v w (Ic.w64 hn hc) (Ic.w64 hn (hs.lt hc)) hst
  have he : Ic.tabV n c v = (((n : Int), Ic.tab n c v), 0) := by unfold Ic.tabV; rw [Ic.chk_of hn hc hs, if_neg (by simp), Int.toNat_natCast]
  rw [he] at h
  exact h

set_option maxHeartbeats 4000000 in
set_option maxRecDepth 100000 in
theorem hTab_ok (n : Nat) (l : List (Nat × Nat)) (v : Value) (w : World) (hn : n ≤ 6) (ho : Hz.Ok n l) (hs : SeesO w v l) (hst : St w) :
    Calls Tryz.prog 22 #[.int .i64 n, v] w fun e w' => e = .returned (.agg #[.int .i64 n, .int .u64 ((Hz.made n l : Nat) : Int)]) ∧ Below w.heap.size w w' := by
  have CC := fun W => Lib.hid (tConst_ok n false W hn)
  obtain ⟨ao, cap, rfl, hcap1, hcap2, hcells⟩ := hs.opened
  have HC := Lib.hid hcells
  have CT := fun i (hi : i < l.length) W h => Lib.hid (iTab_ok n (l.getD i (0, 0)).1 (l.getD i (0, 0)).2 W hn (ho _ (Hz.getD_mem hi)).1 (ho _ (Hz.getD_mem hi)).2 h)
  have CO := fun i W => Lib.hid (tOr_ok n (Hz.made n (l.take i)) (Ic.tab n (l.getD i (0, 0)).1 (l.getD i (0, 0)).2) W (Tt.w64 hn (Hz.made_lt _ _)) (Tt.w64 hn (Ic.tab_lt _ _ _)) (Hz.made_chk hn _) (Hz.tab_chk hn _ _))
  have HS := Lib.hid (fun i (hi : i < l.length) => Hz.made_at (n := n) hi)
  have HE : Hid (Hz.made n (l.take l.length) = Hz.made n l) := Lib.hid (by rw [List.take_length])
  have H0 : Hid (Hz.made n (l.take 0) = 0) := Lib.hid (by rw [List.take_zero, Hz.made_nil])
  have HST := Lib.hid hst
  rw [cond_false] at CC
  clear hst hs ho hcells
  obtain ⟨P0, L0, z0⟩ := tab1_new w 0 0 29
  generalize hX : w.alloc (.cells #[.int .i64 0, .int .u64 ((0 : Nat) : Int)] 29) = X at *
  change w.alloc (.cells #[.int .i64 0, .int .u64 0] 29) = X at hX
  go_enter Tryz.func22, Tryz.ntmps22
  go_wp2_with fail
  refine ((CC _).out).mono ?_
  rintro e w1 ⟨rfl, hb⟩
  have S0 := P0.step hb
  have L1 := below_nxt L0 hb
  obtain ⟨P1, L2, z2⟩ := tab1_new w1 n 0 29
  have T0 := S0.step L2
  have L3 := below_nxt L1 L2
  have hsz : w.heap.size + 1 ≤ w1.heap.size := by have := S0.1; omega
  clear hb P0 S0 L0 L2 L1
  go_wp2
  go_loopw [18] (fun s18 wr => ∃ i : Nat, i ≤ l.length ∧ s18 = .int .i64 i ∧ TabI wr w.heap.size 0 0 ∧ TabI wr w1.heap.size n (Hz.made n (l.take i)) ∧ Hid (Below w.heap.size w wr)) (fun s18 _ => l.length - (intOf s18).toNat)
  case atStart => exact ⟨0, Nat.zero_le _, rfl, T0, by rw [H0.out]; exact P1, Lib.hid L3⟩
  case round =>
    clear T0 P1 L3
    obtain ⟨i, hi, rfl, R0, R1, HW⟩ := hrel
    have HT := Lib.hid (HST.out.next HW.out)
    have hwr : w1.heap.size < wr.heap.size := R1.1
    obtain ⟨r0, r1, r2, r3, r4⟩ := id R0
    obtain ⟨s0, s1, s2, s3, s4⟩ := id R1
    by_cases hil : i < l.length
    · obtain ⟨g, off, rfl, hg, c1, c2⟩ := HC.out.at HW.out hil
      have CTi := CT i hil
      have COi := CO i
      have HE := Lib.hid (HS.out i hil)
      clear CT CO H0 HC
      obtain ⟨t', ht'⟩ : ∃ t', Hz.made n (l.take (i + 1)) = t' := ⟨_, rfl⟩
      rw [← HE.out, ht'] at COi
      have HT' := Lib.hid ht'
      clear ht' HE HS
      generalize Hz.made n (l.take i) = t at *
      generalize Ic.tab n (l.getD i (0, 0)).1 (l.getD i (0, 0)).2 = m1 at *
      generalize l.getD i (0, 0) = y at *
      go_wp2_with fail
      refine ((CTi _ (HT.out.next ((Below.refl _ _).alloc (Nat.le_refl _) _))).out).mono ?_
      rintro e w2 ⟨rfl, hw2⟩
      have A0 := R0.box hw2
      have A1 := R1.box hw2
      have B2 := below_box HW.out hw2
      have hw2s := hw2.size
      simp only [World.size_alloc] at hw2s
      clear hw2 R0 R1 r1 r2 r3 r4 s1 s2 s3 s4 c1 c2
      obtain ⟨P3, L5, z3⟩ := tab1_new w2 n m1 29
      replace A0 := A0.step L5
      replace A1 := A1.step L5
      have B3 := below_nxt B2 L5
      obtain ⟨v0, v1, v2, v3, v4⟩ := id A1
      obtain ⟨x0, x1, x2, x3, x4⟩ := id P3
      go_wp2_with fail
      refine ((COi _).out).mono ?_
      rintro e w4 ⟨rfl, hw4⟩
      replace A0 := A0.step hw4
      replace A1 := A1.step hw4
      have B6 := below_nxt B3 hw4
      obtain ⟨k0, k1, k2, k3, k4⟩ := id A1
      have B7 := below_put2 (g := w1.heap.size) B6 (by omega) (.int .i64 n) (.int .u64 (t' : Int))
      have A3 := A1.put n t'
      replace A0 := (A0.other (g' := w1.heap.size) (j := 0) (.int .i64 n) (by omega)).other (g' := w1.heap.size) (j := 1) (.int .u64 (t' : Int)) (by omega)
      go_wp2
      go_roundw
      case rel => exact ⟨i + 1, by omega, by go_num, A0, by rw [HT'.out]; exact A3, Lib.hid B7⟩
      case measure => simp [intOf]; omega
    · obtain rfl : i = l.length := by omega
      rw [HE.out] at s2
      obtain ⟨t, ht⟩ : ∃ t, Hz.made n l = t := ⟨_, rfl⟩
      rw [ht] at s2
      have HTT := Lib.hid ht
      clear ht R0 R1 HE HS H0 CT CO
      go_wp2
      exact bodyPost_ret (v := .agg #[.int .i64 n, .int .u64 t]) (by simp [results, Tryz.results22, go_sem, r1, r2]) rfl ⟨by rw [HTT.out], by (repeat' (first | exact HW.out | refine Below.setCell ?_ (by first | exact Nat.le_refl _ | (dsimp only; omega) | (simp; omega)) _ | refine Below.drew ?_))⟩
end Go.Proofs.YtahjdmdgkkienaaGreatDoor

namespace Hz
def few (l : List (Nat × Nat)) : Bool := decide (l.length ≤ 30) || (decide (256 < l.length) && decide (l.length ≤ 600))
def rgt (n : Int) (l : List (Nat × Nat)) : Bool := few l && (decide (n ≤ 5) && (chk n l == 0))
end Hz
namespace Go.Proofs.YtahjdmdgkkienaaGreatDoor
open Go.RowKit Go.Shelf

set_option maxHeartbeats 4000000 in
set_option maxRecDepth 100000 in
theorem rCubes_any (n : Int) (l : List (Nat × Nat)) (v : Value) (w : World) (hw : Hz.W64 l) (hs : SeesO w v l) :
    Calls Tryz.prog 31 #[.int .i64 n, v] w fun e w' => e = .returned (.int .i64 (Hz.cub n l)) ∧ Below w.heap.size w w' := by
  obtain ⟨ao, cap, rfl, hcap1, hcap2, hcells⟩ := hs.opened
  have HC := Lib.hid hcells
  have CK := fun i (hi : i < l.length) W => Lib.hid (rcCheck_any n (l.getD i (0, 0)).1 (l.getD i (0, 0)).2 W (hw.at hi).1 (hw.at hi).2)
  have HE := Lib.hid (fun i (hi : i < l.length) => And.intro (Hz.fst_on (n := n) hi) (Hz.fst_off (n := n) hi))
  have H0 := Lib.hid (show Hz.fst n (l.drop 0) = Hz.fst n l by simp)
  unfold Hz.cub
  clear hcells hs hw
  by_cases hlen : 256 < l.length
  · rw [if_pos hlen]
    clear HE H0 CK HC
    go_enter Tryz.func31, Tryz.ntmps31
    go_wp2
    exact bodyPost_ret (by simp [results, Tryz.results31, go_sem]) rfl ⟨rfl, Below.refl _ _⟩
  · rw [if_neg hlen]
    generalize Hz.fst n l = r at *
    go_enter Tryz.func31, Tryz.ntmps31
    go_wp2
    go_loopw [5] (fun s5 wr => ∃ i : Nat, i ≤ l.length ∧ s5 = .int .i64 i ∧ Hz.fst n (l.drop i) = r ∧ Hid (Below w.heap.size w wr)) (fun s5 _ => l.length - (intOf s5).toNat)
    case atStart => exact ⟨0, Nat.zero_le _, rfl, H0.out, Lib.hid (Below.refl _ _)⟩
    case round =>
      obtain ⟨i, hi, rfl, hr, HB⟩ := hrel
      by_cases hil : i < l.length
      · obtain ⟨g, off, rfl, hg, c1, c2⟩ := HC.out.at HB.out hil
        have CKi := CK i hil
        obtain ⟨h1, h2⟩ := HE.out i hil
        have HR := Lib.hid (fun hc => h1 hr hc)
        have HR2 := Lib.hid (fun hc => h2 hr hc)
        clear h1 h2 CK
        generalize l.getD i (0, 0) = y at *
        cases hck : decide (Ic.chk n y.1 y.2 = 0)
        · have hck := of_decide_eq_false hck
          have HR3 := Lib.hid (HR2.out hck)
          have hne : (Ic.chk n y.1 y.2 != 0) = true := by simp [hck]
          clear hck HR HR2
          generalize Ic.chk n y.1 y.2 = k at *
          go_wp2_with (go_at_call 56; refine ((CKi _).out).mono ?_; rintro e w3 ⟨rfl, hb⟩; have HB3 := Lib.hid (below_nxt HB.out hb); clear hb)
          exact bodyPost_ret (by simp [results, Tryz.results31, go_sem]) rfl ⟨congrArg (fun z => Ending.returned (.int .i64 z)) HR3.out, HB3.out⟩
        · have hck := of_decide_eq_true hck
          have HR3 := Lib.hid (HR.out hck)
          rw [hck] at CKi
          clear hck HR HR2
          go_wp2_with (go_at_call 56; refine ((CKi _).out).mono ?_; rintro e w3 ⟨rfl, hb⟩; have HB3 := Lib.hid (below_nxt HB.out hb); clear hb)
          exact ⟨⟨i + 1, by omega, rfl, HR3.out, HB3⟩, by simp [intOf]; omega⟩
      · obtain rfl : i = l.length := by omega
        rw [List.drop_length] at hr
        obtain rfl : (0 : Int) = r := hr
        clear HE CK
        go_wp2
        exact bodyPost_ret (by simp [results, Tryz.results31, go_sem]) rfl ⟨rfl, HB.out⟩

theorem rhCheck_any (n : Int) (l : List (Nat × Nat)) (v : Value) (w : World) (hw : Hz.W64 l) (hs : SeesO w v l) :
    Calls Tryz.prog 14 #[.int .i64 n, v] w fun e w' => e = .returned (.int .i64 (Hz.chk n l)) ∧ Below w.heap.size w w' := by
  have CC := Lib.hid (rCubes_any n l v w hw hs)
  unfold Hz.chk
  by_cases hn : n < 0 ∨ 6 < n
  · rw [if_pos hn]
    clear CC hw hs
    go_enter Tryz.func14, Tryz.ntmps14
    go_wp2
    all_goals first | omega | (go_ret; exact ⟨rfl, Below.refl _ _⟩)
  · rw [if_neg hn]
    generalize Hz.cub n l = k at *
    have hn1 : ¬ n < 0 := by omega
    have hn2 : ¬ 6 < n := by omega
    clear hw hs hn
    go_enter Tryz.func14, Tryz.ntmps14
    go_wp2_with (go_at_call 31; (with_reducible refine (CC.out).mono ?_); rintro e w1 ⟨rfl, hb⟩)
    all_goals first | omega | (go_ret; exact ⟨rfl, hb⟩)

set_option maxHeartbeats 4000000 in
set_option maxRecDepth 100000 in
theorem few_any (l : List (Nat × Nat)) (v : Value) (w : World) (hs : SeesO w v l) :
    Calls Tryz.prog 5 #[v] w fun e w' => e = .returned (.bool (Hz.few l)) ∧ w' = w := by
  obtain ⟨ao, cap, rfl, hcap1, hcap2, hcells⟩ := hs.opened
  unfold Hz.few
  clear hcells hs
  go_enter Tryz.func5, Tryz.ntmps5
  go_wp2
  all_goals
    go_ret
    refine ⟨congrArg (fun z => Ending.returned (.bool z)) ?_, rfl⟩
    rw [Bool.eq_iff_iff]
    simp
    try omega

end Go.Proofs.YtahjdmdgkkienaaGreatDoor

