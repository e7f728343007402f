/- Texts of exact fractions, and the rational numbers that they are. Plain; no program. -/
import Derived.Test.YtfphnoihkcnleaaGreatDoorNum
namespace Fr
open Limb

/-- The decimal digits of a number, the lowest one first. -/
def digs : Nat → Nat → List Nat
  | 0, _ => []
  | f + 1, n => if n = 0 then [] else n % 10 :: digs f (n / 10)

def byte (d : Nat) : UInt8 := UInt8.ofNat (d + 48)
def render (n : Nat) : List UInt8 := if n = 0 then [48] else ((digs n n).map byte).reverse
def dig (c : UInt8) : Nat := c.toNat - 48
/-- The number with decimal digits. -/
def dv (l : List UInt8) : Nat := val 10 (l.reverse.map dig)
def isDig (c : UInt8) : Bool := decide (48 ≤ c.toNat) && decide (c.toNat ≤ 57)
def bare : List UInt8 → List UInt8
  | [] => []
  | c :: l => if c = 45 then l else c :: l
def isNeg : List UInt8 → Bool
  | [] => false
  | c :: _ => c == 45
def isInt (s : List UInt8) : Bool := !(bare s).isEmpty && ((bare s).head? != some 48 || s.length == 1) && (bare s).all isDig
def isLong (s : List UInt8) : Bool := decide (60 < (bare s).length)
def cut : List UInt8 → List UInt8 × Option (List UInt8)
  | [] => ([], none)
  | c :: l => if c = 47 then ([], some l) else (c :: (cut l).1, (cut l).2)
def numT (s : List UInt8) : List UInt8 := (cut s).1
def denT (s : List UInt8) : List UInt8 := (cut s).2.getD [49]
def sv (s : List UInt8) : Int := if isNeg s then -(dv (bare s) : Int) else dv (bare s)
def chk (s : List UInt8) : Int :=
  if !isInt (numT s) || !isInt (denT s) then 3
  else if isLong (numT s) || isLong (denT s) then 11
  else if isNeg (denT s) || ((cut s).2.isSome && decide (dv (denT s) ≤ 1)) || (Nat.gcd (dv (bare (numT s))) (dv (denT s)) != 1) then 3
  else 0
def rat (s : List UInt8) : Rat := mkRat (sv (numT s)) (dv (denT s))
def text (q : Rat) : List UInt8 := (if q.num < 0 then [45] else []) ++ render q.num.natAbs ++ (if q.den = 1 then [] else 47 :: render q.den)
def fits (q : Rat) : Bool := decide (q.num.natAbs < 10 ^ 60) && decide (q.den < 10 ^ 60)
def out (q : Rat) : List UInt8 × Int := if fits q then (text q, 0) else ([], 11)

theorem digs_unique : ∀ (l : List Nat) (f : Nat), norm 10 l → val 10 l ≤ f → digs f (val 10 l) = l
  | [], 0, _, _ => rfl
  | [], f + 1, _, _ => by simp [digs]
  | x :: l, f, h, hf => by
    have hx : x < 10 := h.1 x (by simp)
    have hn : norm 10 l := by have := norm_drop h 1; simpa using this
    have hp : 0 < val 10 (x :: l) := (norm_pos (by omega) h).2 (by simp)
    rw [val_cons] at hp hf ⊢
    match f, hf with
    | 0, hf => omega
    | f + 1, hf =>
      rw [digs, if_neg (by omega), show (x + 10 * val 10 l) % 10 = x by omega, show (x + 10 * val 10 l) / 10 = val 10 l by omega, digs_unique l f hn (by omega)]

theorem digs_norm : ∀ (f n : Nat), n ≤ f → norm 10 (digs f n) ∧ val 10 (digs f n) = n
  | 0, n, h => by rw [show n = 0 by omega]; exact ⟨norm_nil _, rfl⟩
  | f + 1, n, h => by
    rw [digs]
    split
    · rename_i h0; subst h0; exact ⟨norm_nil _, rfl⟩
    · rename_i h0
      have ih := digs_norm f (n / 10) (by omega)
      refine ⟨⟨?_, ?_⟩, ?_⟩
      · intro x hx
        rcases List.mem_cons.1 hx with h1 | h1
        · rw [h1]; omega
        · exact ih.1.1 x h1
      · intro _
        rw [List.length_cons]
        rcases Nat.eq_zero_or_pos (digs f (n / 10)).length with h1 | h1
        · have h2 := (norm_zero (by omega) ih.1).2 h1
          rw [ih.2] at h2
          rw [h1]; show 0 < (n % 10 :: _).getD 0 0
          simp; omega
        · have h2 := ih.1.2 h1
          rw [show (digs f (n / 10)).length + 1 - 1 = ((digs f (n / 10)).length - 1) + 1 by omega]
          simpa using h2
      · rw [val_cons, ih.2]; omega

theorem dig_byte {d : Nat} (h : d < 10) : dig (byte d) = d := by
  unfold dig byte
  rw [UInt8.toNat_ofNat', Nat.mod_eq_of_lt (by omega)]; omega
theorem byte_dig {c : UInt8} (h : isDig c = true) : byte (dig c) = c := by
  unfold isDig at h
  simp only [Bool.and_eq_true, decide_eq_true_eq] at h
  unfold dig byte
  apply UInt8.toNat_inj.1
  rw [UInt8.toNat_ofNat', Nat.mod_eq_of_lt (by omega)]; omega
theorem isDig_byte {d : Nat} (h : d < 10) : isDig (byte d) = true := by
  unfold isDig byte
  rw [UInt8.toNat_ofNat', Nat.mod_eq_of_lt (by omega)]; simp; omega
theorem dig_lt {c : UInt8} (h : isDig c = true) : dig c < 10 := by
  unfold isDig at h
  simp only [Bool.and_eq_true, decide_eq_true_eq] at h
  unfold dig; omega

theorem map_dig_byte : ∀ (l : List Nat), small 10 l → (l.map byte).map dig = l
  | [], _ => rfl
  | x :: l, h => by rw [List.map_cons, List.map_cons, dig_byte (h x (by simp)), map_dig_byte l (fun y hy => h y (by simp [hy]))]
theorem map_byte_dig : ∀ (l : List UInt8), l.all isDig = true → (l.map dig).map byte = l
  | [], _ => rfl
  | x :: l, h => by
    rw [List.all_cons, Bool.and_eq_true] at h
    rw [List.map_cons, List.map_cons, byte_dig h.1, map_byte_dig l h.2]

theorem dv_render (n : Nat) : dv (render n) = n := by
  unfold dv render
  split
  · rename_i h; subst h; rfl
  · rw [List.reverse_reverse, map_dig_byte _ (digs_norm n n (Nat.le_refl _)).1.1, (digs_norm n n (Nat.le_refl _)).2]

theorem small_digs {l : List UInt8} (h : l.all isDig = true) : small 10 (l.reverse.map dig) := by
  intro x hx
  rw [List.mem_map] at hx
  obtain ⟨c, hc, rfl⟩ := hx
  exact dig_lt (List.all_eq_true.1 h c (List.mem_reverse.1 hc))

/-- Digits that do not begin with 0 are the digits of their number. -/
theorem render_dv {l : List UInt8} (h : l.all isDig = true) (h0 : l ≠ []) (hz : l.head? ≠ some 48) : render (dv l) = l := by
  have hs := small_digs h
  have hn : norm 10 (l.reverse.map dig) := by
    refine ⟨hs, fun _ => ?_⟩
    match l, h0 with
    | c :: l, _ =>
      rw [List.length_map, List.length_reverse, List.length_cons, List.reverse_cons, List.map_append, Nat.add_sub_cancel, List.getD_eq_getElem?_getD, List.getElem?_append_right (by simp)]
      simp only [List.length_map, List.length_reverse, Nat.sub_self, List.map_cons, List.map_nil, List.getElem?_cons_zero, Option.getD_some]
      rw [List.all_cons, Bool.and_eq_true] at h
      have h1 := h.1
      unfold isDig at h1
      simp only [Bool.and_eq_true, decide_eq_true_eq] at h1
      unfold dig
      rcases Nat.eq_or_lt_of_le h1.1 with h2 | h2
      · exact absurd (show (c :: l).head? = some 48 by rw [List.head?_cons]; congr 1; exact UInt8.toNat_inj.1 h2.symm) hz
      · omega
  have hp : 0 < dv l := by
    unfold dv
    rw [norm_pos (by omega) hn, List.length_map, List.length_reverse]
    exact List.length_pos_iff.2 h0
  unfold render
  rw [if_neg (by omega)]
  unfold dv
  rw [digs_unique _ _ hn (Nat.le_refl _), map_byte_dig _ (by rw [List.all_reverse]; exact h), List.reverse_reverse]

theorem render_zero : render 0 = [48] := rfl

theorem render_all (n : Nat) : (render n).all isDig = true := by
  unfold render
  split
  · decide
  · rw [List.all_reverse, List.all_eq_true]
    intro c hc
    rw [List.mem_map] at hc
    obtain ⟨d, hd, rfl⟩ := hc
    exact isDig_byte ((digs_norm n n (Nat.le_refl _)).1.1 d hd)

theorem render_pos (n : Nat) : 0 < (render n).length := by
  unfold render
  split
  · decide
  · rename_i h
    have h1 := digs_norm n n (Nat.le_refl _)
    rw [List.length_reverse, List.length_map]
    rcases Nat.eq_zero_or_pos (digs n n).length with h2 | h2
    · have := (norm_zero (by omega) h1.1).2 h2; omega
    · exact h2

theorem render_head {n : Nat} (h : n ≠ 0) : (render n).head? ≠ some 48 := by
  unfold render
  rw [if_neg h, List.head?_reverse, List.getLast?_eq_getElem?, List.length_map, List.getElem?_map]
  have h1 := digs_norm n n (Nat.le_refl _)
  have h2 : 0 < (digs n n).length := by
    rcases Nat.eq_zero_or_pos (digs n n).length with h2 | h2
    · have := (norm_zero (by omega) h1.1).2 h2; omega
    · exact h2
  have h3 := h1.1.2 h2
  rw [List.getElem?_eq_getElem (by omega), Option.map_some]
  rw [List.getD_eq_getElem?_getD, List.getElem?_eq_getElem (by omega), Option.getD_some] at h3
  have h4 := h1.1.1 _ (List.getElem_mem (l := digs n n) (n := (digs n n).length - 1) (by omega))
  intro h5
  have h6 : dig (byte (digs n n)[(digs n n).length - 1]) = dig 48 := by rw [Option.some.inj h5]
  rw [dig_byte h4] at h6
  have : dig 48 = 0 := rfl
  omega

/-- A number has at most k digits exactly if it is less than the k-th power of 10. -/
theorem render_len (n k : Nat) (hk : 0 < k) : (render n).length ≤ k ↔ n < 10 ^ k := by
  unfold render
  split
  · rename_i h; subst h
    have : 0 < 10 ^ k := Nat.pow_pos (by omega)
    simp; omega
  · rename_i h
    have h1 := digs_norm n n (Nat.le_refl _)
    rw [List.length_reverse, List.length_map]
    have h2 : 0 < (digs n n).length := by
      rcases Nat.eq_zero_or_pos (digs n n).length with h2 | h2
      · have := (norm_zero (by omega) h1.1).2 h2; omega
      · exact h2
    have h3 := val_lt h1.1.1
    have h4 := norm_ge h1.1 h2
    rw [h1.2] at h3 h4
    constructor
    · intro hl
      exact Nat.lt_of_lt_of_le h3 (Nat.pow_le_pow_right (by omega) hl)
    · intro hl
      rcases Nat.lt_or_ge k (digs n n).length with h5 | h5
      · have : 10 ^ k ≤ 10 ^ ((digs n n).length - 1) := Nat.pow_le_pow_right (by omega) (by omega)
        omega
      · exact h5

theorem dv_lt {l : List UInt8} (h : l.all isDig = true) : dv l < 10 ^ l.length := by
  have := val_lt (small_digs h)
  rw [List.length_map, List.length_reverse] at this
  exact this

theorem all_ne {l : List UInt8} (h : l.all isDig = true) {c : UInt8} (hc : isDig c = false) : c ∉ l := by
  intro hm
  rw [List.all_eq_true.1 h c hm] at hc
  cases hc

theorem bare_digs {l : List UInt8} (h : l.all isDig = true) : bare l = l := by
  match l with
  | [] => rfl
  | c :: l =>
    rw [List.all_cons, Bool.and_eq_true] at h
    rw [bare, if_neg]
    intro hc
    subst hc
    exact absurd h.1 (by decide)
theorem isNeg_digs {l : List UInt8} (h : l.all isDig = true) : isNeg l = false := by
  match l with
  | [] => rfl
  | c :: l =>
    rw [List.all_cons, Bool.and_eq_true] at h
    unfold isNeg
    rw [beq_eq_false_iff_ne]
    intro hc
    subst hc
    exact absurd h.1 (by decide)

theorem isInt_all {s : List UInt8} (h : isInt s = true) : (bare s).all isDig = true := by
  unfold isInt at h
  rw [Bool.and_eq_true] at h
  exact h.2
theorem isInt_ne {s : List UInt8} (h : isInt s = true) : bare s ≠ [] := by
  unfold isInt at h
  simp only [Bool.and_eq_true] at h
  have := h.1.1
  intro h0
  rw [h0] at this
  cases this
theorem isInt_head {s : List UInt8} (h : isInt s = true) : (bare s).head? ≠ some 48 ∨ s = [48] := by
  have h0 := isInt_all h
  unfold isInt at h
  simp only [Bool.and_eq_true, Bool.or_eq_true, bne_iff_ne, beq_iff_eq] at h
  rcases h.1.2 with h1 | h1
  · exact .inl h1
  · match s, h1 with
    | [c], _ =>
      by_cases hc : c = 45
      · subst hc; exact absurd h.1.1 (by decide)
      · by_cases h4 : c = 48
        · right; rw [h4]
        · left; rw [bare, if_neg hc]; simp [h4]

theorem bare_of_neg {s : List UInt8} (h : isNeg s = true) : s = 45 :: bare s := by
  match s, h with
  | c :: l, h =>
    unfold isNeg at h
    rw [beq_iff_eq] at h
    subst h
    rfl
theorem bare_of_not {s : List UInt8} (h : isNeg s = false) : bare s = s := by
  match s, h with
  | [], _ => rfl
  | c :: l, h =>
    unfold isNeg at h
    rw [beq_eq_false_iff_ne] at h
    rw [bare, if_neg h]

/-- An integer text is that of its number. -/
theorem isInt_render {s : List UInt8} (h : isInt s = true) : render (dv (bare s)) = bare s := by
  rcases isInt_head h with h1 | h1
  · exact render_dv (isInt_all h) (isInt_ne h) h1
  · subst h1; rfl
theorem isInt_pos {s : List UInt8} (h : isInt s = true) (hn : isNeg s = true) : 0 < dv (bare s) := by
  rcases Nat.eq_zero_or_pos (dv (bare s)) with h1 | h1
  · have h2 := isInt_render h
    rw [h1, render_zero] at h2
    rcases isInt_head h with h3 | h3
    · rw [← h2] at h3; exact absurd rfl h3
    · subst h3; cases hn
  · exact h1
theorem isInt_text {s : List UInt8} (h : isInt s = true) : (if sv s < 0 then [45] else []) ++ render (sv s).natAbs = s := by
  unfold sv
  cases hn : isNeg s with
  | true =>
    have hp := isInt_pos h hn
    rw [if_pos rfl, if_pos (by omega), Int.natAbs_neg, Int.natAbs_natCast, isInt_render h]
    exact (bare_of_neg hn).symm
  | false =>
    have h0 : (if false = true then -(dv (bare s) : Int) else dv (bare s)) = dv (bare s) := if_neg (by simp)
    rw [h0, if_neg (Int.not_lt.2 (Int.natCast_nonneg _)), Int.natAbs_natCast, isInt_render h, bare_of_not hn]
    rfl

theorem cut_none : ∀ {l : List UInt8}, (47 : UInt8) ∉ l → cut l = (l, none)
  | [], _ => rfl
  | c :: l, h => by
    rw [List.mem_cons, not_or] at h
    rw [cut, if_neg (fun e => h.1 e.symm), cut_none h.2]
theorem cut_some : ∀ {l m : List UInt8}, (47 : UInt8) ∉ l → cut (l ++ 47 :: m) = (l, some m)
  | [], m, _ => rfl
  | c :: l, m, h => by
    rw [List.mem_cons, not_or] at h
    rw [List.cons_append, cut, if_neg (fun e => h.1 e.symm), cut_some h.2]
theorem cut_join : ∀ (l : List UInt8), l = (cut l).1 ++ (match (cut l).2 with | none => [] | some m => 47 :: m)
  | [] => rfl
  | c :: l => by
    rw [cut]
    split
    · rename_i h; subst h; rfl
    · have := cut_join l
      rw [List.cons_append, ← this]

theorem chk_zero {s : List UInt8} (h : chk s = 0) : isInt (numT s) = true ∧ isInt (denT s) = true ∧ isLong (numT s) = false ∧ isLong (denT s) = false ∧ isNeg (denT s) = false ∧
    ((cut s).2.isSome = true → 1 < dv (denT s)) ∧ Nat.gcd (dv (bare (numT s))) (dv (denT s)) = 1 := by
  unfold chk at h
  split at h
  · cases h
  · rename_i h1
    split at h
    · cases h
    · rename_i h2
      split at h
      · cases h
      · rename_i h3
        simp only [Bool.or_eq_true, Bool.not_eq_true', not_or, Bool.not_eq_false, Bool.and_eq_true, decide_eq_true_eq, not_and, Nat.not_le, bne_iff_ne, ne_eq, Decidable.not_not] at h1 h2 h3
        exact ⟨h1.1, h1.2, by simpa using h2.1, by simpa using h2.2, by simpa using h3.1.1, h3.1.2, h3.2⟩

theorem den_pos {s : List UInt8} (h : chk s = 0) : 0 < dv (denT s) := by
  have h1 := chk_zero h
  cases h2 : (cut s).2 with
  | none => unfold denT; rw [h2]; decide
  | some m => have := h1.2.2.2.2.2.1 (by rw [h2]; rfl); omega

theorem natAbs_sv (s : List UInt8) : (sv s).natAbs = dv (bare s) := by
  unfold sv; split <;> simp

theorem rat_parts {s : List UInt8} (h : chk s = 0) : (rat s).num = sv (numT s) ∧ (rat s).den = dv (denT s) := by
  have h1 := chk_zero h
  have h2 := den_pos h
  have h3 := Rat.mk_eq_mkRat (sv (numT s)) (dv (denT s)) (by omega) (by rw [natAbs_sv]; exact h1.2.2.2.2.2.2)
  unfold rat
  rw [← h3]
  exact ⟨rfl, rfl⟩

theorem denT_eq {s : List UInt8} (h : chk s = 0) : (if dv (denT s) = 1 then [] else 47 :: render (dv (denT s))) = (match (cut s).2 with | none => [] | some m => 47 :: m) := by
  have h1 := chk_zero h
  cases h2 : (cut s).2 with
  | none =>
    have : dv (denT s) = 1 := by unfold denT; rw [h2]; rfl
    rw [if_pos this]
  | some m =>
    have h3 := h1.2.2.2.2.2.1 (by rw [h2]; rfl)
    have h4 : denT s = m := by unfold denT; rw [h2]; rfl
    rw [if_neg (by omega)]
    have h5 := isInt_render h1.2.1
    rw [bare_of_not h1.2.2.2.2.1, h4] at h5
    rw [h4, h5]

/-- A right text is that of its number. -/
theorem text_rat {s : List UInt8} (h : chk s = 0) : text (rat s) = s := by
  have h1 := chk_zero h
  have h2 := rat_parts h
  unfold text
  rw [h2.1, h2.2, isInt_text h1.1, denT_eq h]
  exact (cut_join s).symm

theorem fits_rat {s : List UInt8} (h : chk s = 0) : fits (rat s) = true := by
  have h1 := chk_zero h
  have h2 := rat_parts h
  unfold fits
  have a : (bare (numT s)).length ≤ 60 := by have := h1.2.2.1; unfold isLong at this; rw [decide_eq_false_iff_not] at this; omega
  have b : (bare (denT s)).length ≤ 60 := by have := h1.2.2.2.1; unfold isLong at this; rw [decide_eq_false_iff_not] at this; omega
  rw [← isInt_render h1.1, render_len _ _ (by omega)] at a
  rw [← isInt_render h1.2.1, render_len _ _ (by omega), bare_of_not h1.2.2.2.2.1] at b
  rw [h2.1, h2.2, natAbs_sv, decide_eq_true a, decide_eq_true b]
  rfl

theorem isInt_of_render (n : Nat) : isInt (render n) = true := by
  unfold isInt
  rw [bare_digs (render_all n), render_all n]
  by_cases h : n = 0
  · subst h; decide
  · have h1 := render_head h
    have h2 := render_pos n
    cases hr : render n with
    | nil => rw [hr] at h2; simp at h2
    | cons c l => rw [hr] at h1; simp at h1; simp [h1]
theorem isInt_of_neg {n : Nat} (h : n ≠ 0) : isInt (45 :: render n) = true := by
  have hb : bare (45 :: render n) = render n := rfl
  unfold isInt
  rw [hb, render_all n]
  have h1 := render_head h
  have h2 := render_pos n
  cases hr : render n with
  | nil => rw [hr] at h2; simp at h2
  | cons c l => rw [hr] at h1; simp at h1; simp [h1]

theorem sign_text (q : Rat) : isInt ((if q.num < 0 then [45] else []) ++ render q.num.natAbs) = true ∧ bare ((if q.num < 0 then [45] else []) ++ render q.num.natAbs) = render q.num.natAbs ∧
    (47 : UInt8) ∉ (if q.num < 0 then [45] else []) ++ render q.num.natAbs ∧ sv ((if q.num < 0 then [45] else []) ++ render q.num.natAbs) = q.num := by
  have hm : (47 : UInt8) ∉ render q.num.natAbs := all_ne (render_all _) (by decide)
  split
  · rename_i h
    refine ⟨isInt_of_neg (by omega), rfl, ?_, ?_⟩
    · simp [hm]
    · show (if true = true then -(dv (render q.num.natAbs) : Int) else _) = _
      rw [if_pos rfl, dv_render]; omega
  · rename_i h
    rw [List.nil_append]
    refine ⟨isInt_of_render _, bare_digs (render_all _), hm, ?_⟩
    unfold sv
    rw [isNeg_digs (render_all _), bare_digs (render_all _), dv_render]
    simp; omega

theorem cut_text (q : Rat) : numT (text q) = (if q.num < 0 then [45] else []) ++ render q.num.natAbs ∧ denT (text q) = render q.den ∧ (cut (text q)).2.isSome = decide (q.den ≠ 1) := by
  have h := sign_text q
  unfold numT denT text
  by_cases h1 : q.den = 1
  · rw [if_pos h1, List.append_nil, cut_none h.2.2.1, h1]
    exact ⟨rfl, rfl, rfl⟩
  · rw [if_neg h1, cut_some h.2.2.1]
    exact ⟨rfl, rfl, by simp [h1]⟩

/-- A number that is not too large has a text, which is right, and is read back. -/
theorem chk_text {q : Rat} (h : fits q = true) : chk (text q) = 0 := by
  have h1 := sign_text q
  have h2 := cut_text q
  unfold fits at h
  simp only [Bool.and_eq_true, decide_eq_true_eq] at h
  have h3 := (render_len q.num.natAbs 60 (by omega)).2 h.1
  have h4 := (render_len q.den 60 (by omega)).2 h.2
  have hd := q.den_pos
  have hc : (47 : UInt8) ∉ render q.den := all_ne (render_all _) (by decide)
  unfold chk
  rw [h2.1, h2.2.1, h2.2.2, h1.1, isInt_of_render, if_neg (by simp)]
  have l1 : isLong ((if q.num < 0 then [45] else []) ++ render q.num.natAbs) = false := by unfold isLong; rw [h1.2.1]; simp; omega
  have l2 : isLong (render q.den) = false := by unfold isLong; rw [bare_digs (render_all _)]; simp; omega
  rw [l1, l2, if_neg (by simp), isNeg_digs (render_all _), dv_render, h1.2.1, dv_render]
  have hg : Nat.gcd q.num.natAbs q.den = 1 := q.reduced
  rw [hg, if_neg]
  simp
  omega

theorem rat_text (q : Rat) : rat (text q) = q := by
  have h1 := sign_text q
  have h2 := cut_text q
  unfold rat
  rw [h2.1, h2.2.1, h1.2.2.2, dv_render, Rat.mkRat_self]

theorem out_rat {s : List UInt8} (h : chk s = 0) : out (rat s) = (s, 0) := by
  unfold out
  rw [if_pos (fits_rat h), text_rat h]

theorem rat_inj {s t : List UInt8} (hs : chk s = 0) (ht : chk t = 0) (h : rat s = rat t) : s = t := by
  rw [← text_rat hs, ← text_rat ht, h]

example : out (rat [51, 47, 50, 48] + rat [50, 47, 49, 53]) = ([49, 55, 47, 54, 48], 0) := by decide +kernel

end Fr
