/- Times, spans and their texts: plain facts, of no program. -/
import Derived.Test.YtecfbncfhehdcaaDoorNum
import Derived.Lib.IndexMore
namespace Tm
open Fr Go

def isT (t : Int) : Bool := decide (0 ≤ t ∧ t ≤ 1000000)
/-- What Check returns. -/
def chk (l h : Int) : Int := if isT l = true ∧ isT h = true then (if h < l then 9 else 0) else 2
theorem chk_zero {l h : Int} : chk l h = 0 ↔ 0 ≤ l ∧ l ≤ h ∧ h ≤ 1000000 := by
  unfold chk isT
  simp only [decide_eq_true_eq]
  constructor
  · intro h0
    split at h0
    · split at h0
      · cases h0
      · omega
    · cases h0
  · intro h0
    rw [if_pos (by omega), if_neg (by omega)]
theorem chk_cases (l h : Int) : (chk l h = 0 ∧ 0 ≤ l ∧ l ≤ h ∧ h ≤ 1000000) ∨ chk l h = 2 ∨ chk l h = 9 := by
  unfold chk isT
  by_cases h1 : (0 ≤ l ∧ l ≤ 1000000)
  · by_cases h2 : (0 ≤ h ∧ h ≤ 1000000)
    · by_cases h3 : h < l
      · simp [h1, h2, h3]
      · simp [h1, h2, h3]; omega
    · simp [h2]
  · simp [h1]

/-- A number of at most seven digits. -/
def numOk (l : List UInt8) : Bool := !l.isEmpty && decide (l.length ≤ 7) && (l.head? != some 48 || l.length == 1) && l.all isDig

/-- A text, cut at the first two points. -/
def cut2 : List UInt8 → List UInt8 × Option (List UInt8)
  | [] => ([], none)
  | [c] => ([c], none)
  | c :: d :: l => if c = 46 ∧ d = 46 then ([], some l) else (c :: (cut2 (d :: l)).1, (cut2 (d :: l)).2)

theorem cut2_nil : cut2 [] = ([], none) := by unfold cut2; rfl
theorem cut2_one (c : UInt8) : cut2 [c] = ([c], none) := by unfold cut2; rfl
theorem cut2_two (c d : UInt8) (l : List UInt8) : cut2 (c :: d :: l) = if c = 46 ∧ d = 46 then ([], some l) else (c :: (cut2 (d :: l)).1, (cut2 (d :: l)).2) := by
  conv => lhs; unfold cut2

theorem cut2_index : ∀ l : List UInt8, (Lib.index l [46, 46] = -1 ∧ cut2 l = (l, none)) ∨ (∃ k : Nat, Lib.index l [46, 46] = k ∧ cut2 l = (l.take k, some (l.drop (k + 2))))
  | [] => .inl ⟨rfl, cut2_nil⟩
  | [c] => by
    left
    refine ⟨?_, cut2_one c⟩
    have : ([46, 46] : List UInt8).isPrefixOf [c] = false := by simp [List.isPrefixOf]
    rw [Lib.index, this]; rfl
  | c :: d :: l => by
    by_cases hc : c = 46 ∧ d = 46
    · obtain ⟨rfl, rfl⟩ := hc
      exact .inr ⟨0, by simp [Lib.index, List.isPrefixOf], by rw [cut2_two, if_pos ⟨rfl, rfl⟩]; simp⟩
    · have hp : ([46, 46] : List UInt8).isPrefixOf (c :: d :: l) = false := by
        simp [List.isPrefixOf]; intro h1 h2; exact hc ⟨h1.symm, h2.symm⟩
      rcases cut2_index (d :: l) with ⟨h1, h2⟩ | ⟨k, h1, h2⟩
      · left
        refine ⟨by rw [Lib.index, hp, h1]; rfl, by rw [cut2_two, if_neg hc, h2]⟩
      · right
        refine ⟨k + 1, ?_, by rw [cut2_two, if_neg hc, h2]; rfl⟩
        rw [Lib.index, hp, h1]
        have : (((k : Nat) : Int) == -1) = false := by rw [beq_eq_false_iff_ne]; omega
        rw [if_neg (by simp), if_neg (by rw [this]; simp)]
        omega
theorem cut_dots (l : List UInt8) : Lib.cut l [46, 46] = ((cut2 l).1, (cut2 l).2.getD [], (cut2 l).2.isSome) := by
  unfold Lib.cut
  rcases cut2_index l with ⟨h1, h2⟩ | ⟨k, h1, h2⟩
  · rw [h1, h2, if_neg (by omega)]; rfl
  · rw [h1, h2, if_pos (by omega)]; simp

theorem cut2_join : ∀ (l : List UInt8), l = (cut2 l).1 ++ (match (cut2 l).2 with | none => [] | some m => 46 :: 46 :: m)
  | [] => by rw [cut2_nil]; rfl
  | [c] => by rw [cut2_one]; rfl
  | c :: d :: l => by
    rw [cut2_two]
    by_cases hc : c = 46 ∧ d = 46
    · obtain ⟨rfl, rfl⟩ := hc
      rw [if_pos ⟨rfl, rfl⟩]; rfl
    · rw [if_neg hc]
      have h := cut2_join (d :: l)
      simp only [List.cons_append]
      rw [← h]
theorem cut2_digs : ∀ (l m : List UInt8), l.all isDig = true → cut2 (l ++ 46 :: 46 :: m) = (l, some m)
  | [], m, _ => by rw [List.nil_append, cut2_two, if_pos ⟨rfl, rfl⟩]
  | c :: l, m, h => by
    have hc : isDig c = true := by simp only [List.all_cons, Bool.and_eq_true] at h; exact h.1
    have hl : l.all isDig = true := by simp only [List.all_cons, Bool.and_eq_true] at h; exact h.2
    have h46 : c ≠ 46 := by intro e; subst e; revert hc; decide
    have ih := cut2_digs l m hl
    cases l with
    | nil =>
      simp only [List.nil_append, List.cons_append] at ih ⊢
      rw [cut2_two, if_neg (fun h => h46 h.1), ih]
    | cons d l =>
      simp only [List.cons_append] at ih ⊢
      rw [cut2_two, if_neg (fun h => h46 h.1), ih]
theorem cut2_only : ∀ (l : List UInt8), l.all isDig = true → cut2 l = (l, none)
  | [], _ => cut2_nil
  | [c], _ => cut2_one c
  | c :: d :: l, h => by
    have hc : isDig c = true := by simp only [List.all_cons, Bool.and_eq_true] at h; exact h.1
    have hl : (d :: l).all isDig = true := by simp only [List.all_cons, Bool.and_eq_true] at h ⊢; exact h.2
    have h46 : c ≠ 46 := by intro e; subst e; revert hc; decide
    rw [cut2_two, if_neg (fun h => h46 h.1), cut2_only _ hl]

/-- The text of a span. -/
def txt (l h : Int) : List UInt8 := if l < h then render l.toNat ++ 46 :: 46 :: render h.toNat else render l.toNat
/-- What Format returns. -/
def fmtV (l h : Int) : List UInt8 × Int := if chk l h = 0 then (txt l h, 0) else ([], chk l h)
def sndT (s : List UInt8) : List UInt8 := (cut2 s).2.getD (cut2 s).1
/-- What Parse returns. -/
def parV (s : List UInt8) : (Int × Int) × Int :=
  if s.length ≤ 24 ∧ numOk (cut2 s).1 = true ∧ numOk (sndT s) = true then
    (if chk (dv (cut2 s).1) (dv (sndT s)) ≠ 0 then ((0, 0), chk (dv (cut2 s).1) (dv (sndT s)))
     else if (cut2 s).2.isSome = true ∧ dv (cut2 s).1 = dv (sndT s) then ((0, 0), 3) else (((dv (cut2 s).1 : Nat), (dv (sndT s) : Nat)), 0))
  else ((0, 0), 4)

theorem numOk_render {n : Nat} (h : n ≤ 1000000) : numOk (render n) = true := by
  unfold numOk
  have h1 := render_all n
  have h2 := render_pos n
  have h3 : (render n).length ≤ 7 := (render_len n 7 (by omega)).2 (by omega)
  have h4 : (render n).isEmpty = false := by cases hr : render n with | nil => rw [hr] at h2; simp at h2 | cons c l => rfl
  rw [h1, h4]
  simp only [Bool.not_false, Bool.true_and, Bool.and_true, Bool.and_eq_true, decide_eq_true_eq]
  refine ⟨h3, ?_⟩
  by_cases h0 : n = 0
  · subst h0; rw [render_zero]; rfl
  · have := render_head h0
    simp [this]
theorem numOk_all {l : List UInt8} (h : numOk l = true) : l.all isDig = true ∧ l ≠ [] ∧ l.length ≤ 7 ∧ (l.head? ≠ some 48 ∨ l = [48]) := by
  unfold numOk at h
  simp only [Bool.and_eq_true, Bool.not_eq_true', decide_eq_true_eq, Bool.or_eq_true, bne_iff_ne, beq_iff_eq] at h
  obtain ⟨⟨⟨h1, h2⟩, h3⟩, h4⟩ := h
  refine ⟨h4, by intro e; rw [e] at h1; simp at h1, h2, ?_⟩
  rcases h3 with h3 | h3
  · exact .inl h3
  · cases l with
    | nil => simp at h3
    | cons c l =>
      simp at h3; subst h3
      by_cases hc : c = 48
      · right; rw [hc]
      · left; simp [hc]
theorem numOk_back {l : List UInt8} (h : numOk l = true) : render (dv l) = l := by
  obtain ⟨h1, h2, _, h4⟩ := numOk_all h
  rcases h4 with h4 | h4
  · exact render_dv h1 h2 h4
  · subst h4; decide
theorem numOk_lt {l : List UInt8} (h : numOk l = true) : dv l < 10000000 := by
  obtain ⟨h1, _, h3, _⟩ := numOk_all h
  have := dv_lt h1
  exact Nat.lt_of_lt_of_le this (Nat.le_trans (Nat.pow_le_pow_right (by omega) h3) (by decide))

theorem render_seven {n : Nat} (h : n ≤ 1000000) : (render n).length ≤ 7 := (render_len n 7 (by omega)).2 (by omega)
theorem txt_len {l h : Int} (hc : chk l h = 0) : (txt l h).length ≤ 16 := by
  obtain ⟨h0, h1, h2⟩ := chk_zero.1 hc
  have e1 := render_seven (n := l.toNat) (by omega)
  have e2 := render_seven (n := h.toNat) (by omega)
  unfold txt
  split <;> simp <;> omega
/-- A text is read back. -/
theorem par_txt {l h : Int} (hc : chk l h = 0) : parV (txt l h) = ((l, h), 0) := by
  obtain ⟨h0, h1, h2⟩ := chk_zero.1 hc
  have hlen := txt_len hc
  have el : ((l.toNat : Nat) : Int) = l := by omega
  have eh : ((h.toNat : Nat) : Int) = h := by omega
  unfold parV
  by_cases hlt : l < h
  · have ht : txt l h = render l.toNat ++ 46 :: 46 :: render h.toNat := by unfold txt; rw [if_pos hlt]
    have hcut : cut2 (txt l h) = (render l.toNat, some (render h.toNat)) := by rw [ht]; exact cut2_digs _ _ (render_all _)
    have hs : sndT (txt l h) = render h.toNat := by unfold sndT; rw [hcut]; rfl
    rw [hs, hcut]
    simp only [dv_render]
    rw [if_pos ⟨by omega, numOk_render (by omega), numOk_render (by omega)⟩, el, eh, if_neg (by rw [hc]; simp), if_neg (by intro h; have := h.2; omega)]
  · have he : l = h := by omega
    have ht : txt l h = render l.toNat := by unfold txt; rw [if_neg hlt]
    have hcut : cut2 (txt l h) = (render l.toNat, none) := by rw [ht]; exact cut2_only _ (render_all _)
    have hs : sndT (txt l h) = render l.toNat := by unfold sndT; rw [hcut]; rfl
    subst he
    rw [hs, hcut]
    simp only [dv_render]
    rw [if_pos ⟨by omega, numOk_render (by omega), numOk_render (by omega)⟩, el, if_neg (by rw [hc]; simp), if_neg (by simp)]
/-- A text that is read is written again. -/
theorem txt_par {s : List UInt8} {l h : Int} (hp : parV s = ((l, h), 0)) : chk l h = 0 ∧ txt l h = s := by
  unfold parV at hp
  by_cases hok : s.length ≤ 24 ∧ numOk (cut2 s).1 = true ∧ numOk (sndT s) = true
  · rw [if_pos hok] at hp
    obtain ⟨_, n1, n2⟩ := hok
    by_cases hc : chk (dv (cut2 s).1) (dv (sndT s)) ≠ 0
    · rw [if_pos hc] at hp
      exact absurd (congrArg Prod.snd hp) hc
    · rw [if_neg hc] at hp
      have hc0 : chk (dv (cut2 s).1) (dv (sndT s)) = 0 := by simpa using hc
      by_cases hb : (cut2 s).2.isSome = true ∧ dv (cut2 s).1 = dv (sndT s)
      · rw [if_pos hb] at hp
        simp at hp
      · rw [if_neg hb] at hp
        simp only [Prod.mk.injEq, and_true] at hp
        obtain ⟨rfl, rfl⟩ := hp
        refine ⟨hc0, ?_⟩
        obtain ⟨g0, g1, g2⟩ := chk_zero.1 hc0
        have hj := cut2_join s
        have r1 := numOk_back n1
        have r2 := numOk_back n2
        unfold txt
        simp only [Int.toNat_natCast]
        cases hcut : (cut2 s).2 with
        | none =>
          have hs : sndT s = (cut2 s).1 := by unfold sndT; rw [hcut]; rfl
          rw [hs, if_neg (by omega), r1]
          rw [hcut] at hj
          simpa using hj.symm
        | some m =>
          have hs : sndT s = m := by unfold sndT; rw [hcut]; rfl
          rw [hs] at r2 hb g1 g2 ⊢
          have hne : dv (cut2 s).1 ≠ dv m := fun e => hb ⟨by rw [hcut]; rfl, e⟩
          rw [if_pos (by omega), r1, r2]
          rw [hcut] at hj
          exact hj.symm
  · rw [if_neg hok] at hp
    simp at hp
/-- Parse gives right spans, or none. -/
theorem par_right (s : List UInt8) : (parV s).2 = 0 → chk (parV s).1.1 (parV s).1.2 = 0 := by
  intro h
  have : parV s = (((parV s).1.1, (parV s).1.2), 0) := by rw [← h]
  exact (txt_par this).1
theorem par_bad (s : List UInt8) (h : (parV s).2 ≠ 0) : (parV s).1 = (0, 0) := by
  unfold parV at h ⊢
  split
  · rename_i h1
    rw [if_pos h1] at h
    split
    · rfl
    · rename_i h2
      rw [if_neg h2] at h
      split
      · rfl
      · rename_i h3
        rw [if_neg h3] at h
        exact absurd rfl h
  · rfl
theorem numOk_nil {l : List UInt8} (h : l = []) : numOk l = false := by subst h; rfl
theorem numOk_long {l : List UInt8} (h : 7 < l.length) : numOk l = false := by
  unfold numOk
  have : decide (l.length ≤ 7) = false := by simpa using h
  rw [this]; simp
theorem numOk_zero {l : List UInt8} (h : l.head? = some 48) (h1 : l ≠ [48]) : numOk l = false := by
  cases hn : numOk l with
  | false => rfl
  | true =>
    rcases (numOk_all hn).2.2.2 with h2 | h2
    · exact absurd h h2
    · exact absurd h2 h1
theorem numOk_rest {l : List UInt8} (h0 : l ≠ []) (h1 : l.length ≤ 7) (h2 : l.head? ≠ some 48 ∨ l = [48]) : numOk l = l.all isDig := by
  unfold numOk
  have e1 : l.isEmpty = false := by cases l with | nil => exact absurd rfl h0 | cons c l => rfl
  have e2 : (l.head? != some 48 || l.length == 1) = true := by
    rcases h2 with h2 | h2
    · simp [h2]
    · subst h2; rfl
  rw [e1, e2]
  simp [h1]
theorem dv_snoc (l : List UInt8) (c : UInt8) : dv (l ++ [c]) = dv l * 10 + dig c := by
  have h := dv_app l [c]
  have h1 : dv [c] = dig c := by unfold dv; simp [Limb.val]
  rw [h, h1]
  rfl
theorem dv_take {l : List UInt8} (h : numOk l = true) (j : Nat) : dv (l.take j) < 10000000 := by
  obtain ⟨h1, _, h3, _⟩ := numOk_all h
  have h4 : (l.take j).all isDig = true := by
    rw [List.all_eq_true] at h1 ⊢
    exact fun x hx => h1 x (List.mem_of_mem_take hx)
  have h5 : (l.take j).length ≤ 7 := Nat.le_trans (by rw [List.length_take]; omega) h3
  have := dv_lt h4
  exact Nat.lt_of_lt_of_le this (Nat.le_trans (Nat.pow_le_pow_right (by omega) h5) (by decide))
end Tm

