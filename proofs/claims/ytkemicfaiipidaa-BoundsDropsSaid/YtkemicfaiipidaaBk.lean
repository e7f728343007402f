/- Lowering along bounds: a round of indices with a negative sum. Plain facts, of no program. -/
import Derived.Test.YtkemicfaiipidaaBp
namespace Bn
/-- One lowering in place. -/
def lowS (b : Mx) (low : Nat → Int) (i j : Nat) : Int := sm (low i) (b i j)
def hit (b : Mx) (low : Nat → Int) (i j : Nat) : Bool := decide (lowS b low i j ≠ -1099511627776) && decide (lowS b low i j < low j)
def upN {α : Type} (f : Nat → α) (j : Nat) (x : α) : Nat → α := fun a => if a = j then x else f a
/-- What stands in round r before the pair i, j; c = r (n + 2). -/
structure Bf (n : Nat) (b : Mx) (c r i j : Nat) (low : Nat → Int) (fr : Nat → Nat) (last : Nat) : Prop where
  le : ∀ a, a ≤ n → low a ≤ 0
  ge : ∀ a, a ≤ n → -(64000000 * ((c : Int) + i + 1)) ≤ low a
  row : i ≤ n → -(64000000 * ((c : Int) + i)) ≤ low i
  lst : last ≤ n
  frm : ∀ a, fr a ≤ n
  ex : ∃ (lev T : Nat → Nat) (tau : Nat), (∀ a, a ≤ n → lev a ≤ r + 1) ∧ (∀ a, T a < tau) ∧
    (∀ a, a ≤ n → 1 ≤ lev a → b (fr a) a ≠ -1099511627776 ∧ low (fr a) + b (fr a) a ≤ low a ∧ lev a ≤ lev (fr a) + 1 ∧ (T a ≤ T (fr a) → low (fr a) + b (fr a) a < low a)) ∧
    (∀ x y, x ≤ n → y ≤ n → lev x < r → b x y ≠ -1099511627776 → low y ≤ low x + b x y) ∧
    (∀ x y, x ≤ n → y ≤ n → (x < i ∨ (x = i ∧ y < j)) → lev x ≤ r → b x y ≠ -1099511627776 → low y ≤ low x + b x y) ∧
    ((∀ a, a ≤ n → lev a ≤ r) ∨ lev last = r + 1)
section
variable {n : Nat} {b : Mx} (hR : Rt n b)
include hR
omit hR in
theorem Bf.start : Bf n b 0 0 0 0 (fun _ => 0) (fun _ => 0) 0 :=
  ⟨fun _ _ => Int.le_refl _, fun _ _ => by omega, fun _ => by omega, Nat.zero_le _, fun _ => Nat.zero_le _, fun _ => 0, fun _ => 0, 1, fun _ _ => Nat.zero_le _, fun _ => Nat.zero_lt_one, fun _ _ h => absurd h (Nat.not_succ_le_zero 0), fun _ _ _ _ h => absurd h (Nat.not_lt_zero _), fun _ _ _ _ h => by omega, .inl fun _ _ => Nat.le_refl _⟩
/-- The sum is in range. -/
theorem Bf.bd {c r i j : Nat} {low : Nat → Int} {fr : Nat → Nat} {last : Nat} (h : Bf n b c r i j low fr last) (hi : i ≤ n) (hc : c ≤ 200) : -4000000000000 ≤ low i ∧ low i ≤ 4000000000000 := by
  have h1 := h.row hi
  have h2 := h.le i hi
  have := hR.n12
  omega
theorem Bf.no {c r i j : Nat} {low : Nat → Int} {fr : Nat → Nat} {last : Nat} (h : Bf n b c r i j low fr last) (hi : i ≤ n) (hj : j ≤ n) (hc : c ≤ 200) (hh : hit b low i j = false) : Bf n b c r i (j + 1) low fr last := by
  obtain ⟨lev, T, tau, e1, e2, e3, e4, e5, e6⟩ := h.ex
  refine ⟨h.le, h.ge, h.row, h.lst, h.frm, lev, T, tau, e1, e2, e3, e4, fun x y hx hy hp hl hb => ?_, e6⟩
  by_cases e : x = i ∧ y = j
  · obtain ⟨rfl, rfl⟩ := e
    have h1 := h.row hi
    have h2 := h.le x hi
    have h3 := (hR.bd x y hi hj).resolve_left hb
    have hN := hR.n12
    have hs : lowS b low x y = low x + b x y := sm_add (by omega) hb
    unfold hit at hh
    rw [hs] at hh
    have : ¬ (low x + b x y < low y) := fun g => by simp [g] at hh; omega
    omega
  · exact e5 x y hx hy (by omega) hl hb
theorem Bf.yes {c r i j : Nat} {low : Nat → Int} {fr : Nat → Nat} {last : Nat} (h : Bf n b c r i j low fr last) (hi : i ≤ n) (hj : j ≤ n) (hh : hit b low i j = true) :
    Bf n b c r i (j + 1) (upN low j (lowS b low i j)) (upN fr j i) j := by
  obtain ⟨lev, T, tau, e1, e2, e3, e4, e5, e6⟩ := h.ex
  unfold hit at hh
  simp only [Bool.and_eq_true, decide_eq_true_eq] at hh
  obtain ⟨g1, g2⟩ := hh
  obtain ⟨f1, f2, f3⟩ := sm_ne g1
  have hs : lowS b low i j = low i + b i j := f3
  rw [hs] at g2 ⊢
  have h1 := h.row hi
  have h2 := h.le i hi
  have hN := hR.n12
  have hij : i ≠ j := fun e => by subst e; rw [hR.diag i hi] at g2; omega
  have hbd := (hR.bd i j hi hj).resolve_left f2
  have hlev : r ≤ lev i := Nat.le_of_not_lt fun g => by have := e4 i j hi hj g f2; omega
  have ui : ∀ {α : Type} (f : Nat → α) (x : α), upN f j x i = f i := fun f x => if_neg hij
  have uj : ∀ {α : Type} (f : Nat → α) (x : α), upN f j x j = x := fun f x => if_pos rfl
  have uo : ∀ {α : Type} (f : Nat → α) (x : α) (a : Nat), a ≠ j → upN f j x a = f a := fun f x a ha => if_neg ha
  have le2 : ∀ a, upN low j (low i + b i j) a ≤ low a := fun a => by
    by_cases e : a = j
    · rw [e, uj]; omega
    · rw [uo _ _ _ e]; exact Int.le_refl _
  refine ⟨fun a ha => Int.le_trans (le2 a) (h.le a ha), fun a ha => ?_, fun _ => by rw [ui]; exact h1, hj, fun a => ?_, upN lev j (r + 1), upN T j tau, tau + 1, fun a ha => ?_, fun a => ?_, fun a ha hl => ?_, fun x y hx hy hl hb => ?_, fun x y hx hy hp hl hb => ?_, .inr (uj _ _)⟩
  · by_cases e : a = j
    · rw [e, uj]; omega
    · rw [uo _ _ _ e]; exact h.ge a ha
  · by_cases e : a = j
    · rw [e, uj]; exact hi
    · rw [uo _ _ _ e]; exact h.frm a
  · by_cases e : a = j
    · rw [e, uj]; omega
    · rw [uo _ _ _ e]; exact e1 a ha
  · by_cases e : a = j
    · rw [e, uj]; omega
    · rw [uo _ _ _ e]; have := e2 a; omega
  · by_cases e : a = j
    · subst e
      rw [uj, uj, uj, uj, ui, ui, ui]
      exact ⟨f2, Int.le_refl _, by omega, fun g => by have := e2 i; omega⟩
    · rw [uo lev _ _ e] at hl ⊢
      rw [uo fr _ _ e, uo low _ _ e, uo T _ _ e]
      obtain ⟨p1, p2, p3, p4⟩ := e3 a ha hl
      by_cases e' : fr a = j
      · rw [e', uj, uj, uj]
        rw [e'] at p1 p2 p3 p4
        have := e1 a ha
        have := e1 j hj
        exact ⟨p1, by omega, by omega, fun _ => by omega⟩
      · rw [uo low _ _ e', uo lev _ _ e', uo T _ _ e']
        exact ⟨p1, p2, p3, p4⟩
  · by_cases e : x = j
    · rw [e, uj] at hl; omega
    · rw [uo lev _ _ e] at hl
      rw [uo low _ _ e]
      exact Int.le_trans (le2 y) (e4 x y hx hy hl hb)
  · by_cases e : x = j
    · rw [e, uj] at hl; omega
    · rw [uo lev _ _ e] at hl
      rw [uo low _ _ e]
      by_cases e' : x = i ∧ y = j
      · rw [e'.1, e'.2, uj]; exact Int.le_refl _
      · exact Int.le_trans (le2 y) (e5 x y hx hy (by omega) hl hb)
omit hR in
theorem Bf.nextRow {c r i : Nat} {low : Nat → Int} {fr : Nat → Nat} {last : Nat} (h : Bf n b c r i (n + 1) low fr last) : Bf n b c r (i + 1) 0 low fr last := by
  obtain ⟨lev, T, tau, e1, e2, e3, e4, e5, e6⟩ := h.ex
  exact ⟨h.le, fun a ha => by have := h.ge a ha; omega, fun hi => by have := h.ge (i + 1) hi; omega, h.lst, h.frm, lev, T, tau, e1, e2, e3, e4, fun x y hx hy hp hl hb => e5 x y hx hy (by omega) hl hb, e6⟩
omit hR in
theorem Bf.nextRound {c r : Nat} {low : Nat → Int} {fr : Nat → Nat} {last : Nat} (h : Bf n b c r (n + 1) 0 low fr last) : Bf n b (c + (n + 2)) (r + 1) 0 0 low fr last := by
  obtain ⟨lev, T, tau, e1, e2, e3, e4, e5, e6⟩ := h.ex
  exact ⟨h.le, fun a ha => by have := h.ge a ha; omega, fun hi => by have := h.ge 0 hi; omega, h.lst, h.frm, lev, T, tau, fun a ha => by have := e1 a ha; omega, e2, e3, fun x y hx hy hl hb => e5 x y hx hy (by omega) (by omega) hb, fun x y hx hy hp => by omega, .inl fun a ha => by have := e1 a ha; omega⟩
omit hR in
/-- Where nothing is lowered there is no negative round. -/
theorem tele {low : Nat → Int} (h : ∀ x y, x ≤ n → y ≤ n → b x y ≠ -1099511627776 → low y ≤ low x + b x y) : ∀ {L i j : Nat} {s : Int}, Wk n b L i j s → low j ≤ low i + s
  | 0, i, j, s, g => by
    obtain ⟨v, rfl, h2, _, _, rfl⟩ := g
    subst h2; simp [psum]
  | L + 1, i, j, s, g => by
    have hj := g.le.2
    obtain ⟨k, q, h1, h2, h3, rfl⟩ := g.last
    have := tele h h1
    have := h k j h2 hj h3
    omega
/-- A way back along the places before. -/
def bk (fr : Nat → Nat) (x : Nat) : Nat → Nat
  | 0 => x
  | t + 1 => fr (bk fr x t)
omit hR in
theorem bk_add (fr : Nat → Nat) (x s : Nat) : ∀ t, bk fr x (s + t) = bk fr (bk fr x s) t
  | 0 => rfl
  | t + 1 => by rw [← Nat.add_assoc, bk, bk_add fr x s t, bk]
/-- The sum of the bounds of the way back. -/
def bks (b : Mx) (fr : Nat → Nat) (x : Nat) : Nat → Int
  | 0 => 0
  | t + 1 => bks b fr x t + b (fr (bk fr x t)) (bk fr x t)
/-- Behind all rounds: from n + 1 places back on the way back goes round, and each round is negative. -/
theorem Bf.cyc {c : Nat} {low : Nat → Int} {fr : Nat → Nat} {last : Nat} (hno : ok n b = false) (h : Bf n b c n (n + 1) 0 low fr last) :
    ∃ p, 0 < p ∧ p ≤ n + 1 ∧ bk fr (bk fr last (n + 1)) p = bk fr last (n + 1) ∧
      (∀ t, b (fr (bk fr (bk fr last (n + 1)) t)) (bk fr (bk fr last (n + 1)) t) ≠ -1099511627776 ∧ bk fr (bk fr last (n + 1)) t ≤ n) ∧
      (∀ q, 0 < q → bk fr (bk fr last (n + 1)) q = bk fr last (n + 1) → bks b fr (bk fr last (n + 1)) q < 0) := by
  obtain ⟨lev, T, tau, e1, e2, e3, e4, e5, e6⟩ := h.ex
  have hlast : lev last = n + 1 := by
    rcases e6 with e6 | e6
    · exfalso
      have hall : ∀ x y, x ≤ n → y ≤ n → b x y ≠ -1099511627776 → low y ≤ low x + b x y := fun x y hx hy hb => e5 x y hx hy (by omega) (e6 x hx) hb
      obtain ⟨k, hk, hbad⟩ := ok_no hno
      obtain ⟨i, hi, hneg⟩ := bad_iff.1 hbad
      obtain ⟨L, _, hw⟩ := fw_walk (show k + 1 ≤ n + 1 by omega) hi hi (fw_diag hR hi)
      have := tele hall hw
      omega
    · exact e6
  have hin : ∀ t, bk fr last t ≤ n := fun t => by
    cases t with
    | zero => exact h.lst
    | succ t => exact h.frm _
  have hlv : ∀ t, t ≤ n + 1 → n + 1 ≤ lev (bk fr last t) + t := by
    intro t
    induction t with
    | zero => intro _; show n + 1 ≤ lev last + 0; omega
    | succ t ih =>
      intro ht
      have h1 := ih (by omega)
      have h2 := (e3 (bk fr last t) (hin t) (by omega)).2.2.1
      show n + 1 ≤ lev (fr (bk fr last t)) + (t + 1)
      omega
  obtain ⟨a, d, had, hd, heq⟩ := pigeon n (bk fr last) (fun t _ => hin t)
  have hper : ∀ t, bk fr last (d + t) = bk fr last (a + t) := fun t => by rw [bk_add, bk_add, heq]
  have hpos : ∀ t, 1 ≤ lev (bk fr last (a + t)) := by
    intro t
    induction t using Nat.strongRecOn with
    | _ t ih =>
      by_cases e : a + t ≤ n
      · have := hlv (a + t) (by omega); omega
      · have := ih (t - (d - a)) (by omega)
        rw [show a + t = d + (t - (d - a)) by omega, hper]
        exact this
  have hx : ∀ t, bk fr (bk fr last (n + 1)) t = bk fr last (a + (n + 1 - a + t)) := fun t => by rw [← bk_add]; congr 1; omega
  have good : ∀ t, 1 ≤ lev (bk fr (bk fr last (n + 1)) t) ∧ bk fr (bk fr last (n + 1)) t ≤ n := fun t => by rw [hx]; exact ⟨hpos _, hin _⟩
  refine ⟨d - a, by omega, by omega, ?_, fun t => ⟨(e3 _ (good t).2 (good t).1).1, (good t).2⟩, fun q hq hret => ?_⟩
  · rw [hx, show a + (n + 1 - a + (d - a)) = d + (n + 1 - a) by omega, hper]; congr 1; omega
  · generalize bk fr last (n + 1) = x0 at *
    have step : ∀ t, bks b fr x0 t ≤ low x0 - low (bk fr x0 t) := by
      intro t
      induction t with
      | zero => show (0 : Int) ≤ low x0 - low x0; omega
      | succ t ih =>
        have h2 := (e3 (bk fr x0 t) (good t).2 (good t).1).2.1
        show bks b fr x0 t + b (fr (bk fr x0 t)) (bk fr x0 t) ≤ low x0 - low (fr (bk fr x0 t))
        omega
    have strict : ∀ t, (∃ s, s < t ∧ T (bk fr x0 s) ≤ T (bk fr x0 (s + 1))) → bks b fr x0 t < low x0 - low (bk fr x0 t) := by
      intro t
      induction t with
      | zero => rintro ⟨s, hs, _⟩; omega
      | succ t ih =>
        rintro ⟨s, hs, hT⟩
        have h2 := (e3 (bk fr x0 t) (good t).2 (good t).1).2
        show bks b fr x0 t + b (fr (bk fr x0 t)) (bk fr x0 t) < low x0 - low (fr (bk fr x0 t))
        by_cases e : s = t
        · subst e
          have h4 := h2.2.2 hT
          have := step s
          omega
        · have := ih ⟨s, by omega, hT⟩
          omega
    have hex : ∃ s, s < q ∧ T (bk fr x0 s) ≤ T (bk fr x0 (s + 1)) := by
      apply Classical.byContradiction
      intro hne
      have hdesc : ∀ t, t ≤ q → T (bk fr x0 t) + t ≤ T x0 := by
        intro t
        induction t with
        | zero => intro _; exact Nat.le_refl _
        | succ t ih =>
          intro ht
          have h1 := ih (by omega)
          have h2 : ¬ T (bk fr x0 t) ≤ T (bk fr x0 (t + 1)) := fun g => hne ⟨t, by omega, g⟩
          omega
      have := hdesc q (Nat.le_refl _)
      rw [hret] at this
      omega
    have := strict q hex
    rw [hret] at this
    omega
end
end Bn

