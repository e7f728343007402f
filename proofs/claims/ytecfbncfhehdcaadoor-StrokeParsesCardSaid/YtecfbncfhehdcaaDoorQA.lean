/- Strokes and steps: plain facts. -/
import Derived.Test.YtecfbncfhehdcaaDoorProg
namespace Sk
abbrev Str := Int × Bool
abbrev Stp := List Str × Int
def d0 : Str := (0, false)
def t0 : Stp := ([], 0)
/-- Is a number an actuator? -/
def act (n : Int) : Bool := decide (0 ≤ n) && decide (n < 6)
def chkS (a : Int) : Int := if act a then 0 else 2
def ordE (a b : Int) : Int := if b = a then 7 else (if b < a then 9 else 0)
def celE (l : List Str) (i : Nat) : Int := if act (l.getD i d0).1 then (if i = 0 then 0 else ordE (l.getD (i - 1) d0).1 (l.getD i d0).1) else 2
/-- The first that is not 0. -/
def fe (f : Nat → Int) : Nat → Int
  | 0 => 0
  | k + 1 => if fe f k = 0 then f k else fe f k
def chkL (l : List Str) : Int := fe (celE l) l.length
def tim (n : Int) : Bool := decide (0 ≤ n) && decide (n ≤ 1000000)
/-- The error of a step. -/
def chkP (l : List Str) (n : Int) : Int := if l.length = 0 then 13 else (if 6 < l.length then 5 else (if chkL l = 0 then (if tim n then 0 else 2) else chkL l))
theorem fe_all {f : Nat → Int} : ∀ {k : Nat}, (∀ i, i < k → f i = 0) → fe f k = 0
  | 0, _ => rfl
  | k + 1, h => by rw [fe, fe_all (fun i hi => h i (by omega)), if_pos rfl]; exact h k (by omega)
theorem fe_more {f : Nat → Int} {k : Nat} (h : fe f k ≠ 0) : ∀ {m : Nat}, k ≤ m → fe f m = fe f k
  | m, hm => by
    induction m with
    | zero => rw [show k = 0 by omega]
    | succ m ih =>
      by_cases e : k = m + 1
      · rw [e]
      · rw [fe, ih (by omega), if_neg h]
theorem fe_stop {f : Nat → Int} {k m : Nat} (h : ∀ i, i < k → f i = 0) (hk : f k ≠ 0) (hm : k < m) : fe f m = f k := by
  have e : fe f (k + 1) = f k := by rw [fe, fe_all h, if_pos rfl]
  rw [fe_more (by rw [e]; exact hk) (show k + 1 ≤ m by omega), e]
theorem fe_no {f : Nat → Int} : ∀ {k : Nat}, fe f k = 0 → ∀ i, i < k → f i = 0
  | k + 1, h, i, hi => by
    rw [fe] at h
    by_cases e : fe f k = 0
    · rw [if_pos e] at h
      by_cases g : i = k
      · rw [g]; exact h
      · exact fe_no e i (by omega)
    · rw [if_neg e] at h; exact absurd h e
theorem act_iff {n : Int} : act n = true ↔ 0 ≤ n ∧ n < 6 := by unfold act; simp
theorem tim_iff {n : Int} : tim n = true ↔ 0 ≤ n ∧ n ≤ 1000000 := by unfold tim; simp
theorem chkS_eq (a : Int) : chkS a = 0 ↔ 0 ≤ a ∧ a < 6 := by unfold chkS; rw [← act_iff]; split <;> simp_all
theorem chkS_or (a : Int) : chkS a = 0 ∨ chkS a = 2 := by unfold chkS; split <;> simp
theorem celE_act {l : List Str} {i : Nat} (h : celE l i = 0) : 0 ≤ (l.getD i d0).1 ∧ (l.getD i d0).1 < 6 := by
  unfold celE at h
  by_cases e : act (l.getD i d0).1 = true
  · exact act_iff.1 e
  · rw [if_neg e] at h; omega
theorem celE_ord {l : List Str} {i : Nat} (h : celE l (i + 1) = 0) : (l.getD i d0).1 < (l.getD (i + 1) d0).1 := by
  unfold celE at h
  by_cases e : act (l.getD (i + 1) d0).1 = true
  · rw [if_pos e, if_neg (by omega), Nat.add_sub_cancel] at h
    unfold ordE at h
    split at h
    · omega
    · split at h <;> omega
  · rw [if_neg e] at h; omega
/-- What a right list of strokes is. -/
structure RtL (l : List Str) : Prop where
  pos : 0 < l.length
  le6 : l.length ≤ 6
  act : ∀ i, i < l.length → 0 ≤ (l.getD i d0).1 ∧ (l.getD i d0).1 < 6
  ord : ∀ i, i + 1 < l.length → (l.getD i d0).1 < (l.getD (i + 1) d0).1
theorem chkL_ok {l : List Str} (h : chkL l = 0) : (∀ i, i < l.length → 0 ≤ (l.getD i d0).1 ∧ (l.getD i d0).1 < 6) ∧ ∀ i, i + 1 < l.length → (l.getD i d0).1 < (l.getD (i + 1) d0).1 :=
  ⟨fun i hi => celE_act (fe_no h i hi), fun i hi => celE_ord (fe_no h (i + 1) hi)⟩
theorem chkP_ok {l : List Str} {n : Int} (h : chkP l n = 0) : RtL l ∧ 0 ≤ n ∧ n ≤ 1000000 := by
  unfold chkP at h
  by_cases h1 : l.length = 0
  · rw [if_pos h1] at h; omega
  rw [if_neg h1] at h
  by_cases h2 : 6 < l.length
  · rw [if_pos h2] at h; omega
  rw [if_neg h2] at h
  by_cases h3 : chkL l = 0
  · rw [if_pos h3] at h
    by_cases h4 : tim n = true
    · exact ⟨⟨by omega, by omega, (chkL_ok h3).1, (chkL_ok h3).2⟩, tim_iff.1 h4⟩
    · rw [if_neg h4] at h; omega
  · rw [if_neg h3] at h; exact absurd h h3
theorem RtL.ords {l : List Str} (h : RtL l) : ∀ {j i : Nat}, i < j → j < l.length → (l.getD i d0).1 < (l.getD j d0).1
  | 0, i, hij, _ => by omega
  | j + 1, i, hij, hj => by
    have h1 := h.ord j hj
    by_cases e : i = j
    · rw [e]; exact h1
    · have := RtL.ords h (show i < j by omega) (by omega); omega
theorem chkP_of {l : List Str} {n : Int} (h : RtL l) (h1 : 0 ≤ n) (h2 : n ≤ 1000000) : chkP l n = 0 := by
  have hL : chkL l = 0 := fe_all fun i hi => by
    unfold celE
    rw [if_pos (act_iff.2 (h.act i hi))]
    rcases i with _ | i
    · rfl
    · rw [if_neg (by omega)]
      have := h.ord i hi
      unfold ordE
      rw [Nat.add_sub_cancel, if_neg (by omega), if_neg (by omega)]
  unfold chkP
  rw [if_neg (by have := h.pos; omega), if_neg (by have := h.le6; omega), if_pos hL, if_pos (tim_iff.2 ⟨h1, h2⟩)]
theorem bool_eq {a b : Bool} (h : a = true ↔ b = true) : a = b := by cases a <;> cases b <;> simp_all
end Sk

