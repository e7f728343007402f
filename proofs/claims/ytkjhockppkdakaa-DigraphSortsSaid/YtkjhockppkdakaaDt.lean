/- The components of a graph, as the program numbers them. Plain facts. -/
import Derived.Test.YtkjhockppkdakaaDs
namespace Dg
def rch (es : List (Nat × Nat)) (u v : Nat) : Prop := ∃ k, ball es u k v = true
theorem rch_refl (es : List (Nat × Nat)) (u : Nat) : rch es u u := ⟨0, ball_zero.2 rfl⟩
theorem rch_snoc {es : List (Nat × Nat)} {u v w : Nat} (h : rch es u v) (he : (v, w) ∈ es) : rch es u w := by
  obtain ⟨k, hk⟩ := h
  exact ⟨k + 1, ball_succ.2 (.inr ⟨v, he, hk⟩)⟩
theorem rch_trans {es : List (Nat × Nat)} {u v w : Nat} (h1 : rch es u v) (h2 : rch es v w) : rch es u w := by
  obtain ⟨k, hk⟩ := h2
  induction k generalizing w with
  | zero => rw [ball_zero.1 hk]; exact h1
  | succ k ih =>
    rcases ball_succ.1 hk with hk | ⟨x, he, hx⟩
    · exact ih hk
    · exact rch_snoc (ih hx) he
theorem rch_rv_of {es : List (Nat × Nat)} {u v : Nat} (h : rch es u v) : rch (rv es) v u := by
  obtain ⟨k, hk⟩ := h
  induction k generalizing v with
  | zero => rw [ball_zero.1 hk]; exact rch_refl _ _
  | succ k ih =>
    rcases ball_succ.1 hk with hk | ⟨x, he, hx⟩
    · exact ih hk
    · exact rch_trans (rch_snoc (rch_refl _ _) (rv_mem.2 he)) (ih hx)
theorem rv_rv (es : List (Nat × Nat)) : rv (rv es) = es := by
  unfold rv; rw [List.map_map]; exact List.map_id es
theorem rch_rv {es : List (Nat × Nat)} {u v : Nat} : rch (rv es) v u ↔ rch es u v :=
  ⟨fun h => by have := rch_rv_of h; rwa [rv_rv] at this, rch_rv_of⟩
theorem dist_rch {n : Nat} {es : List (Nat × Nat)} {s v : Nat} (hE : Ok n es) (hs : s < n) : 0 ≤ dist n es s v ↔ rch es s v := by
  constructor
  · intro h
    obtain ⟨k, hk⟩ := Int.eq_ofNat_of_zero_le h
    exact ⟨k, (dist_ball hE hs).2 ⟨h, by omega⟩⟩
  · rintro ⟨k, hk⟩
    exact ((dist_ball hE hs).1 hk).1
/-- Do two vertices lie in one component? -/
def mu (n : Nat) (es : List (Nat × Nat)) (u v : Nat) : Bool := decide (0 ≤ dist n es u v) && decide (0 ≤ dist n (rv es) u v)
def isL (n : Nat) (es : List (Nat × Nat)) (v : Nat) : Bool := (List.range v).all fun u => !mu n es u v
def ldr (n : Nat) (es : List (Nat × Nat)) (w : Nat) : Nat := ((List.range n).find? fun u => mu n es u w).getD 0
def num (n : Nat) (es : List (Nat × Nat)) (w : Nat) : Nat := cnt (isL n es) (ldr n es w)
/-- What the map of numbers holds in the round of vertex j, up to i. -/
def nf (n : Nat) (es : List (Nat × Nat)) (j i : Nat) (w : Nat) : Option Nat := if w < n ∧ (ldr n es w < j ∨ (ldr n es w = j ∧ w < i)) then some (num n es w) else none
theorem isL_iff {n : Nat} {es : List (Nat × Nat)} {v : Nat} : isL n es v = true ↔ ∀ u, u < v → mu n es u v = false := by
  unfold isL; simp
section
variable {n : Nat} {es : List (Nat × Nat)} (hE : Ok n es)
include hE
theorem mu_iff {u v : Nat} (hu : u < n) : mu n es u v = true ↔ rch es u v ∧ rch es v u := by
  unfold mu
  rw [Bool.and_eq_true, decide_eq_true_eq, decide_eq_true_eq, dist_rch hE hu, dist_rch (rv_ok hE) hu, rch_rv]
theorem mu_refl {u : Nat} (hu : u < n) : mu n es u u = true := (mu_iff hE hu).2 ⟨rch_refl _ _, rch_refl _ _⟩
theorem mu_symm {u v : Nat} (hu : u < n) (hv : v < n) (h : mu n es u v = true) : mu n es v u = true := (mu_iff hE hv).2 ((mu_iff hE hu).1 h).symm
theorem mu_trans {u v w : Nat} (hu : u < n) (hv : v < n) (h : mu n es u v = true) (g : mu n es v w = true) : mu n es u w = true := by
  obtain ⟨h1, h2⟩ := (mu_iff hE hu).1 h
  obtain ⟨g1, g2⟩ := (mu_iff hE hv).1 g
  exact (mu_iff hE hu).2 ⟨rch_trans h1 g1, rch_trans g2 h2⟩
theorem ldr_spec {w : Nat} (hw : w < n) : ldr n es w ≤ w ∧ mu n es (ldr n es w) w = true ∧ ∀ u, u < ldr n es w → mu n es u w = false := by
  unfold ldr
  cases h : (List.range n).find? (fun u => mu n es u w) with
  | none => exact absurd (mu_refl hE hw) (by simpa using List.find?_eq_none.1 h w (List.mem_range.2 hw))
  | some k =>
    obtain ⟨h1, h2, h3⟩ := find_range.1 h
    refine ⟨?_, h2, h3⟩
    show k ≤ w
    refine Classical.byContradiction fun hk => ?_
    have := h3 w (by omega)
    rw [mu_refl hE hw] at this; cases this
theorem ldr_lt {w : Nat} (hw : w < n) : ldr n es w < n := Nat.lt_of_le_of_lt (ldr_spec hE hw).1 hw
theorem ldr_isL {w : Nat} (hw : w < n) : isL n es (ldr n es w) = true := by
  obtain ⟨h1, h2, h3⟩ := ldr_spec hE hw
  rw [isL_iff]
  intro u hu
  cases h : mu n es u (ldr n es w)
  · rfl
  · have := mu_trans hE (by omega) (by omega) h h2
    rw [h3 u hu] at this; cases this
theorem ldr_eq {v w : Nat} (hv : v < n) (hw : w < n) (hl : isL n es v = true) : mu n es v w = true ↔ ldr n es w = v := by
  obtain ⟨h1, h2, h3⟩ := ldr_spec hE hw
  constructor
  · intro h
    rcases Nat.lt_trichotomy (ldr n es w) v with e | e | e
    · have := mu_trans hE (by omega) hw h2 (mu_symm hE hv hw h)
      rw [isL_iff.1 hl _ e] at this; cases this
    · exact e
    · rw [h3 v e] at h; cases h
  · rintro rfl; exact h2
theorem isL_ldr {v : Nat} (hv : v < n) : isL n es v = true ↔ ldr n es v = v :=
  ⟨fun h => (ldr_eq hE hv hv h).1 (mu_refl hE hv), fun h => by have := ldr_isL hE hv; rwa [h] at this⟩
theorem nf_known {v : Nat} (hv : v < n) (h : isL n es v = false) : nf n es v 0 v = some (num n es v) := by
  have h1 := (ldr_spec hE hv).1
  have h2 : ldr n es v ≠ v := fun e => by rw [(isL_ldr hE hv).2 e] at h; cases h
  unfold nf
  rw [if_pos ⟨hv, .inl (by omega)⟩]
theorem nf_new {v : Nat} (hv : v < n) (h : isL n es v = true) : nf n es v 0 v = none := by
  have h2 := (isL_ldr hE hv).1 h
  unfold nf
  rw [if_neg (by omega)]
theorem nf_skip {v : Nat} (h : isL n es v = false) (w : Nat) : nf n es v 0 w = nf n es (v + 1) 0 w := by
  unfold nf
  by_cases hw : w < n
  · have h1 : ldr n es w ≠ v := fun e => by have := ldr_isL hE hw; rw [e, h] at this; cases this
    by_cases h2 : ldr n es w < v
    · rw [if_pos ⟨hw, .inl h2⟩, if_pos ⟨hw, .inl (by omega)⟩]
    · rw [if_neg (by omega), if_neg (by omega)]
  · rw [if_neg (by omega), if_neg (by omega)]
theorem nf_put {v i : Nat} (hv : v < n) (hi : i < n) (hl : isL n es v = true) (h : mu n es v i = true) (y : Nat) : (if y = i then some (cnt (isL n es) v) else nf n es v i y) = nf n es v (i + 1) y := by
  have h1 := (ldr_eq hE hv hi hl).1 h
  unfold nf
  by_cases e : y = i
  · subst e
    rw [if_pos rfl, if_pos ⟨hi, .inr ⟨h1, by omega⟩⟩]
    unfold num; rw [h1]
  · rw [if_neg e]
    by_cases g : y < n ∧ (ldr n es y < v ∨ (ldr n es y = v ∧ y < i))
    · rw [if_pos g, if_pos (by omega)]
    · rw [if_neg g, if_neg (by omega)]
theorem nf_same {v i : Nat} (hv : v < n) (hi : i < n) (hl : isL n es v = true) (h : mu n es v i = false) (y : Nat) : nf n es v i y = nf n es v (i + 1) y := by
  have h1 : ldr n es i ≠ v := fun e => by rw [(ldr_eq hE hv hi hl).2 e] at h; cases h
  unfold nf
  by_cases e : y = i
  · subst e
    by_cases g : ldr n es y < v
    · rw [if_pos ⟨hi, .inl g⟩, if_pos ⟨hi, .inl g⟩]
    · rw [if_neg (by omega), if_neg (by omega)]
  · by_cases g : y < n ∧ (ldr n es y < v ∨ (ldr n es y = v ∧ y < i))
    · rw [if_pos g, if_pos (by omega)]
    · rw [if_neg g, if_neg (by omega)]
end
theorem nf_zero (n : Nat) (es : List (Nat × Nat)) (w : Nat) : none = nf n es 0 0 w := by
  unfold nf; rw [if_neg (by omega)]
theorem nf_all (n : Nat) (es : List (Nat × Nat)) (v w : Nat) : nf n es v n w = nf n es (v + 1) 0 w := by
  unfold nf
  by_cases g : w < n ∧ (ldr n es w < v ∨ (ldr n es w = v ∧ w < n))
  · rw [if_pos g, if_pos (by omega)]
  · rw [if_neg g, if_neg (by omega)]
theorem nf_end {n : Nat} {es : List (Nat × Nat)} (hE : Ok n es) {w : Nat} (hw : w < n) : nf n es n 0 w = some (num n es w) := by
  unfold nf; rw [if_pos ⟨hw, .inl (ldr_lt hE hw)⟩]
theorem num_lt {n : Nat} {es : List (Nat × Nat)} (hE : Ok n es) {w : Nat} (hw : w < n) : num n es w < cnt (isL n es) n ∧ num n es w < n := by
  have h1 := ldr_lt hE hw
  have h2 := ldr_isL hE hw
  have h3 : num n es w < cnt (isL n es) n := by
    unfold num
    have h4 := cnt_succ (isL n es) (ldr n es w)
    rw [h2] at h4
    have h5 : ∀ m k, k ≤ m → cnt (isL n es) k ≤ cnt (isL n es) m := fun m k hk => by
      induction m with
      | zero => rw [show k = 0 by omega]; exact Nat.le_refl _
      | succ m ih =>
        by_cases e : k = m + 1
        · rw [e]; exact Nat.le_refl _
        · have := ih (by omega); rw [cnt_succ]; omega
    have := h5 n (ldr n es w + 1) h1
    simp at h4
    omega
  exact ⟨h3, Nat.lt_of_lt_of_le h3 (cnt_le_n _ _)⟩
end Dg
