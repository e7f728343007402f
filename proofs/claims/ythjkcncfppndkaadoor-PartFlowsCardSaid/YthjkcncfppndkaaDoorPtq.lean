/- What PartFlows asks, as facts of the catalogue. -/
import Derived.Test.YthjkcncfppndkaaDoorPto
namespace Pt
/-- Whether a text is in a list. -/
def memB (s : ByteArray) (l : List ByteArray) : Bool := l.any fun x => decide (x = s)
theorem memB_iff {s : ByteArray} {l : List ByteArray} : memB s l = true ↔ s ∈ l := by
  unfold memB
  rw [List.any_eq_true]
  constructor
  · rintro ⟨x, hx, h⟩
    rw [decide_eq_true_eq] at h
    exact h ▸ hx
  · intro h
    exact ⟨s, h, decide_eq_true rfl⟩
/-- What leads to a port, if one is passed to. -/
def fedS (k d : Nat) (s : ByteArray) : Bool := match (effV (cat k).eff d).1 with
  | none => false
  | some (t, _, _) => decide (s = t)
def venS (k d : Nat) : List ByteArray := (effV (cat k).eff d).2
def flowA (k d : Nat) : Bool := match (effV (cat k).eff d).1 with
  | none => true
  | some (t, fr, _) => memB t (flds ((cat k).port 1)) && !memB t (flds ((cat k).port 0)) && !decide (fr.length = 0) && !memB t (venS k d) && fr.all fun p => memB p (flds ((cat k).port 0))
theorem flow_a : ∀ k, k < 14 → ∀ d, d < 2 → flowA k d = true := by decide +kernel
/-- A port that is vented gives pressure on; an output of a kind with positions is fed or vented, not both. -/
def flowB (k d : Nat) : Bool := (pre (cat k) 5).all fun s =>
  (!memB s (venS k d) || (memB s (flds ((cat k).port 1)) && !memB s (flds ((cat k).port 0)))) &&
  (!(decide (1 < (cat k).pos) && memB s (flds ((cat k).port 1)) && !memB s (flds ((cat k).port 0))) || (fedS k d s != memB s (venS k d)))
theorem flow_b : ∀ k : Nat, k < 14 → ∀ d : Nat, d < 2 → (d : Int) < (cat k).pos → flowB k d = true := by decide +kernel
/-- Each port of a kind has a role. -/
theorem pre_role (k : Nat) {s : ByteArray} (h : s ∈ pre (cat k) 5) {n : Nat} {e : Int} (hr : RoleF (cat k) s n e) : e = 0 ∧ n < 5 ∧ s ∈ flds ((cat k).port n) ∧ ∀ j, j < n → ¬ s ∈ flds ((cat k).port j) := by
  obtain ⟨i, hi, hm⟩ := (mem_pre 5).1 h
  rcases hr with ⟨h1, h2, h3, rfl⟩ | ⟨_, _, h3⟩
  · exact ⟨rfl, h1, h2, h3⟩
  · exact absurd hm (h3 i hi)
/-- The role of an output is 1, and only of an output. -/
theorem role_out {r : Row} {s : ByteArray} {n : Nat} {e : Int} (hr : RoleF r s n e) (h : s ∈ flds (r.port 1)) (h0 : ¬ s ∈ flds (r.port 0)) : n = 1 ∧ e = 0 := by
  refine role_one hr (.inl ⟨by omega, h, fun j hj => ?_, rfl⟩)
  obtain rfl : j = 0 := by omega
  exact h0
theorem role_in {r : Row} {s : ByteArray} {n : Nat} {e : Int} (hr : RoleF r s n e) (h : s ∈ flds (r.port 0)) : n = 0 ∧ e = 0 :=
  role_one hr (.inl ⟨by omega, h, fun j hj => by omega, rfl⟩)
theorem out_role {r : Row} {s : ByteArray} {e : Int} (hr : RoleF r s 1 e) : s ∈ flds (r.port 1) ∧ ¬ s ∈ flds (r.port 0) := by
  rcases hr with ⟨_, h2, h3, _⟩ | ⟨h, _⟩
  · exact ⟨h2, h3 0 (by omega)⟩
  · exact absurd h (by omega)
end Pt
