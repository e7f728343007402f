/- The statement PartFlows. -/
import Derived.Test.YthjkcncfppndkaaDoorPtr
namespace Pt
theorem pos12f : ∀ k, k < 14 → (cat k).pos = 1 ∨ (cat k).pos = 2 := by decide +kernel
def keysO : Option (ByteArray × List ByteArray × Bool) → List ByteArray
  | none => []
  | some (t, _, _) => [t]
theorem keys_le (o : Option (ByteArray × List ByteArray × Bool)) : (keysO o).length ≤ 1 := by
  match o with
  | none => simp [keysO]
  | some (t, _, _) => simp [keysO]
theorem pre_roleR {r : Row} {s : ByteArray} (h : s ∈ pre r 5) {n : Nat} {e : Int} (hr : RoleF r s n e) : e = 0 := by
  obtain ⟨i, hi, hm⟩ := (mem_pre 5).1 h
  rcases hr with ⟨h1, h2, h3, rfl⟩ | ⟨_, _, h3⟩
  · rfl
  · exact absurd hm (h3 i hi)
theorem size_p : ∀ k : Nat, k < 14 → ∀ d : Nat, d < 2 → (((keysO (effV (cat k).eff d).1).all fun s => decide (s.size ≤ 100)) && (pre (cat k) 5).all fun s => decide (s.size ≤ 100)) = true := by decide +kernel
theorem pass_fact (k d : Nat) (hk : k < 14) (hd : d < 2) : ∀ t fr a, (effV (cat k).eff d).1 = some (t, fr, a) →
    t ∈ flds ((cat k).port 1) ∧ ¬ t ∈ flds ((cat k).port 0) ∧ ¬ fr.length = 0 ∧ ¬ t ∈ (effV (cat k).eff d).2 ∧ (∀ p, p ∈ fr → p ∈ flds ((cat k).port 0)) ∧ t.size ≤ 100 := by
  intro t fr a h
  have h1 := flow_a k hk d hd
  have h2 := size_p k hk d hd
  unfold flowA at h1
  rw [h] at h1 h2
  simp only [Bool.and_eq_true, Bool.not_eq_true', decide_eq_false_iff_not, List.all_eq_true, keysO, List.all_cons, List.all_nil, decide_eq_true_eq, Bool.and_true] at h1 h2
  obtain ⟨⟨⟨⟨a1, a2⟩, a3⟩, a4⟩, a5⟩ := h1
  refine ⟨memB_iff.1 a1, fun hm => ?_, a3, fun hm => ?_, fun p hp => memB_iff.1 (a5 p hp), h2.1⟩
  · rw [memB_iff.2 hm] at a2; cases a2
  · have := memB_iff.2 hm
    unfold venS at a4
    rw [this] at a4; cases a4
theorem port_fact (k d : Nat) (hk : k < 14) (hd : d < 2) (hp : (d : Int) < (cat k).pos) : ∀ s, s ∈ pre (cat k) 5 →
    (s ∈ (effV (cat k).eff d).2 → s ∈ flds ((cat k).port 1) ∧ ¬ s ∈ flds ((cat k).port 0)) ∧
    (1 < (cat k).pos → s ∈ flds ((cat k).port 1) → ¬ s ∈ flds ((cat k).port 0) → (s ∈ keysO (effV (cat k).eff d).1 ↔ ¬ s ∈ (effV (cat k).eff d).2)) ∧ s.size ≤ 100 := by
  intro s hs
  have h1 := flow_b k hk d hd hp
  have h2 := size_p k hk d hd
  simp only [Bool.and_eq_true, List.all_eq_true, decide_eq_true_eq] at h2
  unfold flowB at h1
  rw [List.all_eq_true] at h1
  have h := h1 s hs
  have hf : fedS k d s = memB s (keysO (effV (cat k).eff d).1) := by
    unfold fedS keysO
    generalize (effV (cat k).eff d).1 = o
    match o with
    | none => simp [memB]
    | some (t, _, _) =>
      simp only [memB, List.any_cons, List.any_nil, Bool.or_false]
      exact decide_eq_decide.2 ⟨fun h => h.symm, fun h => h.symm⟩
  rw [hf] at h
  unfold venS at h
  clear hf h1
  have no : ∀ {l : List ByteArray}, ¬ s ∈ l → memB s l = false := fun {l} hn => by
    cases h' : memB s l
    · rfl
    · exact absurd (memB_iff.1 h') hn
  refine ⟨fun hx => ?_, fun hx h0 hn => ?_, h2.2 s hs⟩
  · rw [memB_iff.2 hx] at h
    simp only [Bool.and_eq_true, Bool.or_eq_true, Bool.not_true, Bool.false_eq_true, false_or, Bool.not_eq_true'] at h
    exact ⟨memB_iff.1 h.1.1, fun hm => by have := h.1.2; rw [memB_iff.2 hm] at this; cases this⟩
  · rw [memB_iff.2 h0, no hn, decide_eq_true hx] at h
    by_cases a1 : s ∈ keysO (effV (cat k).eff d).1 <;> by_cases a2 : s ∈ (effV (cat k).eff d).2
    · rw [memB_iff.2 a1, memB_iff.2 a2] at h; simp at h
    · exact ⟨fun _ => a2, fun _ => a1⟩
    · exact ⟨fun h' => absurd h' a1, fun h' => absurd a2 h'⟩
    · rw [no a1, no a2] at h; simp at h
end Pt
namespace Go.Proofs.YthjkcncfppndkaaDoor
open Go.RowKit
theorem SeeP.at {w : World} {v : Value} {o : Option (ByteArray × List ByteArray × Bool)} (h : SeeP w v o) : ∃ a, v = .slice a (Pt.keysO o).length (Pt.keysO o).length ∧
    (0 < (Pt.keysO o).length → ∃ t fr b g u, o = some (t, fr, b) ∧ Pt.keysO o = [t] ∧ a = some ⟨g, 0, none⟩ ∧ g < w.heap.size ∧ w.cell? ⟨g, 0, none⟩ = some (.string t) ∧ w.cell? ⟨g, 1, none⟩ = some u ∧ w.cell? ⟨g, 2, none⟩ = some (.bool b) ∧ SeeS w u fr) := by
  match o, h with
  | none, h => exact ⟨_, h, fun h0 => absurd h0 (by simp [Pt.keysO])⟩
  | some (t, f, b), ⟨g, u, h1, h2, h3, h4, h5, h6⟩ => exact ⟨_, h1, fun _ => ⟨t, f, b, g, u, rfl, rfl, rfl, h2, h3, h4, h5, h6⟩⟩
end Go.Proofs.YthjkcncfppndkaaDoor
