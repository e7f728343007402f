/- Few and right of the laws; Distances, Reach, Reverse of the reference. -/
import Derived.Test.YtkjhockppkdakaaDI
namespace Dg
/-- What Few says. -/
def few (n : Int) (E : List (Int × Int)) : Bool := decide ((n ≤ 8 ∧ E.length ≤ 16) ∨ ((256 < n ∨ 4096 < E.length) ∧ E.length < 8192))
/-- What right says. -/
def rgt (n : Int) (E : List (Int × Int)) : Bool := decide (n ≤ 12 ∧ E.length ≤ 30 ∧ chk n E = 0)
/-- The edges with natural numbers. -/
def nE (E : List (Int × Int)) : List (Nat × Nat) := E.map fun e => (e.1.toNat, e.2.toNat)
theorem nE_cst (es : List (Nat × Nat)) : nE (cst es) = es := by
  unfold nE cst
  rw [List.map_map]
  conv => rhs; rw [← List.map_id es]
  exact List.map_congr_left fun e _ => by simp
theorem few_ok {n : Int} {E : List (Int × Int)} (hf : few n E = true) (h : chk n E = 0) : ∃ (m : Nat) (es : List (Nat × Nat)), n = m ∧ m ≤ 8 ∧ E = cst es ∧ es.length ≤ 16 ∧ Ok m es := by
  obtain ⟨m, es, rfl, hm, rfl, hl, hl2, hO⟩ := chk_zero h
  unfold few at hf
  simp only [decide_eq_true_eq, cst_len] at hf
  exact ⟨m, es, rfl, by omega, rfl, by omega, hO⟩
theorem rgt_ok {n : Int} {E : List (Int × Int)} (hf : rgt n E = true) : ∃ (m : Nat) (es : List (Nat × Nat)), n = m ∧ m ≤ 12 ∧ E = cst es ∧ es.length ≤ 30 ∧ Ok m es := by
  unfold rgt at hf
  simp only [decide_eq_true_eq] at hf
  obtain ⟨h1, h2, h⟩ := hf
  obtain ⟨m, es, rfl, hm, rfl, hl, hl2, hO⟩ := chk_zero h
  rw [cst_len] at h2
  exact ⟨m, es, rfl, by omega, rfl, by omega, hO⟩
theorem chkV_zero {n x : Int} {E : List (Int × Int)} (h : chkV n E [x] = 0) : chk n E = 0 ∧ 0 ≤ x ∧ x < n := by
  unfold chkV at h
  split at h
  · next hc =>
    split at h
    · next hv => simp [vtx] at hv; exact ⟨hc, hv.1, hv.2⟩
    · cases h
  · next hc => exact absurd h hc
end Dg
namespace Go.Proofs.Ytkjhockppkdakaa
open Go.RowKit Go.Shelf

set_option maxHeartbeats 2000000 in
set_option maxRecDepth 100000 in
theorem rFew_any (n : Int) (v : Value) (E : List (Int × Int)) (w : World) (hv : SeesE w v E) :
    Calls Try.prog 11 #[.agg #[.int .i64 n, v]] w fun e w' => e = .returned (.bool (Dg.few n E)) ∧ Below w.heap.size w w' := by
  obtain ⟨ao, cap, rfl, hc, hc2, -⟩ := hv
  obtain ⟨P0, L0, z0⟩ := gph_new w n (.slice ao E.length cap) 24
  generalize hX : w.alloc (.cells #[.int .i64 n, .slice ao E.length cap] 24) = X at *
  obtain ⟨p0, p1, p2⟩ := id P0
  have HL := Lib.hid L0
  have HF : Hid (Dg.few n E = decide ((n ≤ 8 ∧ E.length ≤ 16) ∨ ((256 < n ∨ 4096 < E.length) ∧ E.length < 8192))) := Lib.hid rfl
  clear L0 z0 P0
  generalize Dg.few n E = fw at *
  generalize E.length = k at *
  have fin : ∀ b : Bool, (b = true ↔ (n ≤ 8 ∧ k ≤ 16) ∨ ((256 < n ∨ 4096 < k) ∧ k < 8192)) → (b : Bool) = fw := fun b h => by
    rw [HF.out, Bool.eq_iff_iff, h, decide_eq_true_eq]
  have FIN := Lib.hid fin
  clear HF fin
  go_enter Try.func11, Try.ntmps11
  by_cases e1 : n ≤ 8
  · by_cases e2 : k ≤ 16
    · have d1 : decide (n ≤ 8) = true := by simp [e1]
      have d2 : decide ((k : Int) ≤ 16) = true := by simp; omega
      go_wp2
      go_ret
      exact ⟨ret_bool (FIN.out _ (by simp; omega)), HL.out⟩
    · have d1 : decide (n ≤ 8) = true := by simp [e1]
      have d2 : decide ((k : Int) ≤ 16) = false := by simp; omega
      have d3 : decide ((256 : Int) < n) = false := by simp; omega
      by_cases e4 : 4096 < k
      · have d4 : decide ((4096 : Int) < k) = true := by simp; omega
        go_wp2
        go_ret
        exact ⟨ret_bool (FIN.out _ (by simp; omega)), HL.out⟩
      · have d4 : decide ((4096 : Int) < k) = false := by simp; omega
        go_wp2
        go_ret
        exact ⟨ret_bool (FIN.out _ (by simp; omega)), HL.out⟩
  · have d1 : decide (n ≤ 8) = false := by simp [e1]
    by_cases e3 : 256 < n
    · have d3 : decide ((256 : Int) < n) = true := by simp; omega
      go_wp2
      go_ret
      exact ⟨ret_bool (FIN.out _ (by simp; omega)), HL.out⟩
    · have d3 : decide ((256 : Int) < n) = false := by simp; omega
      by_cases e4 : 4096 < k
      · have d4 : decide ((4096 : Int) < k) = true := by simp; omega
        go_wp2
        go_ret
        exact ⟨ret_bool (FIN.out _ (by simp; omega)), HL.out⟩
      · have d4 : decide ((4096 : Int) < k) = false := by simp; omega
        go_wp2
        go_ret
        exact ⟨ret_bool (FIN.out _ (by simp; omega)), HL.out⟩
end Go.Proofs.Ytkjhockppkdakaa
