/- Rows of the reference. -/
import Derived.Test.YthjkcncfppndkaaDoorGM
namespace Pt
open Go
/-- The ports of a row of the reference: each name with a blank behind it. -/
def rport : Nat → Nat → ByteArray
  | 0, 1 => ⟨#[49, 32]⟩
  | 1, 4 => ⟨#[50, 32, 52, 32]⟩
  | 2, 0 => ⟨#[49, 32]⟩
  | 2, 1 => ⟨#[50, 32, 52, 32]⟩
  | 2, 2 => ⟨#[51, 32, 53, 32]⟩
  | 2, 3 => ⟨#[49, 50, 32, 49, 52, 32]⟩
  | 3, 0 => ⟨#[49, 32]⟩
  | 3, 1 => ⟨#[50, 32, 52, 32]⟩
  | 3, 2 => ⟨#[51, 32, 53, 32]⟩
  | 3, 3 => ⟨#[49, 52, 32]⟩
  | 4, 0 => ⟨#[49, 32]⟩
  | 4, 1 => ⟨#[50, 32]⟩
  | 4, 2 => ⟨#[51, 32]⟩
  | 4, 3 => ⟨#[49, 50, 32]⟩
  | 5, 0 => ⟨#[49, 32]⟩
  | 5, 1 => ⟨#[50, 32]⟩
  | 5, 2 => ⟨#[51, 32]⟩
  | 5, 3 => ⟨#[49, 48, 32]⟩
  | 6, 0 => ⟨#[49, 32]⟩
  | 6, 1 => ⟨#[50, 32]⟩
  | 6, 2 => ⟨#[51, 32]⟩
  | 7, 0 => ⟨#[49, 32]⟩
  | 7, 1 => ⟨#[50, 32]⟩
  | 7, 2 => ⟨#[51, 32]⟩
  | 8, 0 => ⟨#[49, 32, 49, 49, 32]⟩
  | 8, 1 => ⟨#[50, 32]⟩
  | 9, 0 => ⟨#[49, 32, 49, 49, 32]⟩
  | 9, 1 => ⟨#[50, 32]⟩
  | 10, 0 => ⟨#[49, 32]⟩
  | 10, 1 => ⟨#[50, 32]⟩
  | 10, 2 => ⟨#[51, 32]⟩
  | 11, 0 => ⟨#[49, 32]⟩
  | 11, 1 => ⟨#[50, 32]⟩
  | 12, 0 => ⟨#[49, 32]⟩
  | 12, 1 => ⟨#[50, 32]⟩
  | 12, 2 => ⟨#[51, 32]⟩
  | 12, 3 => ⟨#[49, 50, 32]⟩
  | 13, 0 => ⟨#[49, 32]⟩
  | 13, 1 => ⟨#[50, 32]⟩
  | 13, 2 => ⟨#[51, 32]⟩
  | 13, 3 => ⟨#[49, 50, 32]⟩
  | _, _ => ⟨#[]⟩
def rowsL (k : Nat) : List Value := [.string (cat k).word, .string (cat k).letter, .string (rport k 0), .string (rport k 1), .string (rport k 2), .string (rport k 3), .string (rport k 4)]
def rowsC : Array Value := ((List.range 14).map rowsL).flatten.toArray
theorem rows_at : ∀ k, k < 14 → ∀ j, j < 7 → rowsC[7 * k + j]? = (rowsL k)[j]? := by
  intro k hk j hj
  have h1 : k = 0 ∨ k = 1 ∨ k = 2 ∨ k = 3 ∨ k = 4 ∨ k = 5 ∨ k = 6 ∨ k = 7 ∨ k = 8 ∨ k = 9 ∨ k = 10 ∨ k = 11 ∨ k = 12 ∨ k = 13 := by omega
  have h2 : j = 0 ∨ j = 1 ∨ j = 2 ∨ j = 3 ∨ j = 4 ∨ j = 5 ∨ j = 6 := by omega
  rcases h1 with rfl | rfl | rfl | rfl | rfl | rfl | rfl | rfl | rfl | rfl | rfl | rfl | rfl | rfl <;> rcases h2 with rfl | rfl | rfl | rfl | rfl | rfl | rfl <;> rfl
end Pt
namespace Go.Proofs.YthjkcncfppndkaaDoor
open Go.RowKit
/-- The rows of the reference lie in a block. -/
def SeeRows (w : World) (g : Nat) : Prop := g < w.heap.size ∧ ∀ k, k < 14 → ∀ j, j < 7 → w.cell? ⟨g, 7 * k + j, none⟩ = (Pt.rowsL k)[j]?
set_option maxHeartbeats 4000000 in
set_option maxRecDepth 100000 in
theorem rRows_any (w : World) : Calls Tryd.prog 40 #[] w fun e w' => ∃ g, e = .returned (.slice (some ⟨g, 0, none⟩) 14 14) ∧ SeeRows w' g ∧ Below w.heap.size w w' := by
  go_enter Tryd.func40, Tryd.ntmps40
  go_wp2
  refine bodyPost_ret (v := .slice (some ⟨w.heap.size, 0, none⟩) 14 14) ?_ rfl ?_
  · simp [results, Tryd.results40, go_sem]
  · refine ⟨w.heap.size, rfl, ⟨by simp, fun k hk j hj => ?_⟩, (Below.refl _ _).alloc (Nat.le_refl _) _⟩
    have h := Pt.rows_at k hk j hj
    rw [← h]
    obtain ⟨v, hv⟩ : ∃ v, Pt.rowsC[7 * k + j]? = some v := ⟨_, Array.getElem?_eq_getElem (show 7 * k + j < 98 by omega)⟩
    rw [hv]
    exact cell_new rfl hv
end Go.Proofs.YthjkcncfppndkaaDoor
