/- Plain facts for DigraphCondenses: the lists of the components, their numbers, the condensed graph. -/
import Derived.Test.YtkjhockppkdakaaDV
namespace Dg
/-- The edges of the condensed graph. -/
def ces (n : Nat) (es : List (Nat × Nat)) : List (Nat × Nat) := Go.Lib.compact (De.sortL (cE n es))
theorem ces_mem (n : Nat) (es : List (Nat × Nat)) (p : Nat × Nat) : p ∈ ces n es ↔ p ∈ cE n es := by unfold ces; rw [compact_mem, De.sortL_mem]
theorem ces_len (n : Nat) (es : List (Nat × Nat)) : (ces n es).length ≤ es.length := by
  have h1 := Go.Proofs.Ytkjhockppkdakaa.compact_le (De.sortL (cE n es))
  rw [De.sortL_length] at h1
  have h2 := cEi_len n es es.length
  rw [cEi_all] at h2
  unfold ces; omega
theorem ces_ok {n : Nat} {es : List (Nat × Nat)} (hE : Ok n es) : Ok (cnt (isL n es) n) (ces n es) := cE_ok hE (ces_mem n es)
theorem ces_full {n : Nat} {es : List (Nat × Nat)} (hE : Ok n es) : (ordL (cnt (isL n es) n) (ces n es)).length = cnt (isL n es) n := by
  refine (full_iff (ces_ok hE)).2 fun v hv => ?_
  cases h : onC (cnt (isL n es) n) (ces n es) v
  · rfl
  · obtain ⟨u, he, hr⟩ := (onC_iff (ces_ok hE) hv).1 h
    exact (cE_ring hE (ces_mem n es) he hr).elim
theorem ces_dist {n : Nat} {es : List (Nat × Nat)} (hE : Ok n es) {a b : Nat} (ha : a < n) (hb : b < n) : (0 ≤ dist (cnt (isL n es) n) (ces n es) (num n es a) (num n es b)) ↔ 0 ≤ dist n es a b := by
  rw [dist_rch (ces_ok hE) (num_lt hE ha).1, dist_rch hE ha]
  exact ⟨rch_cE hE (ces_mem n es) ha hb, cE_rch (ces_mem n es)⟩
/-- What stands in the list of a component. -/
theorem pL_at {n : Nat} {es : List (Nat × Nat)} (_ : Ok n es) {i : Nat} (hi : i < cnt (isL n es) n) {j : Nat} (hj : j < ((pL n es n).getD i []).length) : ∃ v : Nat, ((pL n es n).getD i []).getD j 0 = v ∧ v < n ∧ num n es v = i := by
  obtain ⟨f1, f2, f3⟩ := fr_of (isL n es) hi
  have hl : i < (lds n es n).length := hi
  unfold pL at hj ⊢
  rw [mapD _ hl] at hj ⊢
  have hm := getD_mem (d := (0 : Int)) hj
  unfold mem ci at hm
  obtain ⟨v, hv, he⟩ := List.mem_map.1 hm
  obtain ⟨h1, h2⟩ := List.mem_filter.1 hv
  refine ⟨v, he.symm, List.mem_range.1 h1, ?_⟩
  have h3 : ldr n es v = (lds n es n).getD i 0 := by simpa using h2
  unfold num; rw [h3]; exact f3
/-- The first lengths together. -/
def tot (n : Nat) (es : List (Nat × Nat)) (i : Nat) : Nat := (((pL n es n).take i).map List.length).sum
theorem tot_zero (n : Nat) (es : List (Nat × Nat)) : tot n es 0 = 0 := rfl
theorem tot_succ (n : Nat) (es : List (Nat × Nat)) {i : Nat} (hi : i < cnt (isL n es) n) : tot n es (i + 1) = tot n es i + ((pL n es n).getD i []).length := by
  unfold tot
  rw [take_at [] (by rw [pL_len]; exact hi), List.map_append, List.sum_append]
  simp
theorem tot_all {n : Nat} {es : List (Nat × Nat)} (hE : Ok n es) : tot n es (cnt (isL n es) n) = n := by
  unfold tot
  rw [List.take_of_length_le (by rw [pL_len]; exact Nat.le_refl _)]
  exact pL_sum hE
theorem tot_le {n : Nat} {es : List (Nat × Nat)} (hE : Ok n es) {i : Nat} (hi : i ≤ cnt (isL n es) n) : tot n es i ≤ n := by
  have key : ∀ d, i + d ≤ cnt (isL n es) n → tot n es i ≤ tot n es (i + d) := by
    intro d
    induction d with
    | zero => intro _; exact Nat.le_refl _
    | succ d ih =>
      intro h
      have h1 := tot_succ n es (i := i + d) (by omega)
      have h2 := ih (by omega)
      rw [← Nat.add_assoc, h1]; omega
  have := key (cnt (isL n es) n - i) (by omega)
  rw [show i + (cnt (isL n es) n - i) = cnt (isL n es) n by omega, tot_all hE] at this
  exact this
theorem nums_at (n : Nat) (es : List (Nat × Nat)) {v : Nat} (hv : v < n) : (nums n es n).getD v 0 = num n es v := by
  unfold nums
  rw [List.getD_eq_getElem?_getD, List.getElem?_map, List.getElem?_range hv]; rfl
end Dg
namespace Go.Proofs.Ytkjhockppkdakaa
open Go.RowKit Go.Shelf
/-- A cell that is there. -/
def CellV (W : World) (b i : Nat) (v : Value) : Prop := b < W.heap.size ∧ W.cell? ⟨b, i, none⟩ = some v
theorem CellV.step {W W' : World} {b i : Nat} {v : Value} (h : CellV W b i v) (hb : Below W.heap.size W W') : CellV W' b i v := ⟨Nat.lt_of_lt_of_le h.1 hb.size, (hb.cell (p := ⟨b, i, none⟩) h.1).trans h.2⟩
/-- Where lists of integers lie, if there are any. -/
def CellsL (w : World) (ao : Option Addr) (L : List (List Int)) : Prop :=
  0 < L.length → ∃ N, ao = some ⟨N, 0, none⟩ ∧ N < w.heap.size ∧ ∀ i, i < L.length → ∃ u, w.cell? ⟨N, i, none⟩ = some u ∧ SeesI w u (L.getD i [])
theorem SeesN.opened {w : World} {v : Value} {L : List (List Int)} (h : SeesN w v L) : ∃ ao cap, v = .slice ao L.length cap ∧ L.length ≤ cap ∧ cap ≤ 9223372036854775807 ∧ CellsL w ao L := by
  rcases h with ⟨rfl, rfl⟩ | ⟨N, cap, rfl, h1, h2, h3, h4⟩
  · exact ⟨none, 0, rfl, Nat.le_refl _, by omega, fun h => by simp at h⟩
  · exact ⟨_, cap, rfl, h1, h2, fun _ => ⟨N, rfl, h3, h4⟩⟩
theorem CellsL.at {w wr : World} {ao : Option Addr} {L : List (List Int)} (h : CellsL w ao L) (hb : Below w.heap.size w wr) {i : Nat} (hi : i < L.length) : ∃ N u, ao = some ⟨N, 0, none⟩ ∧ wr.cell? ⟨N, i, none⟩ = some u ∧ SeesI wr u (L.getD i []) := by
  obtain ⟨N, h1, h2, h3⟩ := h (by omega)
  obtain ⟨u, h4, h5⟩ := h3 i hi
  exact ⟨N, u, h1, (hb.cell (p := ⟨N, i, none⟩) h2).trans h4, h5.step hb⟩
theorem SeesN.cells {w : World} {ao : Option Addr} {k cap : Nat} {L : List (List Int)} (h : SeesN w (.slice ao k cap) L) : CellsL w ao L := by
  obtain ⟨ao', cap', h1, _, _, h4⟩ := h.opened
  simp only [Value.slice.injEq] at h1
  rw [h1.1]; exact h4
end Go.Proofs.Ytkjhockppkdakaa
