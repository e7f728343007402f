/- Graphs that came in. -/
import Derived.Test.YtkjhockppkdakaaRows
import Derived.Test.YtkjhockppkdakaaDa
import Derived.Lib.SmallJoins
import Derived.Deep.Slices
import Derived.Deep.SlicePairs
import Derived.Carry
import Derived.ProofKit
namespace Go.Proofs.Ytkjhockppkdakaa
open Go.ChangeShapes Go.WideShapes Go.ChangeAt Go.RowKit

theorem own0 : ownKnob Try.prog.godebug = none := by kernel_rfl
theorem laidOut0 : laidOutB Try.prog = true := by kernel_rfl
section
variable {H : Type} {enc : TypeId × Value → H}
set_option maxRecDepth 100000 in
/-- A graph that came in. -/
theorem open_graph {W : World} {base : Nat} {v : Value} {d : DataW H} {p : List MemPlace} (hv : Value.okWide Try.prog W .any base 24 v) (h : DataW.Trod enc Try.prog W 0 (fun _ => true) true 24 v d p) (hlt : ∀ x ∈ p, x.block < W.heap.size) :
    ∃ n u E, v = .agg #[.int .i64 n, u] ∧ SeesE W u E := by
  obtain ⟨v0, v1, y0, y1, fuel, rfl, -, rfl, h0, h1⟩ := Go.Joins.open_agg2 Try.underlying24 (by kernel_rfl) (by kernel_rfl) hv h
  obtain ⟨n, hn0, -, -⟩ := DataW.trod_int Try.underlying3 h0
  simp only [List.cons.injEq, and_true] at hn0
  subst hn0
  rcases Deep.open_slice_pairs Try.underlying22 Try.underlying60 (by kernel_rfl) rfl rfl (by kernel_rfl) (by kernel_rfl) h1 with ⟨hcs, hx⟩ | ⟨a, len, cap, m, n', V0, V1, D0, D1, P0, P1, hcs, _, hl, hm, hmm, hx, hcell⟩
  · simp only [List.cons.injEq, and_true] at hcs
    subst hcs
    exact ⟨n, _, [], rfl, none, 0, rfl, Nat.le_refl _, by omega, fun h => by simp at h⟩
  · simp only [List.cons.injEq, and_true] at hcs
    subst hcs
    simp only [if_true] at hmm
    subst hmm
    obtain ⟨X, hX⟩ := Deep.choose_lt (p := fun i (q : Int × Int) => V0 i = .int .i64 q.1 ∧ V1 i = .int .i64 q.2) (n := m) (fun i hi => by
      obtain ⟨z, h1, _, w1⟩ := DataW.trod_int Try.underlying3 (hcell i hi).2.2.1
      obtain ⟨u, h2, _, w2⟩ := DataW.trod_int Try.underlying3 (hcell i hi).2.2.2
      exact ⟨(z, u), by simpa using h1, by simpa using h2⟩)
    have hlen : ((List.range len).map X).length = len := by simp
    have hg : ∀ i, i < len → ((List.range len).map X).getD i (0, 0) = X i := fun i hi => by simp [hi]
    refine ⟨n, _, (List.range len).map X, rfl, some a, m, by rw [hlen], by rw [hlen]; exact hl, by unfold maxLen at hm; omega, fun hp0 => ?_⟩
    rw [hlen] at hp0
    obtain ⟨b, off, spot⟩ := a
    have hspot : spot = none := by simpa [Addr.add] using World.cell?_spot (hcell 0 (by omega)).1
    subst hspot
    have hbW : b < W.heap.size := World.block_lt_of_cell? W _ (hcell 0 (by omega)).1
    refine ⟨b, off, rfl, hbW, fun i hi => ?_⟩
    rw [hlen] at hi
    obtain ⟨h1, h2, _, _⟩ := hcell i (by omega)
    obtain ⟨x1, x2⟩ := hX i (by omega)
    have ap : ∀ k, (⟨b, off, none⟩ : Addr).add k = ⟨b, off + k, none⟩ := fun k => by unfold Addr.add; split <;> simp_all
    rw [ap] at h1 h2
    rw [hg i hi, ← x1, ← x2]
    exact ⟨h1, by rw [Nat.add_assoc]; exact h2⟩
end
end Go.Proofs.Ytkjhockppkdakaa
