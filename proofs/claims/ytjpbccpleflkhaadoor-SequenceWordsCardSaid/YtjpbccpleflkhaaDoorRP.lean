/- Strokes that came in, as a card hands them. -/
import Derived.Test.YtjpbccpleflkhaaDoorROpen
import Derived.Deep.SlicePairs
import Derived.Lib.SmallJoins
namespace Go.Proofs.YtjpbccpleflkhaaDoor
open Go.ChangeShapes Go.WideShapes Go.RowKit
section
variable {H : Type} {enc : TypeId × Value → H}
/-- Strokes that came in. -/
theorem open_strs {W : World} {v : Value} {n : Nat} {x : DataW H × List MemPlace} (hf : DataW.trod enc Tryd.prog W 0 (fun _ => true) true n 34 [v] = some x) (hlt : ∀ p ∈ x.2, p.block < W.heap.size) :
    ∃ l, SeeK W v l ∧ ∀ n c, v = .slice none n c → c = 0 := by
  rcases Deep.open_slice_pairs Tryd.underlying34 Tryd.underlying47 (by kernel_rfl) rfl rfl (by kernel_rfl) (by kernel_rfl) hf with ⟨hcs, hx⟩ | ⟨a, len, cap, m, n, V0, V1, D0, D1, P0, P1, hcs, _, hl, hm, hmm, hx, hcell⟩
  · simp only [List.cons.injEq, and_true] at hcs
    subst hcs
    exact ⟨[], SeeK.nil W, fun n c e => by cases e; rfl⟩
  · simp only [List.cons.injEq, and_true] at hcs
    subst hcs
    simp only [if_true] at hmm
    subst hmm
    have hp : x.2 = MemPlace.row a (m * 2) ++ (List.range m).flatMap fun i => P0 i ++ P1 i := by rw [hx]
    obtain ⟨X, hX⟩ := Deep.choose_lt (p := fun i (q : Int × Bool) => V0 i = .int .i64 q.1 ∧ V1 i = .bool q.2) (n := m) (fun i hi => by
      obtain ⟨z, h1, _, w1⟩ := DataW.trod_int Tryd.underlying3 (hcell i hi).2.2.1
      obtain ⟨u, h2, _⟩ := DataW.trod_bool Tryd.underlying4 (hcell i hi).2.2.2
      exact ⟨(z, u), by simpa using h1, by simpa using h2⟩)
    have hlen : ((List.range len).map X).length = len := by simp
    have hg : ∀ i, i < len → ((List.range len).map X).getD i Sk.d0 = X i := fun i hi => by simp [hi]
    refine ⟨(List.range len).map X, ⟨some a, m, by rw [hlen], by rw [hlen]; exact hl, by unfold maxLen at hm; omega, fun hp0 => ?_⟩, fun n c e => by cases e⟩
    rw [hlen] at hp0
    obtain ⟨b, off, spot⟩ := a
    have hspot : spot = none := by simpa [Addr.add] using World.cell?_spot (hcell 0 (by omega)).1
    subst hspot
    have hbW : b < W.heap.size := hlt (.cell b off) (by rw [hp]; exact List.mem_append_left _ (MemPlace.mem_row.2 ⟨0, by omega, by simp⟩))
    refine ⟨b, off, rfl, hbW, fun i hi => ?_⟩
    rw [hlen] at hi
    obtain ⟨h1, h2, _, _⟩ := hcell i (by omega)
    obtain ⟨x1, x2⟩ := hX i (by omega)
    have ap : ∀ k, (⟨b, off, none⟩ : Addr).add k = ⟨b, off + k, none⟩ := fun k => by unfold Addr.add; split <;> simp_all
    rw [ap] at h1 h2
    rw [hg i hi, ← x1, ← x2]
    exact ⟨h1, by rw [Nat.add_assoc]; exact h2⟩
/-- Ends that came in. -/
theorem open_ends {W : World} {v : Value} {d : DataW H} {p : List MemPlace} (h : DataW.Trod enc Tryd.prog W 0 (fun _ => true) true 49 v d p) (hv : ∃ ao len cap, v = .slice ao len cap) (hlt : ∀ x ∈ p, x.block < W.heap.size) :
    ∃ l, SeeB W v l ∧ ∀ n c, v = .slice none n c → c = 0 := by
  obtain ⟨ao, len0, cap0, rfl⟩ := hv
  obtain ⟨fuel, hf⟩ := h
  rcases Deep.open_slice1 Tryd.underlying49 (show Tryd.prog.cellsOf 4 = 1 by kernel_rfl) hf with ⟨hcs, hx⟩ | ⟨a, len, cap, m, n, V, D, Pl, hcs, hb, hl, hm, hmm, hxx, hx⟩
  · simp [Value.cells] at hcs
    obtain ⟨rfl, rfl, rfl⟩ := hcs
    exact ⟨[], SeeB.nil W, fun n c e => by cases e; rfl⟩
  · simp [Value.cells] at hcs
    obtain ⟨rfl, rfl, rfl⟩ := hcs
    simp only [if_true] at hmm
    subst hmm
    simp only [Prod.mk.injEq] at hxx
    have hp := hxx.2
    obtain ⟨X, hX⟩ := Deep.choose_lt (p := fun i (q : Bool) => V i = .bool q) (n := m) (fun i hi => by
      obtain ⟨b, h1, _⟩ := DataW.trod_bool Tryd.underlying4 (hx i hi).2
      exact ⟨b, by simpa using h1⟩)
    have hlen : ((List.range len0).map X).length = len0 := by simp
    have hg : ∀ i, i < len0 → ((List.range len0).map X).getD i false = X i := fun i hi => by simp [hi]
    refine ⟨(List.range len0).map X, ⟨some a, m, by rw [hlen], by rw [hlen]; exact hl, by unfold maxLen at hm; omega, fun hp0 => ?_⟩, fun n c e => by cases e⟩
    rw [hlen] at hp0
    obtain ⟨b, off, spot⟩ := a
    have hspot : spot = none := by simpa [Addr.add] using World.cell?_spot (hx 0 (by omega)).1
    subst hspot
    have hbW : b < W.heap.size := hlt (.cell b off) (by rw [hp]; exact List.mem_append_left _ (MemPlace.mem_row.2 ⟨0, by omega, by simp⟩))
    refine ⟨b, off, rfl, hbW, fun i hi => ?_⟩
    rw [hlen] at hi
    have h1 := (hx i (by omega)).1
    have ap : ∀ k, (⟨b, off, none⟩ : Addr).add k = ⟨b, off + k, none⟩ := fun k => by unfold Addr.add; split <;> simp_all
    rw [ap] at h1
    rw [hg i hi, h1, hX i (by omega)]
end
end Go.Proofs.YtjpbccpleflkhaaDoor

