/- Steps that came in inside of a struct, as a card hands them. -/
import Derived.Test.YtjpbccpleflkhaaDoorRR
namespace Go.Proofs.YtjpbccpleflkhaaDoor
open Go.ChangeShapes Go.WideShapes Go.RowKit
section
variable {H : Type} {enc : TypeId × Value → H}
/-- Steps that came in. -/
theorem open_stps {W : World} {v : Value} {n : Nat} {x : DataW H × List MemPlace} (hf : DataW.trod enc Tryd.prog W 0 (fun _ => true) true n 23 [v] = some x) (hlt : ∀ p ∈ x.2, p.block < W.heap.size) : ∃ L, SeeT W v L := by
  rcases Deep.open_slice_pairs Tryd.underlying23 Tryd.underlying70 (by kernel_rfl) rfl rfl (by kernel_rfl) (by kernel_rfl) hf with ⟨hcs, hx⟩ | ⟨a, len, cap, m, n, V0, V1, D0, D1, P0, P1, hcs, _, hl, hm, hmm, hx, hcell⟩
  · simp only [List.cons.injEq, and_true] at hcs
    subst hcs
    exact ⟨[], SeeT.nil W⟩
  · simp only [List.cons.injEq, and_true] at hcs
    subst hcs
    simp only [if_true] at hmm
    subst hmm
    have hp : x.2 = MemPlace.row a (m * 2) ++ (List.range m).flatMap fun i => P0 i ++ P1 i := by rw [hx]
    obtain ⟨X, hX⟩ := Deep.choose_lt (p := fun i (q : List Sk.Str × Int) => SeeK W (V0 i) q.1 ∧ V1 i = .int .i64 q.2) (n := m) (fun i hi => by
      obtain ⟨l, hs, _⟩ := open_strs (hcell i hi).2.2.1 (fun x hx => hlt x (by rw [hp]; exact List.mem_append_right _ (List.mem_flatMap.2 ⟨i, List.mem_range.2 hi, List.mem_append_left _ hx⟩)))
      obtain ⟨z, h1, _, _⟩ := DataW.trod_int Tryd.underlying3 (hcell i hi).2.2.2
      exact ⟨(l, z), hs, by simpa using h1⟩)
    have hlen : ((List.range len).map X).length = len := by simp
    have hg : ∀ i, i < len → ((List.range len).map X).getD i Sk.t0 = X i := fun i hi => by simp [hi]
    refine ⟨(List.range len).map X, ⟨some a, m, by rw [hlen], by rw [hlen]; exact hl, by unfold maxLen at hm; omega, fun hp0 => ?_⟩⟩
    rw [hlen] at hp0
    obtain ⟨b, off, spot⟩ := a
    have hspot : spot = none := by simpa [Addr.add] using World.cell?_spot (hcell 0 (by omega)).1
    subst hspot
    have hbW : b < W.heap.size := hlt (.cell b off) (by rw [hp]; exact List.mem_append_left _ (MemPlace.mem_row.2 ⟨0, by omega, by simp⟩))
    refine ⟨b, off, rfl, hbW, fun i hi => ?_⟩
    rw [hlen] at hi
    obtain ⟨h1, h2, _, _⟩ := hcell i (by omega)
    obtain ⟨x1, x2⟩ := hX i (by omega)
    have ap : ∀ k, (⟨b, off, none⟩ : Addr).add k = ⟨b, off + k, none⟩ := fun k => by unfold Addr.add; split <;> simp_all
    rw [ap] at h1 h2
    rw [hg i hi]
    exact ⟨⟨V0 i, h1, x1⟩, by rw [← x2, Nat.add_assoc]; exact h2⟩
end
end Go.Proofs.YtjpbccpleflkhaaDoor
