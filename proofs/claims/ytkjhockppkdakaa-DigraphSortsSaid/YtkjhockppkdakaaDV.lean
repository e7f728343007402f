/- Plain facts on layers; Reverse and Layers of right graphs. -/
import Derived.Test.YtkjhockppkdakaaDH
import Derived.Test.YtkjhockppkdakaaDD
import Derived.Test.YtkjhockppkdakaaDT
namespace Dg
theorem top_edge {n : Nat} {es : List (Nat × Nat)} {L : List Int} (h : Top n es L) {a b : Nat} (he : (a, b) ∈ es) (ha : a < n) (hb : b < n) : ∃ p q : Nat, L.getD a 0 = p ∧ L.getD b 0 = q ∧ p < q := by
  obtain ⟨p, hp, hp1, _⟩ := h.2 a ha
  obtain ⟨q, hq, _, hq2⟩ := h.2 b hb
  exact ⟨p, q, hp, hq, hq2 (p + 1) (wk_succ.2 ⟨a, he, hp1⟩)⟩
theorem top_pred {n : Nat} {es : List (Nat × Nat)} {L : List Int} (hE : Ok n es) (h : Top n es L) {v : Nat} (hv : v < n) {q : Nat} (hq : L.getD v 0 = q) (h0 : q ≠ 0) : ∃ u, (u, v) ∈ es ∧ L.getD u 0 = (q : Int) - 1 := by
  obtain ⟨q', hq', hq1, _⟩ := h.2 v hv
  obtain rfl : q = q' := by omega
  obtain ⟨k, rfl⟩ : ∃ k, q = k + 1 := ⟨q - 1, by omega⟩
  obtain ⟨u, he, hu⟩ := wk_succ.1 hq1
  obtain ⟨p, r, hp, hr, hpr⟩ := top_edge h he (hE _ he).1 hv
  obtain ⟨p', hp', _, hp2⟩ := h.2 u (hE _ he).1
  have := hp2 k hu
  exact ⟨u, he, by omega⟩
/-- Has an edge from the layer before been found? -/
def fd (es : List (Nat × Nat)) (L : List Int) (q : Nat) (v j : Nat) : Bool := ((q : Int) == 0) || (es.take j).any fun e => e.2 == v && (L.getD e.1 0 == (q : Int) - 1)
theorem fd_zero (es : List (Nat × Nat)) (L : List Int) (q v : Nat) : fd es L q v 0 = ((q : Int) == 0) := by simp [fd]
theorem fd_succ {es : List (Nat × Nat)} (L : List Int) (q v : Nat) {j : Nat} (hj : j < es.length) : fd es L q v (j + 1) = (fd es L q v j || ((es.getD j (0, 0)).2 == v && (L.getD (es.getD j (0, 0)).1 0 == (q : Int) - 1))) := by
  unfold fd
  rw [take_at (0, 0) hj, List.any_append, ← Bool.or_assoc]
  simp
theorem fd_all {n : Nat} {es : List (Nat × Nat)} {L : List Int} (hE : Ok n es) (h : Top n es L) {v q : Nat} (hv : v < n) (hq : L.getD v 0 = q) : fd es L q v es.length = true := by
  unfold fd
  by_cases h0 : q = 0
  · simp [h0]
  · obtain ⟨u, he, hu⟩ := top_pred hE h hv hq h0
    rw [Bool.or_eq_true]
    right
    rw [List.take_length, List.any_eq_true]
    exact ⟨(u, v), he, by simp only [beq_self_eq_true, Bool.true_and, beq_iff_eq]; exact hu⟩
end Dg
namespace Go.Proofs.Ytkjhockppkdakaa
open Go.RowKit Go.Shelf

theorem SeesI.cellz {w : World} {ao : Option Addr} {k cap : Nat} {l : List Int} (h : SeesI w (.slice ao k cap) l) : CellsI w ao l := by
  rcases h with ⟨h1, rfl⟩ | ⟨b, off, cap', h1, _, _, h4, h5⟩
  · exact fun h => by simp at h
  · simp only [Value.slice.injEq] at h1
    exact fun _ => ⟨b, off, h1.1, h4, h5⟩
theorem dReverse_ok (m : Nat) (es : List (Nat × Nat)) (v : Value) (w : World) (hE : Dg.Ok m es) (hm : m ≤ 256) (hl : es.length ≤ 4096) (hv : SeesE w v (Dg.cst es)) :
    Calls Try.prog 22 #[.agg #[.int .i64 m, v]] w fun e w' => ∃ u, e = .returned (.tuple #[.agg #[.int .i64 m, u], .int .i64 0]) ∧ SeesE w' u (Dg.cst (Dg.rv es)) ∧ Below w.heap.size w w' := by
  have h := dReverse_any m (Dg.cst es) v w hv
  rw [Dg.ok_chk hm hl hE] at h
  simp only [if_true, Dg.swp_cst] at h
  exact h
theorem dLayers_full (n : Nat) (es : List (Nat × Nat)) (v : Value) (w : World) (hE : Dg.Ok n es) (hn : n ≤ 256) (he : es.length ≤ 4096) (hF : (Dg.ordL n es).length = n) (hv : SeesE w v (Dg.cst es)) :
    Calls Try.prog 29 #[.agg #[.int .i64 n, v]] w fun e w' => ∃ u L, e = .returned (.tuple #[u, .int .i64 0]) ∧ Dg.Top n es L ∧ SeesI w' u L ∧ Below w.heap.size w w' :=
  (dLayers_ok n es v w hE hn he hv).mono (by
    rintro e w' ⟨hb, ⟨u, L, _, hT, rfl, hs⟩ | ⟨hl, _⟩⟩
    · exact ⟨u, L, rfl, hT, hs, hb⟩
    · omega)
theorem dLayers_ring (n : Nat) (es : List (Nat × Nat)) (v : Value) (w : World) (hE : Dg.Ok n es) (hn : n ≤ 256) (he : es.length ≤ 4096) (hF : (Dg.ordL n es).length ≠ n) (hv : SeesE w v (Dg.cst es)) :
    Calls Try.prog 29 #[.agg #[.int .i64 n, v]] w fun e w' => e = .returned (.tuple #[.slice none 0 0, .int .i64 20]) ∧ Below w.heap.size w w' :=
  (dLayers_ok n es v w hE hn he hv).mono (by
    rintro e w' ⟨hb, ⟨u, L, hl, _, _, _⟩ | ⟨_, rfl⟩⟩
    · exact absurd hl hF
    · exact ⟨rfl, hb⟩)
end Go.Proofs.Ytkjhockppkdakaa
