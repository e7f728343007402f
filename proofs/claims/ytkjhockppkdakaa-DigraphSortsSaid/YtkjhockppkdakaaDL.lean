/- The examples of the law: Sample, awake. -/
import Derived.Test.YtkjhockppkdakaaDK
import Derived.Test.YtkjhockppkdakaaDI
namespace Dg
def S1 : List (Nat × Nat) := [(0, 2), (2, 1), (1, 0), (2, 3), (0, 3)]
def S2 : List (Nat × Nat) := [(3, 1), (1, 0), (3, 0), (2, 0)]
theorem S1_ok : Ok 5 S1 := by unfold Ok S1; decide
theorem S2_ok : Ok 4 S2 := by unfold Ok S2; decide
theorem S1_nb : nb S1 0 = [2, 3] ∧ nb S1 1 = [0] ∧ nb S1 2 = [1, 3] := by
  refine ⟨?_, ?_, ?_⟩ <;> simp [nb, adj, S1, ci, List.mergeSort, List.MergeSort.Internal.splitInTwo]
theorem a1 : distL 5 S1 1 = [1, 0, 2, 2, -1] := by decide +kernel
theorem a2 : dt 5 S1 0 2 = (2 : Nat) := by decide +kernel
theorem nx0 (v : Nat) : nx 5 S1 0 v = (near [0, 1, 2, -1, -1] (nb S1 v)).1.toNat := by
  unfold nx
  rw [show distL 5 (rv S1) 0 = [0, 1, 2, -1, -1] by decide +kernel]
theorem nx02 : nx 5 S1 0 2 = 1 := by rw [nx0, S1_nb.2.2]; decide +kernel
theorem nx01 : nx 5 S1 0 1 = 0 := by rw [nx0, S1_nb.2.1]; decide +kernel
theorem nx00 : nx 5 S1 0 0 = 2 := by rw [nx0, S1_nb.1]; decide +kernel
theorem pth02 : pth 5 S1 0 2 2 = [2, 1, 0] := by
  show [it 5 S1 0 2 0, it 5 S1 0 2 1, it 5 S1 0 2 2] = _
  simp only [it, nx02, nx01]
theorem onC0 : onC 5 S1 0 = true := by
  unfold onC
  rw [S1_nb.1, show distL 5 (rv S1) 0 = [0, 1, 2, -1, -1] by decide +kernel]
  decide +kernel
theorem cyc0 : cyc 5 S1 0 = [0, 2, 1] := by
  unfold cyc
  rw [nx00, a2, Int.toNat_natCast, pth02]; rfl
theorem a4 : pL 5 S1 5 = [[0, 1, 2], [3], [4]] := by decide +kernel
theorem a5 : cnt (isL 5 S1) 5 = 3 := by decide +kernel
theorem a6 : nums 5 S1 5 = [0, 0, 0, 1, 2] := by decide +kernel
theorem a7 : Go.Lib.compact (De.sortL (cE 5 S1)) = [(0, 1)] := by
  rw [show cE 5 S1 = [(0, 1), (0, 1)] by decide +kernel]
  rw [show De.sortL [(0, 1), (0, 1)] = [(0, 1), (0, 1)] by unfold De.sortL; simp [List.mergeSort, List.MergeSort.Internal.splitInTwo, De.ltOrd]]
  decide +kernel
theorem a8 : ordL 4 S2 = [2, 3, 1, 0] := by decide +kernel
end Dg
namespace Go.Proofs.Ytkjhockppkdakaa
open Go.RowKit Go.Shelf

theorem seesE_lit (w : World) (l : List (Int × Int)) (T : TypeId) (hl : l.length ≤ 1000) : SeesE (w.alloc (.cells (l.flatMap Dg.encE).toArray T)) (.slice (some ⟨w.heap.size, 0, none⟩) l.length l.length) l :=
  ⟨_, _, rfl, Nat.le_refl _, by omega, fun _ => ⟨w.heap.size, 0, rfl, by simp, fun i hi => ⟨by
    have := Dg.flat_get l i 0 hi (by omega)
    rw [Nat.add_zero] at this
    simp [this, Dg.encE], by
    have := Dg.flat_get l i 1 hi (by omega)
    simp [this, Dg.encE]⟩⟩⟩
theorem seesI_lit (w : World) (l : List Int) (T : TypeId) (hl : l.length ≤ 1000) : SeesI (w.alloc (.cells (l.map fun n => Value.int .i64 n).toArray T)) (.slice (some ⟨w.heap.size, 0, none⟩) l.length l.length) l :=
  .inr ⟨w.heap.size, 0, _, rfl, Nat.le_refl _, by unfold maxLen; omega, by simp, fun i hi => by
    rw [List.getD_eq_getElem?_getD, List.getElem?_eq_getElem hi]
    simp [hi]⟩
theorem SeesE.set {w : World} {g off len cap k o : Nat} {E : List (Int × Int)} {x : Value} (h : SeesE w (.slice (some ⟨g, off, none⟩) len cap) E) (hk : k ≠ g) : SeesE (w.setCell ⟨k, o, none⟩ x) (.slice (some ⟨g, off, none⟩) len cap) E := by
  obtain ⟨ao, cap', h1, h2, h3, h4⟩ := h
  simp only [Value.slice.injEq] at h1
  obtain ⟨rfl, rfl, rfl⟩ := h1
  refine ⟨_, _, rfl, h2, h3, fun hp => ?_⟩
  obtain ⟨g', off', e, g1, g2⟩ := h4 hp
  simp only [Option.some.injEq, Addr.mk.injEq, and_true] at e
  obtain ⟨rfl, rfl⟩ := e
  refine ⟨g, off, rfl, by simpa [World.setCell] using g1, fun i hi => ⟨?_, ?_⟩⟩
  · rw [World.cell?_setCell_far _ _ _ _ hk]; exact (g2 i hi).1
  · rw [World.cell?_setCell_far _ _ _ _ hk]; exact (g2 i hi).2

set_option maxHeartbeats 2000000 in
set_option maxRecDepth 100000 in
theorem sample_any (w : World) : Calls Try.prog 41 #[] w fun e w' => ∃ u, e = .returned (.agg #[.int .i64 5, u]) ∧ SeesE w' u (Dg.cst Dg.S1) ∧ Below w.heap.size w w' := by
  have S0 := seesE_lit (w.alloc (.cells #[.int .i64 5, .slice (some ⟨w.heap.size + 1, 0, none⟩) 5 5] 24)) (Dg.cst Dg.S1) 60 (by simp [Dg.cst, Dg.S1])
  have zX : (w.alloc (.cells #[.int .i64 5, .slice (some ⟨w.heap.size + 1, 0, none⟩) 5 5] 24)).heap.size = w.heap.size + 1 := by simp
  rw [zX] at S0
  have HS := Lib.hid S0
  have HL : Hid (Below w.heap.size w ((w.alloc (.cells #[.int .i64 5, .slice (some ⟨w.heap.size + 1, 0, none⟩) 5 5] 24)).alloc (.cells ((Dg.cst Dg.S1).flatMap Dg.encE).toArray 60))) := Lib.hid (((Below.refl _ _).alloc (Nat.le_refl _) _).alloc (by simp) _)
  clear zX S0
  go_enter Try.func41, Try.ntmps41
  go_wp2
  exact bodyPost_ret (v := .agg #[.int .i64 5, .slice (some ⟨w.heap.size + 1, 0, none⟩) 5 5]) (by simp [results, Try.results41, go_sem]) rfl ⟨_, rfl, HS.out, HL.out⟩

/-- slices.Equal of slices that read as one list. -/
theorem sEqual_any (v u : Value) (l : List Int) (w : World) (hl : l.length ≤ 1048576) (h1 : SeesI w v l) (h2 : SeesI w u l) : Calls Try.prog 42 #[v, u] w fun e w' => e = .returned (.bool true) ∧ Below w.heap.size w w' := by
  obtain ⟨a1, c1, rfl, p1, q1, k1⟩ := h1.opened
  obtain ⟨a2, c2, rfl, p2, q2, k2⟩ := h2.opened
  rcases Nat.eq_zero_or_pos l.length with h0 | hp
  · obtain rfl := List.eq_nil_of_length_eq_zero h0
    refine (Try.slices_Equal_int_empty a1 a2 c1 0 c2 w (by omega)).mono ?_
    rintro e w' ⟨rfl, rfl⟩
    exact ⟨by simp, Below.refl _ _⟩
  · obtain ⟨b1, o1, rfl, _, k1⟩ := k1 hp
    obtain ⟨b2, o2, rfl, _, k2⟩ := k2 hp
    refine (Try.slices_Equal_int b1 o1 l.length c1 b2 o2 l.length c2 l l w (Nat.le_refl _) (Nat.le_refl _) (by omega) (by omega) (fun j hj => k1 j hj) (fun j hj => k2 j hj)).mono ?_
    rintro e w' ⟨rfl, q, rfl⟩
    exact ⟨by simp, below_drewN _ _⟩
end Go.Proofs.Ytkjhockppkdakaa
