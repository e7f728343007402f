/- Bounds, and lists of integers, that came in. -/
import Derived.Test.YtkemicfaiipidaaRows
import Derived.Test.YtkemicfaiipidaaBb
import Derived.Lib.SmallJoins
import Derived.Deep.Matrix
import Derived.Carry
import Derived.ProofKit
namespace Go.Proofs.Ytkemicfaiipidaa
open Go.ChangeShapes Go.WideShapes Go.ChangeAt Go.RowKit

theorem own0 : ownKnob Try.prog.godebug = none := by kernel_rfl
theorem laidOut0 : laidOutB Try.prog = true := by kernel_rfl
section
variable {H : Type} {enc : TypeId × Value → H}
set_option maxRecDepth 100000 in
/-- A list of integers that came in. -/
theorem see_ints {W : World} {fuel : Nat} {c : Value} {x : DataW H × List MemPlace} (h : DataW.trod enc Try.prog W 0 (fun _ => true) true fuel 42 [c] = some x) : ∃ l, SeeI W c l := by
  rcases open_ints Try.underlying42 Try.underlying3 (by kernel_rfl) h with ⟨hcs, -⟩ | ⟨a, len, cap, zs, hcs, -, hl, hm, hz, -, hcell, -⟩
  · simp only [List.cons.injEq, and_true] at hcs
    subst hcs
    exact ⟨[], none, 0, rfl, Nat.le_refl _, by omega, fun h => by simp at h⟩
  · simp only [List.cons.injEq, and_true] at hcs
    subst hcs
    simp only [if_true] at hz
    have hlen : (zs.take len).length = len := by rw [List.length_take]; omega
    refine ⟨zs.take len, some a, cap, by rw [hlen], by rw [hlen]; exact hl, by unfold maxLen at hm; omega, fun hp => ?_⟩
    rw [hlen] at hp
    obtain ⟨b, off, spot⟩ := a
    have hspot : spot = none := by simpa [Addr.add] using World.cell?_spot (hcell 0 (by omega))
    subst hspot
    refine ⟨b, off, rfl, World.block_lt_of_cell? W _ (hcell 0 (by omega)), fun i hi => ?_⟩
    rw [hlen] at hi
    have h9 := hcell i (by omega)
    have ap : (⟨b, off, none⟩ : Addr).add i = ⟨b, off + i, none⟩ := by unfold Addr.add; split <;> simp_all
    rw [ap] at h9
    rw [h9]
    simp [List.getD, hi]
/-- A list of integers that came in as an argument. -/
theorem see_list {W : World} {base : Nat} {v : Value} {d : DataW H} {p : List MemPlace} (hv : Value.okWide Try.prog W .any base 42 v) (h : DataW.Trod enc Try.prog W 0 (fun _ => true) true 42 v d p) : ∃ l, SeeI W v l ∧ ∀ n c, v = .slice none n c → c = 0 := by
  obtain ⟨ao, len, cap, rfl⟩ := okWide_slice Try.underlying42 hv
  obtain ⟨fuel, hf⟩ := h
  refine ⟨(see_ints hf).choose, (see_ints hf).choose_spec, fun n c hn => ?_⟩
  rcases open_ints Try.underlying42 Try.underlying3 (by kernel_rfl) hf with ⟨hcs, -⟩ | ⟨a, len', cap', zs, hcs, -⟩
  · simp [Value.cells] at hcs hn; omega
  · simp [Value.cells] at hcs hn
    rw [hn.1] at hcs; simp at hcs
set_option maxRecDepth 100000 in
/-- Bounds that came in. -/
theorem open_bounds {W : World} {base : Nat} {v : Value} {d : DataW H} {p : List MemPlace} (hv : Value.okWide Try.prog W .any base 24 v) (h : DataW.Trod enc Try.prog W 0 (fun _ => true) true 24 v d p) :
    ∃ n u R, v = .agg #[.int .i64 n, u] ∧ SeesR W u R := by
  obtain ⟨v0, v1, y0, y1, fuel, rfl, -, rfl, h0, h1⟩ := Go.Joins.open_agg2 Try.underlying24 (by kernel_rfl) (by kernel_rfl) hv h
  obtain ⟨n, hn0, -, -⟩ := DataW.trod_int Try.underlying3 h0
  simp only [List.cons.injEq, and_true] at hn0
  subst hn0
  rcases Deep.open_int_rows Try.underlying22 Try.underlying42 Try.underlying3 (by kernel_rfl) (by kernel_rfl) h1 with ⟨hcs, hx⟩ | ⟨a, len, cap, A, L, C, Z, hcs, -, hl, hm, -, hcell⟩
  · simp only [List.cons.injEq, and_true] at hcs
    subst hcs
    exact ⟨n, _, [], rfl, none, 0, rfl, Nat.le_refl _, by omega, fun h => by simp at h⟩
  · simp only [List.cons.injEq, and_true] at hcs
    subst hcs
    have hlen : ((List.range len).map fun r => (Z r).take (L r)).length = len := by simp
    have hg : ∀ i, i < len → ((List.range len).map fun r => (Z r).take (L r)).getD i [] = (Z i).take (L i) := fun i hi => by simp [hi]
    refine ⟨n, _, (List.range len).map fun r => (Z r).take (L r), rfl, some a, cap, by rw [hlen], by rw [hlen]; exact hl, by unfold maxLen at hm; omega, fun hp0 => ?_⟩
    rw [hlen] at hp0
    obtain ⟨b, off, spot⟩ := a
    have hspot : spot = none := by simpa [Addr.add] using World.cell?_spot (hcell 0 (by omega)).1
    subst hspot
    refine ⟨b, off, rfl, World.block_lt_of_cell? W _ (hcell 0 (by omega)).1, fun i hi => ?_⟩
    rw [hlen] at hi
    obtain ⟨e1, e2, e3, e4, -, e6, e7⟩ := hcell i (by omega)
    have ap : ∀ (b off k : Nat), (⟨b, off, none⟩ : Addr).add k = ⟨b, off + k, none⟩ := fun b off k => by unfold Addr.add; split <;> simp_all
    rw [ap] at e1
    rw [hg i hi]
    have hzl : ((Z i).take (L i)).length = L i := by rw [List.length_take]; omega
    refine ⟨_, e1, A i, C i, by rw [hzl], by rw [hzl]; exact e2, by unfold maxLen at e3; omega, fun hp => ?_⟩
    rw [hzl] at hp
    cases hA : A i with
    | none => have := e6 hA; omega
    | some a' =>
      obtain ⟨-, e8⟩ := e7 a' hA
      obtain ⟨b', off', spot'⟩ := a'
      have hspot' : spot' = none := by simpa [Addr.add] using World.cell?_spot (e8 0 (by omega))
      subst hspot'
      refine ⟨b', off', rfl, World.block_lt_of_cell? W _ (e8 0 (by omega)), fun j hj => ?_⟩
      rw [hzl] at hj
      have h9 := e8 j (by omega)
      rw [ap] at h9
      rw [h9]
      simp [List.getD, hj]
end
end Go.Proofs.Ytkemicfaiipidaa

