/- For all bounds and numbers the call of BoundsChanges returns true, and all read behind the call as before. Nothing is assumed but what the row itself lists. -/
import Derived.Test.YtaikegiohjpifaaBQi
import Derived.Test.YtaikegiohjpifaaBN
namespace Go.Proofs.Ytaikegiohjpifaa
open Go.ChangeShapes Go.WideShapes Go.ChangeAt Go.RowKit
namespace BoundsChanges

section
variable {H : Type} {enc : TypeId × Value → H}
set_option maxRecDepth 100000 in
/-- A change that came in. -/
theorem open_change {W : World} {base : Nat} {v : Value} {d : DataW H} {p : List MemPlace} (hv : Value.okWide Try.prog W .any base 28 v) (h : DataW.Trod enc Try.prog W 0 (fun _ => true) true 28 v d p) :
    ∃ i j m a b, v = .agg #[.int .i64 i, .int .i64 j, .int .i64 m, .int .i64 a, .int .i64 b] := by
  obtain ⟨cs, rfl, hsz⟩ := okWide_struct Try.underlying28 hv
  have hsz' : cs.size = 5 := hsz.trans (by kernel_rfl)
  obtain ⟨c0, c1, c2, c3, c4, rfl⟩ : ∃ c0 c1 c2 c3 c4, cs = #[c0, c1, c2, c3, c4] := by
    obtain ⟨l⟩ := cs
    match l, hsz' with
    | [c0, c1, c2, c3, c4], _ => exact ⟨c0, c1, c2, c3, c4, rfl⟩
  obtain ⟨fuel, hf⟩ := h
  obtain ⟨y0, y1, y2, y3, n, -, -, h0, h1, h2, h3⟩ := Go.Joins.trod_struct4 Try.underlying28 hf
  have k1 : Try.prog.cellsOf 3 = 1 := by kernel_rfl
  have k2 : Try.prog.cellsOf 26 = 2 := by kernel_rfl
  simp only [Value.cells, k1, k2, List.drop_succ_cons, List.drop_zero, List.take_succ_cons, List.take_zero] at h0 h1 h2 h3
  obtain ⟨z0, z1, n', -, -, g0, g1⟩ := trod_struct2 Try.underlying26 h3
  simp only [k1, List.drop_succ_cons, List.drop_zero, List.take_succ_cons, List.take_zero] at g0 g1
  obtain ⟨i, e0, -, -⟩ := DataW.trod_int Try.underlying3 h0
  obtain ⟨j, e1, -, -⟩ := DataW.trod_int Try.underlying3 h1
  obtain ⟨m, e2, -, -⟩ := DataW.trod_int Try.underlying3 h2
  obtain ⟨a, e3, -, -⟩ := DataW.trod_int Try.underlying3 g0
  obtain ⟨b, e4, -, -⟩ := DataW.trod_int Try.underlying3 g1
  simp only [List.cons.injEq, and_true] at e0 e1 e2 e3 e4
  subst e0 e1 e2 e3 e4
  exact ⟨_, _, _, _, _, rfl⟩
end

set_option maxRecDepth 100000 in
theorem lifted (os : Os) (started : os.Started) (H : Type) (enc : TypeId × Value → H) :
    ReturnsInHanded {} Try.checked os 3 .any (Rows.boundsChangesSpec.pre6 enc Try.prog Try.f3 Rows.boundsChangesRow.domain false) (Rows.boundsChangesSpec.post enc Try.prog Try.f3 false true false false) := by
  refine returnsInHanded_of_change (C := Try.checked) own0 started (by kernel_rfl) Try.func3
    (ChangeSpec.witness6 (enc := enc) (C := Try.checked) false ⟨#[], #[.agg #[.int .i64 0, .slice none 0 0], .agg #[.int .i64 0, .int .i64 0, .int .i64 0, .int .i64 0, .int .i64 0]], []⟩ 8 (by kernel_rfl) (by kernel_rfl) (by kernel_rfl) (by kernel_rfl)) ?_
  intro W base args ds gs before hval0 hW _ _
  have hval : ∀ (j : Nat) t v, Try.f3.params[j]? = some t → args[j]? = some v → Value.okWide Try.prog W .any base t v := hval0
  have hW' := hW
  obtain ⟨p, q, hA0, hV, rfl, _, _⟩ := hW
  have hA : DataW.TrodAll enc Try.prog W 0 (fun _ => true) true Try.f3.params.toList args.toList ds p := hA0
  rw [Try.params3] at hA hval
  obtain ⟨v0, v1, d0, d1, p0, p1, rfl, rfl, rfl, h0, h1⟩ := trodAll_two hA
  obtain ⟨rfl, rfl⟩ := trodVars_none hV
  clear hA0 hV hval0
  try simp only [List.append_nil] at hW'
  have hlt0 : ∀ x ∈ p0, x.block < W.heap.size := fun x hx => by
    have hx9 := hW'.lt x
    try simp only [List.mem_append] at hx9
    exact hx9 (by simp [hx])
  obtain ⟨n0, u0, R0, rfl, s0⟩ := open_bounds (hval 0 24 v0 rfl rfl) h0
  have hlt1 : ∀ x ∈ p1, x.block < W.heap.size := fun x hx => by
    have hx9 := hW'.lt x
    try simp only [List.mem_append] at hx9
    exact hx9 (by simp [hx])
  obtain ⟨i1, j1, m1, a1, b1, rfl⟩ := open_change (hval 1 28 v1 rfl rfl) h1
  refine (changes_any n0 u0 R0 i1 j1 m1 a1 b1 W s0).mono ?_
  rintro e W' ⟨rfl, bel⟩
  have e1 : Rows.boundsChangesSpec.fn H ([d0, d1] ++ []) = { results := [.lit (.bool true)], args := [d0, d1] } := rfl
  refine ⟨_, rfl, _, _, _, [], p0 ++ p1, [], by first | exact hW' | simpa [List.append_assoc] using hW', ?_, ?_, ?_, bel.frame _, fun h => by cases h⟩
  · rw [e1]; exact trodAll_mk1 (shut_bool Try.underlying4 _)
  · rw [e1]; have h9 := trodAll_mk2 (Below.trod laidOut0 (by kernel_rfl) (of_decide_eq_true (by kernel_rfl)) h0 bel hlt0) (Below.trod laidOut0 (by kernel_rfl) (of_decide_eq_true (by kernel_rfl)) h1 bel hlt1); try simp only [List.append_nil] at h9
    first | exact h9 | (rw [List.append_assoc]; exact h9) | simpa [List.append_assoc] using h9
  · rw [e1]; rfl

theorem row_holds : Rows.BoundsChangesSaid :=
  OpenClaim.holds_of_wide 3 Try.f3 rfl rfl rfl rfl rfl rfl rfl ⟨rfl, rfl, rfl, rfl, rfl⟩ rfl rfl rfl rfl rfl (by kernel_rfl) Try.func3 (by kernel_rfl)
    (of_decide_eq_true (by kernel_rfl)) (by unfold Func.isWrapper; first | (rw [if_pos (by decide +kernel)]; kernel_rfl) | (rw [if_neg (by decide +kernel)]; exact ⟨rfl, rfl⟩))
    (fun os started H enc _ => lifted os started H enc)
end BoundsChanges
end Go.Proofs.Ytaikegiohjpifaa
