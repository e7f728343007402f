/- For all bounds and numbers the call of BoundsKeep returns true, and all read behind the call as before. Nothing is assumed but what the row itself lists. -/
import Derived.Test.YtkemicfaiipidaaBSh
import Derived.Test.YtkemicfaiipidaaBN
namespace Go.Proofs.Ytkemicfaiipidaa
open Go.ChangeShapes Go.WideShapes Go.ChangeAt Go.RowKit
namespace BoundsKeep

set_option maxRecDepth 100000 in
theorem lifted (os : Os) (started : os.Started) (H : Type) (enc : TypeId × Value → H) :
    ReturnsInHanded {} Try.checked os 5 .any (Rows.boundsKeepSpec.pre6 enc Try.prog Try.f5 Rows.boundsKeepRow.domain false) (Rows.boundsKeepSpec.post enc Try.prog Try.f5 false true false false) := by
  refine returnsInHanded_of_change (C := Try.checked) own0 started (by kernel_rfl) Try.func5
    (ChangeSpec.witness6 (enc := enc) (C := Try.checked) false ⟨#[], #[.agg #[.int .i64 0, .slice none 0 0], .agg #[.int .i64 0, .slice none 0 0], .slice none 0 0], []⟩ 8 (by kernel_rfl) (by kernel_rfl) (by kernel_rfl) (by kernel_rfl)) ?_
  intro W base args ds gs before hval0 hW _ _
  have hval : ∀ (j : Nat) t v, Try.f5.params[j]? = some t → args[j]? = some v → Value.okWide Try.prog W .any base t v := hval0
  have hW' := hW
  obtain ⟨p, q, hA0, hV, rfl, _, _⟩ := hW
  have hA : DataW.TrodAll enc Try.prog W 0 (fun _ => true) true Try.f5.params.toList args.toList ds p := hA0
  rw [Try.params5] at hA hval
  obtain ⟨v0, v1, v2, d0, d1, d2, p0, p1, p2, rfl, rfl, rfl, h0, h1, h2⟩ := trodAll_three hA
  obtain ⟨rfl, rfl⟩ := trodVars_none hV
  clear hA0 hV hval0
  try simp only [List.append_nil] at hW'
  have hlt0 : ∀ x ∈ p0, x.block < W.heap.size := fun x hx => by
    have hx9 := hW'.lt x
    try simp only [List.mem_append] at hx9
    exact hx9 (by simp [hx])
  obtain ⟨n0, u0, R0, rfl, s0⟩ := open_bounds (hval 0 24 v0 rfl rfl) h0
  have hlt1 : ∀ x ∈ p1, x.block < W.heap.size := fun x hx => by
    have hx9 := hW'.lt x
    try simp only [List.mem_append] at hx9
    exact hx9 (by simp [hx])
  obtain ⟨n1, u1, R1, rfl, s1⟩ := open_bounds (hval 1 24 v1 rfl rfl) h1
  have hlt2 : ∀ x ∈ p2, x.block < W.heap.size := fun x hx => by
    have hx9 := hW'.lt x
    try simp only [List.mem_append] at hx9
    exact hx9 (by simp [hx])
  obtain ⟨l2, s2, z2⟩ := see_list (hval 2 42 v2 rfl rfl) h2
  refine (keep_any n0 u0 R0 n1 u1 R1 v2 l2 W s0 s1 s2 z2).mono ?_
  rintro e W' ⟨rfl, bel⟩
  have e1 : Rows.boundsKeepSpec.fn H ([d0, d1, d2] ++ []) = { results := [.lit (.bool true)], args := [d0, d1, d2] } := rfl
  refine ⟨_, rfl, _, _, _, [], p0 ++ p1 ++ p2, [], by first | exact hW' | simpa [List.append_assoc] using hW', ?_, ?_, ?_, bel.frame _, fun h => by cases h⟩
  · rw [e1]; exact trodAll_mk1 (shut_bool Try.underlying4 _)
  · rw [e1]; have h9 := trodAll_mk3 (Below.trod laidOut0 (by kernel_rfl) (of_decide_eq_true (by kernel_rfl)) h0 bel hlt0) (Below.trod laidOut0 (by kernel_rfl) (of_decide_eq_true (by kernel_rfl)) h1 bel hlt1) (Below.trod laidOut0 (by kernel_rfl) (of_decide_eq_true (by kernel_rfl)) h2 bel hlt2); try simp only [List.append_nil] at h9
    first | exact h9 | (rw [List.append_assoc]; exact h9) | simpa [List.append_assoc] using h9
  · rw [e1]; rfl

theorem row_holds : Rows.BoundsKeepSaid :=
  OpenClaim.holds_of_wide 5 Try.f5 rfl rfl rfl rfl rfl rfl rfl ⟨rfl, rfl, rfl, rfl, rfl⟩ rfl rfl rfl rfl rfl (by kernel_rfl) Try.func5 (by kernel_rfl)
    (of_decide_eq_true (by kernel_rfl)) (by unfold Func.isWrapper; first | (rw [if_pos (by decide +kernel)]; kernel_rfl) | (rw [if_neg (by decide +kernel)]; exact ⟨rfl, rfl⟩))
    (fun os started H enc _ => lifted os started H enc)
end BoundsKeep
end Go.Proofs.Ytkemicfaiipidaa
