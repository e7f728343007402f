/- For all bounds and numbers the call of BoundsDrops returns true, and all read behind the call as before. Nothing is assumed but what the row itself lists. -/
import Derived.Test.YtkemicfaiipidaaBSj
import Derived.Test.YtkemicfaiipidaaBN
namespace Go.Proofs.Ytkemicfaiipidaa
open Go.ChangeShapes Go.WideShapes Go.ChangeAt Go.RowKit
namespace BoundsDrops

theorem wf_u8n {z : Int} (h : (Lit.int .u8 z).wf = true) : ∃ b : Nat, z = b ∧ b < 256 := by
  simp [Lit.wf] at h
  have e1 : IntKind.u8.min = 0 := by decide
  have e2 : IntKind.u8.max = 255 := by decide
  (try rw [e1] at h)
  (try rw [e2] at h)
  obtain ⟨h1, h2⟩ := h
  obtain ⟨b, rfl⟩ := Int.eq_ofNat_of_zero_le h1
  exact ⟨b, rfl, by omega⟩

set_option maxRecDepth 100000 in
theorem lifted (os : Os) (started : os.Started) (H : Type) (enc : TypeId × Value → H) :
    ReturnsInHanded {} Try.checked os 6 .any (Rows.boundsDropsSpec.pre6 enc Try.prog Try.f6 Rows.boundsDropsRow.domain false) (Rows.boundsDropsSpec.post enc Try.prog Try.f6 false true false false) := by
  refine returnsInHanded_of_change (C := Try.checked) own0 started (by kernel_rfl) Try.func6
    (ChangeSpec.witness6 (enc := enc) (C := Try.checked) false ⟨#[], #[.agg #[.int .i64 0, .slice none 0 0], .int .u8 0], []⟩ 8 (by kernel_rfl) (by kernel_rfl) (by kernel_rfl) (by kernel_rfl)) ?_
  intro W base args ds gs before hval0 hW _ _
  have hval : ∀ (j : Nat) t v, Try.f6.params[j]? = some t → args[j]? = some v → Value.okWide Try.prog W .any base t v := hval0
  have hW' := hW
  obtain ⟨p, q, hA0, hV, rfl, _, _⟩ := hW
  have hA : DataW.TrodAll enc Try.prog W 0 (fun _ => true) true Try.f6.params.toList args.toList ds p := hA0
  rw [Try.params6] at hA hval
  obtain ⟨v0, v1, d0, d1, p0, p1, rfl, rfl, rfl, h0, h1⟩ := trodAll_two hA
  obtain ⟨rfl, rfl⟩ := trodVars_none hV
  obtain ⟨x1, rfl, rfl, rfl, w1⟩ := open_int Try.underlying5 (hval 1 5 v1 rfl rfl) h1
  clear hA0 hV hval0
  try simp only [List.append_nil] at hW'
  have hlt0 : ∀ x ∈ p0, x.block < W.heap.size := fun x hx => by
    have hx9 := hW'.lt x
    try simp only [List.mem_append] at hx9
    exact hx9 (by simp [hx])
  obtain ⟨n0, u0, R0, rfl, s0⟩ := open_bounds (hval 0 24 v0 rfl rfl) h0
  obtain ⟨b1, rfl, hb1⟩ := wf_u8n w1
  refine (drops_any n0 u0 R0 b1 W s0 hb1).mono ?_
  rintro e W' ⟨rfl, bel⟩
  have e1 : Rows.boundsDropsSpec.fn H ([d0, .lit (.int .u8 (b1 : Int))] ++ []) = { results := [.lit (.bool true)], args := [d0, .lit (.int .u8 (b1 : Int))] } := rfl
  refine ⟨_, rfl, _, _, _, [], p0, [], by first | exact hW' | simpa [List.append_assoc] using hW', ?_, ?_, ?_, bel.frame _, fun h => by cases h⟩
  · rw [e1]; exact trodAll_mk1 (shut_bool Try.underlying4 _)
  · rw [e1]; have h9 := trodAll_mk2 (Below.trod laidOut0 (by kernel_rfl) (of_decide_eq_true (by kernel_rfl)) h0 bel hlt0) (shut_int Try.underlying5 w1); try simp only [List.append_nil] at h9
    first | exact h9 | (rw [List.append_assoc]; exact h9) | simpa [List.append_assoc] using h9
  · rw [e1]; rfl

theorem row_holds : Rows.BoundsDropsSaid :=
  OpenClaim.holds_of_wide 6 Try.f6 rfl rfl rfl rfl rfl rfl rfl ⟨rfl, rfl, rfl, rfl, rfl⟩ rfl rfl rfl rfl rfl (by kernel_rfl) Try.func6 (by kernel_rfl)
    (of_decide_eq_true (by kernel_rfl)) (by unfold Func.isWrapper; first | (rw [if_pos (by decide +kernel)]; kernel_rfl) | (rw [if_neg (by decide +kernel)]; exact ⟨rfl, rfl⟩))
    (fun os started H enc _ => lifted os started H enc)
end BoundsDrops
end Go.Proofs.Ytkemicfaiipidaa
