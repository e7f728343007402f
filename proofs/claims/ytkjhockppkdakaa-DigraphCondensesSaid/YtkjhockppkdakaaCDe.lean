/- For every graph and every number the call of DigraphCondenses returns true, and all read behind the call as before. Nothing is assumed but what the row itself lists. -/
import Derived.Test.YtkjhockppkdakaaDY
import Derived.Test.YtkjhockppkdakaaDN
namespace Go.Proofs.Ytkjhockppkdakaa
open Go.ChangeShapes Go.WideShapes Go.ChangeAt Go.RowKit
namespace DigraphCondenses

theorem wf_u8n {z : Int} (h : (Lit.int .u8 z).wf = true) : ∃ b : Nat, z = b ∧ b < 256 := by
  simp [Lit.wf] at h
  have e1 : IntKind.u8.min = 0 := by decide
  have e2 : IntKind.u8.max = 255 := by decide
  (try rw [e1] at h)
  (try rw [e2] at h)
  obtain ⟨h1, h2⟩ := h
  obtain ⟨b, rfl⟩ := Int.eq_ofNat_of_zero_le h1
  exact ⟨b, rfl, by omega⟩

set_option maxRecDepth 100000 in
theorem lifted (os : Os) (started : os.Started) (H : Type) (enc : TypeId × Value → H) :
    ReturnsInHanded {} Try.checked os 9 .any (Rows.digraphCondensesSpec.pre6 enc Try.prog Try.f9 Rows.digraphCondensesRow.domain false) (Rows.digraphCondensesSpec.post enc Try.prog Try.f9 false true false false) := by
  refine returnsInHanded_of_change (C := Try.checked) own0 started (by kernel_rfl) Try.func9
    (ChangeSpec.witness6 (enc := enc) (C := Try.checked) false ⟨#[], #[.agg #[.int .i64 0, .slice none 0 0], .int .u8 0, .int .u8 0], []⟩ 8 (by kernel_rfl) (by kernel_rfl) (by kernel_rfl) (by kernel_rfl)) ?_
  intro W base args ds gs before hval0 hW _ _
  have hval : ∀ (j : Nat) t v, Try.f9.params[j]? = some t → args[j]? = some v → Value.okWide Try.prog W .any base t v := hval0
  have hW' := hW
  obtain ⟨p, q, hA0, hV, rfl, _, _⟩ := hW
  have hA : DataW.TrodAll enc Try.prog W 0 (fun _ => true) true Try.f9.params.toList args.toList ds p := hA0
  rw [Try.params9] at hA hval
  obtain ⟨v0, v1, v2, d0, d1, d2, p0, p1, p2, rfl, rfl, rfl, h0, h1, h2⟩ := trodAll_three hA
  obtain ⟨rfl, rfl⟩ := trodVars_none hV
  obtain ⟨x1, rfl, rfl, rfl, w1⟩ := open_int Try.underlying5 (hval 1 5 v1 rfl rfl) h1
  obtain ⟨x2, rfl, rfl, rfl, w2⟩ := open_int Try.underlying5 (hval 2 5 v2 rfl rfl) h2
  clear hA0 hV hval0
  try simp only [List.append_nil] at hW'
  have hlt : ∀ x ∈ p0, x.block < W.heap.size := fun x hx => by simpa using hW'.lt x (by simpa using hx)
  obtain ⟨n, u, E, rfl, hs⟩ := open_graph (hval 0 24 v0 rfl rfl) h0 hlt
  obtain ⟨b1, rfl, hb1⟩ := wf_u8n w1
  obtain ⟨b2, rfl, hb2⟩ := wf_u8n w2
  refine (condenses_any n b1 b2 E u W hs hb1 hb2).mono ?_
  rintro e W' ⟨rfl, bel⟩
  have e1 : Rows.digraphCondensesSpec.fn H ([d0, .lit (.int .u8 (b1 : Int)), .lit (.int .u8 (b2 : Int))] ++ []) = { results := [.lit (.bool true)], args := [d0, .lit (.int .u8 (b1 : Int)), .lit (.int .u8 (b2 : Int))] } := rfl
  refine ⟨_, rfl, _, _, _, [], p0, [], hW', ?_, ?_, ?_, bel.frame _, fun h => by cases h⟩
  · rw [e1]; exact trodAll_mk1 (shut_bool Try.underlying4 _)
  · rw [e1]; have h9 := trodAll_mk3 (Below.trod laidOut0 (by kernel_rfl) (of_decide_eq_true (by kernel_rfl)) h0 bel hlt) (shut_int Try.underlying5 w1) (shut_int Try.underlying5 w2); try simp only [List.append_nil] at h9
    exact h9
  · rw [e1]; rfl

theorem row_holds : Rows.DigraphCondensesSaid :=
  OpenClaim.holds_of_wide 9 Try.f9 rfl rfl rfl rfl rfl rfl rfl ⟨rfl, rfl, rfl, rfl, rfl⟩ rfl rfl rfl rfl rfl (by kernel_rfl) Try.func9 (by kernel_rfl)
    (of_decide_eq_true (by kernel_rfl)) (by unfold Func.isWrapper; first | (rw [if_pos (by decide +kernel)]; kernel_rfl) | (rw [if_neg (by decide +kernel)]; exact ⟨rfl, rfl⟩))
    (fun os started H enc _ => lifted os started H enc)
end DigraphCondenses
end Go.Proofs.Ytkjhockppkdakaa
