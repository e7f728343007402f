/- The statement ImplicantGrows: for every task and every cube the call of it returns true, and all read behind the call as before. Nothing is assumed but what the card itself lists. -/
import Derived.Test.YtabflijfbjdpgaaDoorLB
import Derived.Test.YtabflijfbjdpgaaDoorJOpen
import Derived.Lib.SmallJoins
namespace Go.Proofs.YtabflijfbjdpgaaDoor
open Go.ChangeShapes Go.WideShapes Go.ChangeAt Go.RowKit
open Go.ChangeMaps (open_string shut_string)

namespace ImplicantGrows
noncomputable def laidW (os : Os) : World := World.laidAll Tryd.prog os Rows.implicantGrowsRow.laid
theorem laid_met (os : Os) (args : Array Value) : laidMet Tryd.prog Rows.implicantGrowsRow.laid ((laidW os).forCall (fun _ _ => 0) ⟨#[], args, []⟩).memory :=
  laidMet_laidAll args (by kernel_rfl) (by kernel_rfl)

theorem witness_row (os : Os) {H : Type} (enc : TypeId × Value → H) :
    (OpenSpec.ofChange Rows.implicantGrowsSpec).preRow enc Tryd.prog Tryd.f10 Rows.implicantGrowsRow.domain false Rows.implicantGrowsRow.laid ((laidW os).forCall (fun _ _ => 0) ⟨#[], #[.agg #[.int .i64 0, .int .u64 0, .int .i64 0, .int .u64 0], .agg #[.int .u64 0, .int .u64 0]], []⟩).memory #[.agg #[.int .i64 0, .int .u64 0, .int .i64 0, .int .u64 0], .agg #[.int .u64 0, .int .u64 0]] := by
  have hw : (DataW.whole enc Tryd.prog ((laidW os).forCall (fun _ _ => 0) ⟨#[], #[.agg #[.int .i64 0, .int .u64 0, .int .i64 0, .int .u64 0], .agg #[.int .u64 0, .int .u64 0]], []⟩).memory Tryd.f10.params.toList (OpenSpec.ofChange Rows.implicantGrowsSpec).vars false #[(.agg #[.int .i64 0, .int .u64 0, .int .i64 0, .int .u64 0] : Value), .agg #[.int .u64 0, .int .u64 0]].toList 8).map (fun x => (x.1, x.2.1)) =
      some ([.agg [.agg [.lit (.int .i64 0), .lit (.int .u64 0)], .agg [.lit (.int .i64 0), .lit (.int .u64 0)]], .agg [.lit (.int .u64 0), .lit (.int .u64 0)]], []) := by kernel_rfl
  obtain ⟨⟨x1, x2, x3⟩, hx, hx1⟩ := Option.map_eq_some_iff.1 hw
  simp only [Prod.mk.injEq] at hx1
  obtain ⟨rfl, rfl⟩ := hx1
  exact OpenSpec.preRow_of_cond 8 hx (by kernel_rfl) (fun k hk => by cases hk) (by kernel_rfl) (laid_met os _)

set_option maxRecDepth 100000 in
theorem lifted (os : Os) (started : os.Started) (H : Type) (enc : TypeId × Value → H) (F : Stop.Interp) :
    ReturnsInHanded {} Tryd.checked os 10 .any ((OpenSpec.ofChange Rows.implicantGrowsSpec).preRow enc Tryd.prog Tryd.f10 Rows.implicantGrowsRow.domain false Rows.implicantGrowsRow.laid)
      (((OpenSpec.ofChange Rows.implicantGrowsSpec).at F).post enc Tryd.prog Tryd.f10 false true false false) := by
  refine returnsInHanded_of_row (C := Tryd.checked) (s := OpenSpec.ofChange Rows.implicantGrowsSpec) ownKey started (by kernel_rfl) Tryd.func10
    (witness_row_atRef (enc := enc) (C := Tryd.checked) false (laidW os) #[.agg #[.int .i64 0, .int .u64 0, .int .i64 0, .int .u64 0], .agg #[.int .u64 0, .int .u64 0]] (World.laidAll_os _ _ _) (by kernel_rfl) (by kernel_rfl) (by kernel_rfl) (witness_row os enc)) ?_
  intro W base args ds gs before hval0 hW _ _ _ hL hsh _
  have hval : ∀ (j : Nat) t v, Tryd.f10.params[j]? = some t → args[j]? = some v → Value.okWide Tryd.prog W .any base t v := hval0
  have hW' := hW
  obtain ⟨p, q, hA0, hV0, rfl, _, _⟩ := hW
  have hA : DataW.TrodAll enc Tryd.prog W 0 (fun _ => true) true Tryd.f10.params.toList args.toList ds p := hA0
  rw [Tryd.params10] at hA hval
  obtain ⟨v0, v1, d0, d1, p0, p1, rfl, rfl, rfl, h0, h1⟩ := trodAll_two hA
  obtain ⟨rfl, rfl⟩ := trodVars_none hV0
  obtain ⟨x0, y0, z0, u0, rfl, rfl, rfl, w0, m0, k0, o0⟩ := open_task (hval 0 58 v0 rfl rfl) h0
  have bx0 : -9223372036854775808 ≤ x0 ∧ x0 ≤ 9223372036854775807 := by
    have h := w0
    simp [Lit.wf] at h
    have e1 : IntKind.i64.min = -9223372036854775808 := by decide
    have e2 : IntKind.i64.max = 9223372036854775807 := by decide
    (try rw [e1] at h)
    (try rw [e2] at h)
    exact h
  have by0 : 0 ≤ y0 ∧ y0 ≤ 18446744073709551615 := by
    have h := m0
    simp [Lit.wf] at h
    have e1 : IntKind.u64.min = 0 := by decide
    have e2 : IntKind.u64.max = 18446744073709551615 := by decide
    (try rw [e1] at h)
    (try rw [e2] at h)
    exact h
  have bz0 : -9223372036854775808 ≤ z0 ∧ z0 ≤ 9223372036854775807 := by
    have h := k0
    simp [Lit.wf] at h
    have e1 : IntKind.i64.min = -9223372036854775808 := by decide
    have e2 : IntKind.i64.max = 9223372036854775807 := by decide
    (try rw [e1] at h)
    (try rw [e2] at h)
    exact h
  have bu0 : 0 ≤ u0 ∧ u0 ≤ 18446744073709551615 := by
    have h := o0
    simp [Lit.wf] at h
    have e1 : IntKind.u64.min = 0 := by decide
    have e2 : IntKind.u64.max = 18446744073709551615 := by decide
    (try rw [e1] at h)
    (try rw [e2] at h)
    exact h
  obtain ⟨c1, e1, z1, u1, n1, rfl, rfl, rfl, hz1, hu1⟩ := Joins.open_agg2 Tryd.underlying24 (by kernel_rfl) (show Tryd.prog.cellsOf 24 = 2 by kernel_rfl) (hval 1 24 v1 rfl rfl) h1
  obtain ⟨x1, f1, rfl, w1⟩ := DataW.trod_int Tryd.underlying22 hz1
  obtain ⟨y1, g1, rfl, m1⟩ := DataW.trod_int Tryd.underlying22 hu1
  simp only [List.cons.injEq, and_true] at f1 g1
  subst f1 g1
  have bx1 : 0 ≤ x1 ∧ x1 ≤ 18446744073709551615 := by
    have h := w1
    simp [Lit.wf] at h
    have e1 : IntKind.u64.min = 0 := by decide
    have e2 : IntKind.u64.max = 18446744073709551615 := by decide
    (try rw [e1] at h)
    (try rw [e2] at h)
    exact h
  have by1 : 0 ≤ y1 ∧ y1 ≤ 18446744073709551615 := by
    have h := m1
    simp [Lit.wf] at h
    have e1 : IntKind.u64.min = 0 := by decide
    have e2 : IntKind.u64.max = 18446744073709551615 := by decide
    (try rw [e1] at h)
    (try rw [e2] at h)
    exact h
  clear hA0 hV0 hval0
  have hL' : laidMet Tryd.prog Rows.implicantGrowsRow.laid W := by rw [← MakeChecks.laidMetH_plain _ _ _ (by kernel_rfl)]; exact hL
  have hst : St W := st_of hsh hL'
  refine (lawGrows_card x0 y0 z0 u0 x1 y1 W hst bx0.1 bx0.2 by0.1 by0.2 bz0.1 bz0.2 bu0.1 bu0.2 bx1.1 bx1.2 by1.1 by1.2).mono ?_
  rintro e W' ⟨rfl, bel⟩
  have e1 : ((OpenSpec.ofChange Rows.implicantGrowsSpec).at F).fn H ([.agg [.agg [.lit (.int .i64 x0), .lit (.int .u64 y0)], .agg [.lit (.int .i64 z0), .lit (.int .u64 u0)]], .agg [.lit (.int .u64 x1), .lit (.int .u64 y1)]] ++ []) = { results := [.lit (.bool true)], args := [.agg [.agg [.lit (.int .i64 x0), .lit (.int .u64 y0)], .agg [.lit (.int .i64 z0), .lit (.int .u64 u0)]], .agg [.lit (.int .u64 x1), .lit (.int .u64 y1)]] } := rfl
  refine ⟨_, rfl, _, _, _, [], [], [], hW', ?_, ?_, ?_, bel.frame _, fun h => by cases h⟩
  · rw [e1]; exact trodAll_mk1 (shut_bool Tryd.underlying4 _)
  · rw [e1]; exact trodAll_mk2 (shut_task w0 m0 k0 o0) (Joins.shut_agg2 (y0 := (.lit (.int .u64 x1), [])) (y1 := (.lit (.int .u64 y1), [])) Tryd.underlying24 (by kernel_rfl) (by kernel_rfl) ⟨1, by simp [DataW.trod, Tryd.underlying22, w1]⟩ ⟨1, by simp [DataW.trod, Tryd.underlying22, m1]⟩)
  · rw [e1]; rfl

theorem row_holds : Rows.ImplicantGrowsSaid :=
  OpenClaim.holds_of_cond 10 Tryd.f10 rfl rfl rfl rfl rfl rfl rfl ⟨rfl, rfl, rfl, rfl, rfl⟩ rfl rfl rfl rfl rfl (by kernel_rfl) Tryd.func10 (by kernel_rfl)
    (of_decide_eq_true (by kernel_rfl)) (by unfold Func.isWrapper; first | (rw [if_pos (by decide +kernel)]; kernel_rfl) | (rw [if_neg (by decide +kernel)]; exact ⟨rfl, rfl⟩))
    (fun os started H enc _ F0 => by rw [OpenClaim.pre_eq_preRow]; exact lifted os started H enc F0)

/-- The statement ImplicantGrows: for every task and every cube the call of it returns true, and all read behind the call as before. -/
theorem card_holds : Rows.ImplicantGrowsCardSaid :=
  Claim7.holds_tied_plain_at .later [] [.data] true Rows.implicantGrowsCard.stood.harness Rows.implicantGrowsCard.stood.looks
    row_holds (fun _ h => by cases h) (by kernel_rfl) (fun _ h => by cases h) implicantGrows_row_tie rfl ⟨rfl, rfl⟩ (by kernel_rfl) rfl
    (fun f fn hf hfn => by
      obtain rfl : f = 10 := Option.some.inj ((show Tryd.prog.funcNamed "pneumatic/pneumaticlaw06.ImplicantGrows" = some 10 by kernel_rfl).symm.trans hf) |>.symm
      obtain rfl : fn = Tryd.f10 := (Option.some.inj (Tryd.func10.symm.trans hfn)).symm
      exact ⟨by kernel_rfl, fun j t ht => by
        rw [Tryd.params10] at ht
        have hm : t ∈ [58, 24] := by simpa using Array.mem_of_getElem? ht
        have hall : ([58, 24].all fun u => !Tryd.prog.wantsStandIn u) = true := by kernel_rfl
        exact (show Tryd.prog.wantsStandIn t = false by simpa using List.all_eq_true.1 hall t hm)⟩)
    (by kernel_rfl)

end ImplicantGrows
end Go.Proofs.YtabflijfbjdpgaaDoor
