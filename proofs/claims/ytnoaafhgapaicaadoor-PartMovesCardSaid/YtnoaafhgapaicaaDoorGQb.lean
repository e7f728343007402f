/- For all kinds, positions and pilots the call of PartMoves returns true, and all read behind the call as before. Nothing is assumed but what the card itself lists. -/
import Derived.Test.YtnoaafhgapaicaaDoorGV
import Derived.Test.YtnoaafhgapaicaaDoorGO
import Derived.Lib.SmallJoins
namespace Go.Proofs.YtnoaafhgapaicaaDoor
open Go.ChangeShapes Go.WideShapes Go.ChangeAt Go.RowKit
open Go.ChangeMaps (open_string shut_string)

namespace PartMoves
noncomputable def laidW (os : Os) : World := World.laidAll Tryd.prog os Rows.partMovesRow.laid
theorem laid_met (os : Os) (args : Array Value) : laidMet Tryd.prog Rows.partMovesRow.laid ((laidW os).forCall (fun _ _ => 0) ⟨#[], args, []⟩).memory :=
  laidMet_laidAll args (by kernel_rfl) (by kernel_rfl)

theorem witness_row (os : Os) {H : Type} (enc : TypeId × Value → H) :
    (OpenSpec.ofChange Rows.partMovesSpec).preRow enc Tryd.prog Tryd.f6 Rows.partMovesRow.domain false Rows.partMovesRow.laid ((laidW os).forCall (fun _ _ => 0) ⟨#[], #[.int .i64 0, .int .i64 0, .agg #[.bool false, .bool false]], []⟩).memory #[.int .i64 0, .int .i64 0, .agg #[.bool false, .bool false]] := by
  have hw : (DataW.whole enc Tryd.prog ((laidW os).forCall (fun _ _ => 0) ⟨#[], #[.int .i64 0, .int .i64 0, .agg #[.bool false, .bool false]], []⟩).memory Tryd.f6.params.toList (OpenSpec.ofChange Rows.partMovesSpec).vars false #[(.int .i64 0 : Value), .int .i64 0, .agg #[.bool false, .bool false]].toList 8).map (fun x => (x.1, x.2.1)) =
      some ([.lit (.int .i64 0), .lit (.int .i64 0), .agg [.lit (.bool false), .lit (.bool false)]], []) := by kernel_rfl
  obtain ⟨⟨x1, x2, x3⟩, hx, hx1⟩ := Option.map_eq_some_iff.1 hw
  simp only [Prod.mk.injEq] at hx1
  obtain ⟨rfl, rfl⟩ := hx1
  exact OpenSpec.preRow_of_cond 8 hx (by kernel_rfl) (fun k hk => by cases hk) (by kernel_rfl) (laid_met os _)

set_option maxRecDepth 100000 in
theorem lifted (os : Os) (started : os.Started) (H : Type) (enc : TypeId × Value → H) (F : Stop.Interp) :
    ReturnsInHanded {} Tryd.checked os 6 .any ((OpenSpec.ofChange Rows.partMovesSpec).preRow enc Tryd.prog Tryd.f6 Rows.partMovesRow.domain false Rows.partMovesRow.laid)
      (((OpenSpec.ofChange Rows.partMovesSpec).at F).post enc Tryd.prog Tryd.f6 false true false false) := by
  refine returnsInHanded_of_row (C := Tryd.checked) (s := OpenSpec.ofChange Rows.partMovesSpec) ownKey started (by kernel_rfl) Tryd.func6
    (witness_row_atRef (enc := enc) (C := Tryd.checked) false (laidW os) #[.int .i64 0, .int .i64 0, .agg #[.bool false, .bool false]] (World.laidAll_os _ _ _) (by kernel_rfl) (by kernel_rfl) (by kernel_rfl) (witness_row os enc)) ?_
  intro W base args ds gs before hval0 hW _ _ _ hL hsh _
  have hval : ∀ (j : Nat) t v, Tryd.f6.params[j]? = some t → args[j]? = some v → Value.okWide Tryd.prog W .any base t v := hval0
  have hW' := hW
  obtain ⟨p, q, hA0, hV0, rfl, _, _⟩ := hW
  have hA : DataW.TrodAll enc Tryd.prog W 0 (fun _ => true) true Tryd.f6.params.toList args.toList ds p := hA0
  rw [Tryd.params6] at hA hval
  obtain ⟨v0, v1, v2, d0, d1, d2, p0, p1, p2, rfl, rfl, rfl, h0, h1, h2⟩ := trodAll_three hA
  obtain ⟨rfl, rfl⟩ := trodVars_none hV0
  obtain ⟨x0, rfl, rfl, rfl, w0⟩ := open_int Tryd.underlying3 (hval 0 3 v0 rfl rfl) h0
  have bx0 : -9223372036854775808 ≤ x0 ∧ x0 ≤ 9223372036854775807 := by
    have h := w0
    simp [Lit.wf] at h
    have e1 : IntKind.i64.min = -9223372036854775808 := by decide
    have e2 : IntKind.i64.max = 9223372036854775807 := by decide
    (try rw [e1] at h)
    (try rw [e2] at h)
    exact h
  obtain ⟨x1, rfl, rfl, rfl, w1⟩ := open_int Tryd.underlying3 (hval 1 3 v1 rfl rfl) h1
  have bx1 : -9223372036854775808 ≤ x1 ∧ x1 ≤ 9223372036854775807 := by
    have h := w1
    simp [Lit.wf] at h
    have e1 : IntKind.i64.min = -9223372036854775808 := by decide
    have e2 : IntKind.i64.max = 9223372036854775807 := by decide
    (try rw [e1] at h)
    (try rw [e2] at h)
    exact h
  obtain ⟨c2, e2, z2, u2, n2, rfl, rfl, rfl, hz2, hu2⟩ := Joins.open_agg2 Tryd.underlying60 (by kernel_rfl) (show Tryd.prog.cellsOf 60 = 2 by kernel_rfl) (hval 2 60 v2 rfl rfl) h2
  obtain ⟨x2, f2, rfl⟩ := DataW.trod_bool Tryd.underlying4 hz2
  obtain ⟨y2, g2, rfl⟩ := DataW.trod_bool Tryd.underlying4 hu2
  simp only [List.cons.injEq, and_true] at f2 g2
  subst f2 g2
  clear hA0 hV0 hval0
  have hL' : laidMet Tryd.prog Rows.partMovesRow.laid W := by rw [← MakeChecks.laidMetH_plain _ _ _ (by kernel_rfl)]; exact hL
  have hst : St W := st_of hsh hL'
  refine (moves_card x0 x1 x2 y2 W hst bx0.1 bx0.2 bx1.1 bx1.2).mono ?_
  rintro e W' ⟨rfl, bel⟩
  have e1 : ((OpenSpec.ofChange Rows.partMovesSpec).at F).fn H ([.lit (.int .i64 x0), .lit (.int .i64 x1), .agg [.lit (.bool x2), .lit (.bool y2)]] ++ []) = { results := [.lit (.bool true)], args := [.lit (.int .i64 x0), .lit (.int .i64 x1), .agg [.lit (.bool x2), .lit (.bool y2)]] } := rfl
  refine ⟨_, rfl, _, _, _, [], [], [], hW', ?_, ?_, ?_, bel.frame _, fun h => by cases h⟩
  · rw [e1]; exact trodAll_mk1 (shut_bool Tryd.underlying4 _)
  · rw [e1]; exact trodAll_mk3 (shut_int Tryd.underlying3 w0) (shut_int Tryd.underlying3 w1) (Joins.shut_agg2 (y0 := (.lit (.bool x2), [])) (y1 := (.lit (.bool y2), [])) Tryd.underlying60 (by kernel_rfl) (by kernel_rfl) ⟨1, by simp [DataW.trod, Tryd.underlying4]⟩ ⟨1, by simp [DataW.trod, Tryd.underlying4]⟩)
  · rw [e1]; rfl

theorem row_holds : Rows.PartMovesSaid :=
  OpenClaim.holds_of_cond 6 Tryd.f6 rfl rfl rfl rfl rfl rfl rfl ⟨rfl, rfl, rfl, rfl, rfl⟩ rfl rfl rfl rfl rfl (by kernel_rfl) Tryd.func6 (by kernel_rfl)
    (of_decide_eq_true (by kernel_rfl)) (by unfold Func.isWrapper; first | (rw [if_pos (by decide +kernel)]; kernel_rfl) | (rw [if_neg (by decide +kernel)]; exact ⟨rfl, rfl⟩))
    (fun os started H enc _ F0 => by rw [OpenClaim.pre_eq_preRow]; exact lifted os started H enc F0)

/-- For all kinds, positions and pilots the call of PartMoves returns true, and all read behind the call as before. -/
theorem card_holds : Rows.PartMovesCardSaid :=
  Claim7.holds_tied_plain_at .later [] [.data, .data] true Rows.partMovesCard.stood.harness Rows.partMovesCard.stood.looks
    row_holds (fun _ h => by cases h) (by kernel_rfl) (fun _ h => by cases h) partMoves_row_tie rfl ⟨rfl, rfl⟩ (by kernel_rfl) rfl
    (fun f fn hf hfn => by
      obtain rfl : f = 6 := Option.some.inj ((show Tryd.prog.funcNamed "pneumatic/pneumaticlaw20.PartMoves" = some 6 by kernel_rfl).symm.trans hf) |>.symm
      obtain rfl : fn = Tryd.f6 := (Option.some.inj (Tryd.func6.symm.trans hfn)).symm
      exact ⟨by kernel_rfl, fun j t ht => by
        rw [Tryd.params6] at ht
        have hm : t ∈ [3, 3, 60] := by simpa using Array.mem_of_getElem? ht
        have hall : ([3, 3, 60].all fun u => !Tryd.prog.wantsStandIn u) = true := by kernel_rfl
        exact (show Tryd.prog.wantsStandIn t = false by simpa using List.all_eq_true.1 hall t hm)⟩)
    (by kernel_rfl)

end PartMoves
end Go.Proofs.YtnoaafhgapaicaaDoor
