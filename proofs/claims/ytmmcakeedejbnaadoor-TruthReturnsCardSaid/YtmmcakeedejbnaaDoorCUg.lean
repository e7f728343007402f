/- The statement TruthReturns: for every table and six bytes the call of it returns true, and all read behind the call as before. Nothing is assumed but what the card itself lists. -/
import Derived.Test.YtmmcakeedejbnaaDoorWr
import Derived.Test.YtmmcakeedejbnaaDoorUOpen
import Derived.Lib.SmallJoins
import Derived.Deep.Slices
import Derived.Carry
namespace Go.Proofs.YtmmcakeedejbnaaDoor
open Go.ChangeShapes Go.WideShapes Go.ChangeAt Go.RowKit
open Go.ChangeMaps (open_string shut_string)

namespace TruthReturns
noncomputable def laidW (os : Os) : World := World.laidAll Tryd.prog os Rows.truthReturnsRow.laid
theorem laid_met (os : Os) (args : Array Value) : laidMet Tryd.prog Rows.truthReturnsRow.laid ((laidW os).forCall (fun _ _ => 0) ⟨#[], args, []⟩).memory :=
  laidMet_laidAll args (by kernel_rfl) (by kernel_rfl)

theorem witness_row (os : Os) {H : Type} (enc : TypeId × Value → H) :
    (OpenSpec.ofChange Rows.truthReturnsSpec).preRow enc Tryd.prog Tryd.f10 Rows.truthReturnsRow.domain false Rows.truthReturnsRow.laid ((laidW os).forCall (fun _ _ => 0) ⟨#[], #[.agg #[.int .i64 0, .int .u64 0], .agg #[.int .u8 0, .int .u8 0, .int .u8 0, .int .u8 0, .int .u8 0, .int .u8 0]], []⟩).memory #[.agg #[.int .i64 0, .int .u64 0], .agg #[.int .u8 0, .int .u8 0, .int .u8 0, .int .u8 0, .int .u8 0, .int .u8 0]] := by
  have hw : (DataW.whole enc Tryd.prog ((laidW os).forCall (fun _ _ => 0) ⟨#[], #[.agg #[.int .i64 0, .int .u64 0], .agg #[.int .u8 0, .int .u8 0, .int .u8 0, .int .u8 0, .int .u8 0, .int .u8 0]], []⟩).memory Tryd.f10.params.toList (OpenSpec.ofChange Rows.truthReturnsSpec).vars false #[(.agg #[.int .i64 0, .int .u64 0] : Value), .agg #[.int .u8 0, .int .u8 0, .int .u8 0, .int .u8 0, .int .u8 0, .int .u8 0]].toList 8).map (fun x => (x.1, x.2.1)) =
      some ([.agg [.lit (.int .i64 0), .lit (.int .u64 0)], .agg [.lit (.int .u8 0), .lit (.int .u8 0), .lit (.int .u8 0), .lit (.int .u8 0), .lit (.int .u8 0), .lit (.int .u8 0)]], []) := by kernel_rfl
  obtain ⟨⟨x1, x2, x3⟩, hx, hx1⟩ := Option.map_eq_some_iff.1 hw
  simp only [Prod.mk.injEq] at hx1
  obtain ⟨rfl, rfl⟩ := hx1
  exact OpenSpec.preRow_of_cond 8 hx (by kernel_rfl) (fun k hk => by cases hk) (by kernel_rfl) (laid_met os _)

set_option maxRecDepth 100000 in
theorem lifted (os : Os) (started : os.Started) (H : Type) (enc : TypeId × Value → H) (F : Stop.Interp) :
    ReturnsInHanded {} Tryd.checked os 10 .any ((OpenSpec.ofChange Rows.truthReturnsSpec).preRow enc Tryd.prog Tryd.f10 Rows.truthReturnsRow.domain false Rows.truthReturnsRow.laid)
      (((OpenSpec.ofChange Rows.truthReturnsSpec).at F).post enc Tryd.prog Tryd.f10 false true false false) := by
  refine returnsInHanded_of_row (C := Tryd.checked) (s := OpenSpec.ofChange Rows.truthReturnsSpec) ownKey started (by kernel_rfl) Tryd.func10
    (witness_row_atRef (enc := enc) (C := Tryd.checked) false (laidW os) #[.agg #[.int .i64 0, .int .u64 0], .agg #[.int .u8 0, .int .u8 0, .int .u8 0, .int .u8 0, .int .u8 0, .int .u8 0]] (World.laidAll_os _ _ _) (by kernel_rfl) (by kernel_rfl) (by kernel_rfl) (witness_row os enc)) ?_
  intro W base args ds gs before hval0 hW _ _ _ hL hsh _
  have hval : ∀ (j : Nat) t v, Tryd.f10.params[j]? = some t → args[j]? = some v → Value.okWide Tryd.prog W .any base t v := hval0
  have hW' := hW
  obtain ⟨p, q, hA0, hV0, rfl, _, _⟩ := hW
  have hA : DataW.TrodAll enc Tryd.prog W 0 (fun _ => true) true Tryd.f10.params.toList args.toList ds p := hA0
  rw [Tryd.params10] at hA hval
  obtain ⟨v0, v1, d0, d1, p0, p1, rfl, rfl, rfl, h0, h1⟩ := trodAll_two hA
  obtain ⟨rfl, rfl⟩ := trodVars_none hV0
  obtain ⟨c0, e0, z0, u0, n0, rfl, rfl, rfl, hz0, hu0⟩ := Joins.open_agg2 Tryd.underlying24 (by kernel_rfl) (show Tryd.prog.cellsOf 24 = 2 by kernel_rfl) (hval 0 24 v0 rfl rfl) h0
  obtain ⟨x0, f0, rfl, w0⟩ := DataW.trod_int Tryd.underlying3 hz0
  obtain ⟨y0, g0, rfl, m0⟩ := DataW.trod_int Tryd.underlying22 hu0
  simp only [List.cons.injEq, and_true] at f0 g0
  subst f0 g0
  have by0 : 0 ≤ y0 ∧ y0 ≤ 18446744073709551615 := by
    have h := m0
    simp [Lit.wf] at h
    have e1 : IntKind.u64.min = 0 := by decide
    have e2 : IntKind.u64.max = 18446744073709551615 := by decide
    (try rw [e1] at h)
    (try rw [e2] at h)
    exact h
  obtain ⟨cs1, rfl, hcs1⟩ : ∃ cs, v1 = .agg cs ∧ cs.size = Tryd.prog.cellsOf 75 := by
    have h := hval 1 75 v1 rfl rfl
    simp only [Value.okWide, Tryd.underlying75] at h
    obtain ⟨cs, h1, h2, _⟩ := h
    exact ⟨cs, h1, h2⟩
  obtain ⟨g10, g11, g12, g13, g14, g15, rfl⟩ := array6 (hcs1.trans (show Tryd.prog.cellsOf 75 = 6 by kernel_rfl))
  obtain ⟨fuel1, hf1⟩ := h1
  obtain ⟨x10, x11, x12, x13, x14, x15, rfl, rfl, rfl, rfl, rfl, rfl, w10, w11, w12, w13, w14, w15, hx1⟩ := open_six Tryd.underlying75 Tryd.underlying5 (show Tryd.prog.cellsOf 5 = 1 by kernel_rfl) (by simpa [Value.cells] using hf1)
  simp only [Prod.mk.injEq] at hx1
  obtain ⟨rfl, rfl⟩ := hx1
  clear hA0 hV0 hval0
  have hL' : laidMet Tryd.prog Rows.truthReturnsRow.laid W := by rw [← MakeChecks.laidMetH_plain _ _ _ (by kernel_rfl)]; exact hL
  have hst : St W := st_of hsh hL'
  refine (lawReturns_card x0 y0 x10 x11 x12 x13 x14 x15 W hst by0 (wf_u8 w10) (wf_u8 w11) (wf_u8 w12) (wf_u8 w13) (wf_u8 w14) (wf_u8 w15)).mono ?_
  rintro e W' ⟨rfl, bel⟩
  have e1 : ((OpenSpec.ofChange Rows.truthReturnsSpec).at F).fn H ([.agg [.lit (.int .i64 x0), .lit (.int .u64 y0)], .agg [.lit (.int .u8 x10), .lit (.int .u8 x11), .lit (.int .u8 x12), .lit (.int .u8 x13), .lit (.int .u8 x14), .lit (.int .u8 x15)]] ++ []) = { results := [.lit (.bool true)], args := [.agg [.lit (.int .i64 x0), .lit (.int .u64 y0)], .agg [.lit (.int .u8 x10), .lit (.int .u8 x11), .lit (.int .u8 x12), .lit (.int .u8 x13), .lit (.int .u8 x14), .lit (.int .u8 x15)]] } := rfl
  refine ⟨_, rfl, _, _, _, [], [], [], hW', ?_, ?_, ?_, bel.frame _, fun h => by cases h⟩
  · rw [e1]; exact trodAll_mk1 (shut_bool Tryd.underlying4 _)
  · rw [e1]; exact trodAll_mk2 (Joins.shut_agg2 (y0 := (.lit (.int .i64 x0), [])) (y1 := (.lit (.int .u64 y0), [])) Tryd.underlying24 (by kernel_rfl) (by kernel_rfl) ⟨1, by simp [DataW.trod, Tryd.underlying3, w0]⟩ ⟨1, by simp [DataW.trod, Tryd.underlying22, m0]⟩) ⟨2, by simp [DataW.trod, Tryd.underlying75, Tryd.underlying5, Value.cells, show Tryd.prog.cellsOf 75 = 6 from by kernel_rfl, show Tryd.prog.cellsOf 5 = 1 from by kernel_rfl, show List.range 6 = [0, 1, 2, 3, 4, 5] from rfl, w10, w11, w12, w13, w14, w15]⟩
  · rw [e1]; rfl

theorem row_holds : Rows.TruthReturnsSaid :=
  OpenClaim.holds_of_cond 10 Tryd.f10 rfl rfl rfl rfl rfl rfl rfl ⟨rfl, rfl, rfl, rfl, rfl⟩ rfl rfl rfl rfl rfl (by kernel_rfl) Tryd.func10 (by kernel_rfl)
    (of_decide_eq_true (by kernel_rfl)) (by unfold Func.isWrapper; first | (rw [if_pos (by decide +kernel)]; kernel_rfl) | (rw [if_neg (by decide +kernel)]; exact ⟨rfl, rfl⟩))
    (fun os started H enc _ F0 => by rw [OpenClaim.pre_eq_preRow]; exact lifted os started H enc F0)

/-- The statement TruthReturns: for every table and six bytes the call of it returns true, and all read behind the call as before. -/
theorem card_holds : Rows.TruthReturnsCardSaid :=
  Claim7.holds_tied_plain_at .later [] [.data, .data, .data] true Rows.truthReturnsCard.stood.harness Rows.truthReturnsCard.stood.looks
    row_holds (fun _ h => by cases h) (by kernel_rfl) (fun _ h => by cases h) truthReturns_row_tie rfl ⟨rfl, rfl⟩ (by kernel_rfl) rfl
    (fun f fn hf hfn => by
      obtain rfl : f = 10 := Option.some.inj ((show Tryd.prog.funcNamed "pneumatic/pneumaticlaw04.TruthReturns" = some 10 by kernel_rfl).symm.trans hf) |>.symm
      obtain rfl : fn = Tryd.f10 := (Option.some.inj (Tryd.func10.symm.trans hfn)).symm
      exact ⟨by kernel_rfl, fun j t ht => by
        rw [Tryd.params10] at ht
        have hm : t ∈ [24, 75] := by simpa using Array.mem_of_getElem? ht
        have hall : ([24, 75].all fun u => !Tryd.prog.wantsStandIn u) = true := by kernel_rfl
        exact (show Tryd.prog.wantsStandIn t = false by simpa using List.all_eq_true.1 hall t hm)⟩)
    (by kernel_rfl)

end TruthReturns
end Go.Proofs.YtmmcakeedejbnaaDoor
