/- The statement HazardNotices: for every number, form and two bytes the call of it returns true, and all read behind the call as before. Nothing is assumed but what the card itself lists. -/
import Derived.Test.YtekeedccgnbkkaaDoorHu
import Derived.Test.YtekeedccgnbkkaaDoorHOpen
import Derived.Lib.SmallJoins
import Derived.Deep.Slices
import Derived.Carry
namespace Go.Proofs.YtekeedccgnbkkaaDoor
open Go.ChangeShapes Go.WideShapes Go.ChangeAt Go.RowKit

namespace HazardNotices
noncomputable def laidW (os : Os) : World := World.laidAll Tryd.prog os Rows.hazardNoticesRow.laid
theorem laid_met (os : Os) (args : Array Value) : laidMet Tryd.prog Rows.hazardNoticesRow.laid ((laidW os).forCall (fun _ _ => 0) ⟨#[], args, []⟩).memory :=
  laidMet_laidAll args (by kernel_rfl) (by kernel_rfl)

theorem laidOut : laidOutB Tryd.prog = true := by kernel_rfl
theorem witness_row (os : Os) {H : Type} (enc : TypeId × Value → H) :
    (OpenSpec.ofChange Rows.hazardNoticesSpec).preRow enc Tryd.prog Tryd.f5 Rows.hazardNoticesRow.domain false Rows.hazardNoticesRow.laid ((laidW os).forCall (fun _ _ => 0) ⟨#[], #[.int .i64 0, .slice none 0 0, .agg #[.int .u8 0, .int .u8 0]], []⟩).memory #[.int .i64 0, .slice none 0 0, .agg #[.int .u8 0, .int .u8 0]] := by
  have hw : (DataW.whole enc Tryd.prog ((laidW os).forCall (fun _ _ => 0) ⟨#[], #[.int .i64 0, .slice none 0 0, .agg #[.int .u8 0, .int .u8 0]], []⟩).memory Tryd.f5.params.toList (OpenSpec.ofChange Rows.hazardNoticesSpec).vars false #[(.int .i64 0 : Value), .slice none 0 0, .agg #[.int .u8 0, .int .u8 0]].toList 8).map (fun x => (x.1, x.2.1)) =
      some ([.lit (.int .i64 0), .nil, .agg [.lit (.int .u8 0), .lit (.int .u8 0)]], []) := by kernel_rfl
  obtain ⟨⟨x1, x2, x3⟩, hx, hx1⟩ := Option.map_eq_some_iff.1 hw
  simp only [Prod.mk.injEq] at hx1
  obtain ⟨rfl, rfl⟩ := hx1
  exact OpenSpec.preRow_of_cond 8 hx (by kernel_rfl) (fun k hk => by cases hk) (by kernel_rfl) (laid_met os _)

set_option maxRecDepth 100000 in
theorem lifted (os : Os) (started : os.Started) (H : Type) (enc : TypeId × Value → H) (F : Stop.Interp) :
    ReturnsInHanded {} Tryd.checked os 5 .any ((OpenSpec.ofChange Rows.hazardNoticesSpec).preRow enc Tryd.prog Tryd.f5 Rows.hazardNoticesRow.domain false Rows.hazardNoticesRow.laid)
      (((OpenSpec.ofChange Rows.hazardNoticesSpec).at F).post enc Tryd.prog Tryd.f5 false true false false) := by
  refine returnsInHanded_of_row (C := Tryd.checked) (s := OpenSpec.ofChange Rows.hazardNoticesSpec) ownKey started (by kernel_rfl) Tryd.func5
    (witness_row_atRef (enc := enc) (C := Tryd.checked) false (laidW os) #[.int .i64 0, .slice none 0 0, .agg #[.int .u8 0, .int .u8 0]] (World.laidAll_os _ _ _) (by kernel_rfl) (by kernel_rfl) (by kernel_rfl) (witness_row os enc)) ?_
  intro W base args ds gs before hval0 hW _ _ _ hL hsh _
  have hval : ∀ (j : Nat) t v, Tryd.f5.params[j]? = some t → args[j]? = some v → Value.okWide Tryd.prog W .any base t v := hval0
  have hW' := hW
  obtain ⟨p, q, hA0, hV0, rfl, _, _⟩ := hW
  have hA : DataW.TrodAll enc Tryd.prog W 0 (fun _ => true) true Tryd.f5.params.toList args.toList ds p := hA0
  rw [Tryd.params5] at hA hval
  obtain ⟨v0, v1, v2, d0, d1, d2, p0, p1, p2, rfl, rfl, rfl, h0, h1, h2⟩ := trodAll_three hA
  obtain ⟨rfl, rfl⟩ := trodVars_none hV0
  obtain ⟨x0, rfl, rfl, rfl, w0⟩ := open_int Tryd.underlying3 (hval 0 3 v0 rfl rfl) h0
  obtain ⟨a1, len1, cap1, rfl⟩ := okWide_slice Tryd.underlying22 (hval 1 22 v1 rfl rfl)
  obtain ⟨cs2, rfl, hcs2⟩ : ∃ cs, v2 = .agg cs ∧ cs.size = Tryd.prog.cellsOf 49 := by
    have h := hval 2 49 v2 rfl rfl
    simp only [Value.okWide, Tryd.underlying49] at h
    obtain ⟨cs, h1, h2, _⟩ := h
    exact ⟨cs, h1, h2⟩
  obtain ⟨g20, g21, rfl⟩ := arr2 (hcs2.trans (show Tryd.prog.cellsOf 49 = 2 by kernel_rfl))
  obtain ⟨fuel2, hf2⟩ := h2
  obtain ⟨z20, z21, rfl, rfl, w20, w21, hx2⟩ := open_by2 Tryd.underlying49 Tryd.underlying5 (show Tryd.prog.cellsOf 5 = 1 by kernel_rfl) (by simpa [Value.cells] using hf2)
  simp only [Prod.mk.injEq] at hx2
  obtain ⟨rfl, rfl⟩ := hx2
  obtain ⟨y20, rfl⟩ := Int.eq_ofNat_of_zero_le (wf_u8 w20).1
  have b20 := (wf_u8 w20).2
  obtain ⟨y21, rfl⟩ := Int.eq_ofNat_of_zero_le (wf_u8 w21).1
  have b21 := (wf_u8 w21).2
  clear hA0 hV0 hval0
  simp only [List.append_nil, List.nil_append] at hW'
  have hlt : ∀ x ∈ p1, x.block < W.heap.size := fun x hx => by simpa using hW'.lt x hx
  have hL' : laidMet Tryd.prog Rows.hazardNoticesRow.laid W := by rw [← MakeChecks.laidMetH_plain _ _ _ (by kernel_rfl)]; exact hL
  have hal := al_of hsh hL'
  obtain ⟨l, hs, hw⟩ := open_form h1 hlt
  refine (notices_any x0 l (.slice a1 len1 cap1) y20 y21 W (by omega) (by omega) hw hs ⟨hal.1, hal.2.1, hal.2.2⟩).mono ?_
  rintro e W' ⟨rfl, bel⟩
  have e1 : ((OpenSpec.ofChange Rows.hazardNoticesSpec).at F).fn H ([.lit (.int .i64 x0), d1, .agg [.lit (.int .u8 (y20 : Int)), .lit (.int .u8 (y21 : Int))]] ++ []) = { results := [.lit (.bool true)], args := [.lit (.int .i64 x0), d1, .agg [.lit (.int .u8 (y20 : Int)), .lit (.int .u8 (y21 : Int))]] } := rfl
  refine ⟨_, rfl, _, _, _, [], p1, [], hW', ?_, ?_, ?_, bel.frame _, fun h => by cases h⟩
  · rw [e1]; exact trodAll_mk1 (shut_bool Tryd.underlying4 _)
  · rw [e1, ← List.append_nil p1]; exact trodAll_mk3 (shut_int Tryd.underlying3 w0) (Below.trod laidOut (by kernel_rfl) (of_decide_eq_true (by kernel_rfl)) h1 bel hlt) ⟨2, by simp [DataW.trod, Tryd.underlying49, Tryd.underlying5, Value.cells, show Tryd.prog.cellsOf 49 = 2 from by kernel_rfl, show Tryd.prog.cellsOf 5 = 1 from by kernel_rfl, show List.range 2 = [0, 1] from rfl, w20, w21]⟩
  · rw [e1]; rfl

theorem row_holds : Rows.HazardNoticesSaid :=
  OpenClaim.holds_of_cond 5 Tryd.f5 rfl rfl rfl rfl rfl rfl rfl ⟨rfl, rfl, rfl, rfl, rfl⟩ rfl rfl rfl rfl rfl (by kernel_rfl) Tryd.func5 (by kernel_rfl)
    (of_decide_eq_true (by kernel_rfl)) (by unfold Func.isWrapper; first | (rw [if_pos (by decide +kernel)]; kernel_rfl) | (rw [if_neg (by decide +kernel)]; exact ⟨rfl, rfl⟩))
    (fun os started H enc _ F0 => by rw [OpenClaim.pre_eq_preRow]; exact lifted os started H enc F0)

/-- The statement HazardNotices: for every number, form and two bytes the call of it returns true, and all read behind the call as before. -/
theorem card_holds : Rows.HazardNoticesCardSaid :=
  Claim7.holds_tied_plain_at .later [] [.data, .data, .data, .data] true Rows.hazardNoticesCard.stood.harness Rows.hazardNoticesCard.stood.looks
    row_holds (fun _ h => by cases h) (by kernel_rfl) (fun _ h => by cases h) hazardNotices_row_tie rfl ⟨rfl, rfl⟩ (by kernel_rfl) rfl
    (fun f fn hf hfn => by
      obtain rfl : f = 5 := Option.some.inj ((show Tryd.prog.funcNamed "pneumatic/pneumaticlaw08.HazardNotices" = some 5 by kernel_rfl).symm.trans hf) |>.symm
      obtain rfl : fn = Tryd.f5 := (Option.some.inj (Tryd.func5.symm.trans hfn)).symm
      exact ⟨by kernel_rfl, fun j t ht => by
        rw [Tryd.params5] at ht
        have hm : t ∈ [3, 22, 49] := by simpa using Array.mem_of_getElem? ht
        have hall : ([3, 22, 49].all fun u => !Tryd.prog.wantsStandIn u) = true := by kernel_rfl
        exact (show Tryd.prog.wantsStandIn t = false by simpa using List.all_eq_true.1 hall t hm)⟩)
    (by kernel_rfl)

end HazardNotices
end Go.Proofs.YtekeedccgnbkkaaDoor
