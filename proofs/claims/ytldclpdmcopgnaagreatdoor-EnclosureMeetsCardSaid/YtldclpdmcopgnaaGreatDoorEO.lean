/- For every two enclosures the call of EnclosureMeets returns true, and all read behind the call as before. Nothing is assumed but what the card itself lists. -/
import Derived.Test.YtldclpdmcopgnaaGreatDoorEN
import Derived.Test.YtldclpdmcopgnaaGreatDoorOpen
import Derived.Lib.SmallJoins
namespace Go.Proofs.YtldclpdmcopgnaaGreatDoor
open Go.ChangeShapes Go.WideShapes Go.ChangeAt Go.RowKit
open Go.ChangeMaps (open_string shut_string)

namespace EnclosureMeets
noncomputable def laidW (os : Os) : World := World.laidAll Tryz.prog os Rows.enclosureMeetsRow.laid
theorem laid_met (os : Os) (args : Array Value) : laidMet Tryz.prog Rows.enclosureMeetsRow.laid ((laidW os).forCall (fun _ _ => 0) ⟨#[], args, []⟩).memory :=
  laidMet_laidAll args (by kernel_rfl) (by kernel_rfl)

theorem witness_row (os : Os) {H : Type} (enc : TypeId × Value → H) :
    (OpenSpec.ofChange Rows.enclosureMeetsSpec).preRow enc Tryz.prog Tryz.f9 Rows.enclosureMeetsRow.domain false Rows.enclosureMeetsRow.laid ((laidW os).forCall (fun _ _ => 0) ⟨#[], #[.agg #[.string ⟨#[]⟩, .string ⟨#[]⟩], .agg #[.string ⟨#[]⟩, .string ⟨#[]⟩]], []⟩).memory #[.agg #[.string ⟨#[]⟩, .string ⟨#[]⟩], .agg #[.string ⟨#[]⟩, .string ⟨#[]⟩]] := by
  have hw : (DataW.whole enc Tryz.prog ((laidW os).forCall (fun _ _ => 0) ⟨#[], #[.agg #[.string ⟨#[]⟩, .string ⟨#[]⟩], .agg #[.string ⟨#[]⟩, .string ⟨#[]⟩]], []⟩).memory Tryz.f9.params.toList (OpenSpec.ofChange Rows.enclosureMeetsSpec).vars false #[(.agg #[.string ⟨#[]⟩, .string ⟨#[]⟩] : Value), .agg #[.string ⟨#[]⟩, .string ⟨#[]⟩]].toList 8).map (fun x => (x.1, x.2.1)) =
      some ([.agg [.lit (.string []), .lit (.string [])], .agg [.lit (.string []), .lit (.string [])]], []) := by kernel_rfl
  obtain ⟨⟨x1, x2, x3⟩, hx, hx1⟩ := Option.map_eq_some_iff.1 hw
  simp only [Prod.mk.injEq] at hx1
  obtain ⟨rfl, rfl⟩ := hx1
  exact OpenSpec.preRow_of_cond 8 hx (by kernel_rfl) (fun k hk => by cases hk) (by kernel_rfl) (laid_met os _)

set_option maxRecDepth 100000 in
theorem lifted (os : Os) (started : os.Started) (H : Type) (enc : TypeId × Value → H) (F : Stop.Interp) :
    ReturnsInHanded {} Tryz.checked os 9 .any ((OpenSpec.ofChange Rows.enclosureMeetsSpec).preRow enc Tryz.prog Tryz.f9 Rows.enclosureMeetsRow.domain false Rows.enclosureMeetsRow.laid)
      (((OpenSpec.ofChange Rows.enclosureMeetsSpec).at F).post enc Tryz.prog Tryz.f9 false true false false) := by
  refine returnsInHanded_of_row (C := Tryz.checked) (s := OpenSpec.ofChange Rows.enclosureMeetsSpec) ownKey started (by kernel_rfl) Tryz.func9
    (witness_row_atRef (enc := enc) (C := Tryz.checked) false (laidW os) #[.agg #[.string ⟨#[]⟩, .string ⟨#[]⟩], .agg #[.string ⟨#[]⟩, .string ⟨#[]⟩]] (World.laidAll_os _ _ _) (by kernel_rfl) (by kernel_rfl) (by kernel_rfl) (witness_row os enc)) ?_
  intro W base args ds gs before hval0 hW _ _ _ hL hsh _
  have hval : ∀ (j : Nat) t v, Tryz.f9.params[j]? = some t → args[j]? = some v → Value.okWide Tryz.prog W .any base t v := hval0
  have hW' := hW
  obtain ⟨p, q, hA0, hV0, rfl, _, _⟩ := hW
  have hA : DataW.TrodAll enc Tryz.prog W 0 (fun _ => true) true Tryz.f9.params.toList args.toList ds p := hA0
  rw [Tryz.params9] at hA hval
  obtain ⟨v0, v1, d0, d1, p0, p1, rfl, rfl, rfl, h0, h1⟩ := trodAll_two hA
  obtain ⟨rfl, rfl⟩ := trodVars_none hV0
  obtain ⟨c0, e0, z0, u0, n0, rfl, rfl, rfl, hz0, hu0⟩ := Joins.open_agg2 Tryz.underlying24 (by kernel_rfl) (show Tryz.prog.cellsOf 24 = 2 by kernel_rfl) (hval 0 24 v0 rfl rfl) h0
  obtain ⟨x0, f0, rfl, w0⟩ := DataW.trod_string Tryz.underlying22 hz0
  obtain ⟨y0, g0, rfl, m0⟩ := DataW.trod_string Tryz.underlying22 hu0
  simp only [List.cons.injEq, and_true] at f0 g0
  subst f0 g0
  obtain ⟨c1, e1, z1, u1, n1, rfl, rfl, rfl, hz1, hu1⟩ := Joins.open_agg2 Tryz.underlying24 (by kernel_rfl) (show Tryz.prog.cellsOf 24 = 2 by kernel_rfl) (hval 1 24 v1 rfl rfl) h1
  obtain ⟨x1, f1, rfl, w1⟩ := DataW.trod_string Tryz.underlying22 hz1
  obtain ⟨y1, g1, rfl, m1⟩ := DataW.trod_string Tryz.underlying22 hu1
  simp only [List.cons.injEq, and_true] at f1 g1
  subst f1 g1
  clear hA0 hV0 hval0
  have hst : St W := st_of hsh
  refine (meets_any x0 y0 x1 y1 W hst (by unfold maxLen at w0; omega) (by unfold maxLen at m0; omega) (by unfold maxLen at w1; omega) (by unfold maxLen at m1; omega)).mono ?_
  rintro e W' ⟨rfl, bel⟩
  have e1 : ((OpenSpec.ofChange Rows.enclosureMeetsSpec).at F).fn H ([.agg [.lit (.string x0.data.toList), .lit (.string y0.data.toList)], .agg [.lit (.string x1.data.toList), .lit (.string y1.data.toList)]] ++ []) = { results := [.lit (.bool true)], args := [.agg [.lit (.string x0.data.toList), .lit (.string y0.data.toList)], .agg [.lit (.string x1.data.toList), .lit (.string y1.data.toList)]] } := rfl
  refine ⟨_, rfl, _, _, _, [], [], [], hW', ?_, ?_, ?_, bel.frame _, fun h => by cases h⟩
  · rw [e1]; exact trodAll_mk1 (shut_bool Tryz.underlying4 _)
  · rw [e1]; exact trodAll_mk2 (Joins.shut_agg2 (y0 := (.lit (.string x0.data.toList), [])) (y1 := (.lit (.string y0.data.toList), [])) Tryz.underlying24 (by kernel_rfl) (by kernel_rfl) ⟨1, by simp [DataW.trod, Tryz.underlying22, w0]⟩ ⟨1, by simp [DataW.trod, Tryz.underlying22, m0]⟩) (Joins.shut_agg2 (y0 := (.lit (.string x1.data.toList), [])) (y1 := (.lit (.string y1.data.toList), [])) Tryz.underlying24 (by kernel_rfl) (by kernel_rfl) ⟨1, by simp [DataW.trod, Tryz.underlying22, w1]⟩ ⟨1, by simp [DataW.trod, Tryz.underlying22, m1]⟩)
  · rw [e1]; rfl

theorem row_holds : Rows.EnclosureMeetsSaid :=
  OpenClaim.holds_of_cond 9 Tryz.f9 rfl rfl rfl rfl rfl rfl rfl ⟨rfl, rfl, rfl, rfl, rfl⟩ rfl rfl rfl rfl rfl (by kernel_rfl) Tryz.func9 (by kernel_rfl)
    (of_decide_eq_true (by kernel_rfl)) (by unfold Func.isWrapper; first | (rw [if_pos (by decide +kernel)]; kernel_rfl) | (rw [if_neg (by decide +kernel)]; exact ⟨rfl, rfl⟩))
    (fun os started H enc _ F0 => by rw [OpenClaim.pre_eq_preRow]; exact lifted os started H enc F0)

/-- For every two enclosures the call of EnclosureMeets returns true, and all read behind the call as before. -/
theorem card_holds : Rows.EnclosureMeetsCardSaid :=
  Claim7.holds_tied_plain_at .later [] [.data, .pinned] true Rows.enclosureMeetsCard.stood.harness Rows.enclosureMeetsCard.stood.looks
    row_holds (fun _ h => by cases h) (by kernel_rfl) (fun _ h => by cases h) enclosureMeets_row_tie rfl ⟨rfl, rfl⟩ (by kernel_rfl) rfl
    (fun f fn hf hfn => by
      obtain rfl : f = 9 := Option.some.inj ((show Tryz.prog.funcNamed "pneumatic/pneumaticlaw02.EnclosureMeets" = some 9 by kernel_rfl).symm.trans hf) |>.symm
      obtain rfl : fn = Tryz.f9 := (Option.some.inj (Tryz.func9.symm.trans hfn)).symm
      exact ⟨by kernel_rfl, fun j t ht => by
        rw [Tryz.params9] at ht
        have hm : t ∈ [24, 24] := by simpa using Array.mem_of_getElem? ht
        have hall : ([24, 24].all fun u => !Tryz.prog.wantsStandIn u) = true := by kernel_rfl
        exact (show Tryz.prog.wantsStandIn t = false by simpa using List.all_eq_true.1 hall t hm)⟩)
    (by kernel_rfl)

end EnclosureMeets
end Go.Proofs.YtldclpdmcopgnaaGreatDoor
