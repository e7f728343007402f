/- The statement TimespanCombines: for every two spans and every three numbers the call of it returns true, and all read behind the call as before. Nothing is assumed but what the card itself lists. -/
import Derived.Test.YtgblodnggeabjabDoorTz
import Derived.Test.YtgblodnggeabjabDoorTOpen
import Derived.Lib.SmallJoins
import Derived.Laws.IdiomArrays
namespace Go.Proofs.YtgblodnggeabjabDoor
open Go.ChangeShapes Go.WideShapes Go.ChangeAt Go.RowKit
open Go.ChangeMaps (open_string shut_string)

namespace TimespanCombines
noncomputable def laidW (os : Os) : World := World.laidAll Tryd.prog os Rows.timespanCombinesRow.laid
theorem laid_met (os : Os) (args : Array Value) : laidMet Tryd.prog Rows.timespanCombinesRow.laid ((laidW os).forCall (fun _ _ => 0) ⟨#[], args, []⟩).memory :=
  laidMet_laidAll args (by kernel_rfl) (by kernel_rfl)

theorem witness_row (os : Os) {H : Type} (enc : TypeId × Value → H) :
    (OpenSpec.ofChange Rows.timespanCombinesSpec).preRow enc Tryd.prog Tryd.f8 Rows.timespanCombinesRow.domain false Rows.timespanCombinesRow.laid ((laidW os).forCall (fun _ _ => 0) ⟨#[], #[.agg #[.int .i64 0, .int .i64 0], .agg #[.int .i64 0, .int .i64 0], .agg #[.int .u16 0, .int .u16 0, .int .u16 0]], []⟩).memory #[.agg #[.int .i64 0, .int .i64 0], .agg #[.int .i64 0, .int .i64 0], .agg #[.int .u16 0, .int .u16 0, .int .u16 0]] := by
  have hw : (DataW.whole enc Tryd.prog ((laidW os).forCall (fun _ _ => 0) ⟨#[], #[.agg #[.int .i64 0, .int .i64 0], .agg #[.int .i64 0, .int .i64 0], .agg #[.int .u16 0, .int .u16 0, .int .u16 0]], []⟩).memory Tryd.f8.params.toList (OpenSpec.ofChange Rows.timespanCombinesSpec).vars false #[(.agg #[.int .i64 0, .int .i64 0] : Value), .agg #[.int .i64 0, .int .i64 0], .agg #[.int .u16 0, .int .u16 0, .int .u16 0]].toList 8).map (fun x => (x.1, x.2.1)) =
      some ([.agg [.lit (.int .i64 0), .lit (.int .i64 0)], .agg [.lit (.int .i64 0), .lit (.int .i64 0)], .agg [.lit (.int .u16 0), .lit (.int .u16 0), .lit (.int .u16 0)]], []) := by kernel_rfl
  obtain ⟨⟨x1, x2, x3⟩, hx, hx1⟩ := Option.map_eq_some_iff.1 hw
  simp only [Prod.mk.injEq] at hx1
  obtain ⟨rfl, rfl⟩ := hx1
  exact OpenSpec.preRow_of_cond 8 hx (by kernel_rfl) (fun k hk => by cases hk) (by kernel_rfl) (laid_met os _)

set_option maxRecDepth 100000 in
theorem lifted (os : Os) (started : os.Started) (H : Type) (enc : TypeId × Value → H) (F : Stop.Interp) :
    ReturnsInHanded {} Tryd.checked os 8 .any ((OpenSpec.ofChange Rows.timespanCombinesSpec).preRow enc Tryd.prog Tryd.f8 Rows.timespanCombinesRow.domain false Rows.timespanCombinesRow.laid)
      (((OpenSpec.ofChange Rows.timespanCombinesSpec).at F).post enc Tryd.prog Tryd.f8 false true false false) := by
  refine returnsInHanded_of_row (C := Tryd.checked) (s := OpenSpec.ofChange Rows.timespanCombinesSpec) ownKey started (by kernel_rfl) Tryd.func8
    (witness_row_atRef (enc := enc) (C := Tryd.checked) false (laidW os) #[.agg #[.int .i64 0, .int .i64 0], .agg #[.int .i64 0, .int .i64 0], .agg #[.int .u16 0, .int .u16 0, .int .u16 0]] (World.laidAll_os _ _ _) (by kernel_rfl) (by kernel_rfl) (by kernel_rfl) (witness_row os enc)) ?_
  intro W base args ds gs before hval0 hW _ _ _ hL hsh _
  have hval : ∀ (j : Nat) t v, Tryd.f8.params[j]? = some t → args[j]? = some v → Value.okWide Tryd.prog W .any base t v := hval0
  have hW' := hW
  obtain ⟨p, q, hA0, hV0, rfl, _, _⟩ := hW
  have hA : DataW.TrodAll enc Tryd.prog W 0 (fun _ => true) true Tryd.f8.params.toList args.toList ds p := hA0
  rw [Tryd.params8] at hA hval
  obtain ⟨v0, v1, v2, d0, d1, d2, p0, p1, p2, rfl, rfl, rfl, h0, h1, h2⟩ := trodAll_three hA
  obtain ⟨rfl, rfl⟩ := trodVars_none hV0
  obtain ⟨c0, e0, z0, u0, n0, rfl, rfl, rfl, hz0, hu0⟩ := Joins.open_agg2 Tryd.underlying23 (by kernel_rfl) (show Tryd.prog.cellsOf 23 = 2 by kernel_rfl) (hval 0 23 v0 rfl rfl) h0
  obtain ⟨x0, f0, rfl, w0⟩ := DataW.trod_int Tryd.underlying3 hz0
  obtain ⟨y0, g0, rfl, m0⟩ := DataW.trod_int Tryd.underlying3 hu0
  simp only [List.cons.injEq, and_true] at f0 g0
  subst f0 g0
  obtain ⟨c1, e1, z1, u1, n1, rfl, rfl, rfl, hz1, hu1⟩ := Joins.open_agg2 Tryd.underlying23 (by kernel_rfl) (show Tryd.prog.cellsOf 23 = 2 by kernel_rfl) (hval 1 23 v1 rfl rfl) h1
  obtain ⟨x1, f1, rfl, w1⟩ := DataW.trod_int Tryd.underlying3 hz1
  obtain ⟨y1, g1, rfl, m1⟩ := DataW.trod_int Tryd.underlying3 hu1
  simp only [List.cons.injEq, and_true] at f1 g1
  subst f1 g1
  obtain ⟨cs2, rfl, hcs2⟩ : ∃ cs, v2 = .agg cs ∧ cs.size = Tryd.prog.cellsOf 62 := by
    have h := hval 2 62 v2 rfl rfl
    simp only [Value.okWide, Tryd.underlying62] at h
    obtain ⟨cs, h1, h2, _⟩ := h
    exact ⟨cs, h1, h2⟩
  obtain ⟨g20, g21, g22, rfl⟩ := Joins.array3 (hcs2.trans (show Tryd.prog.cellsOf 62 = 3 by kernel_rfl))
  obtain ⟨fuel2, hf2⟩ := h2
  obtain ⟨z20, z21, z22, n2, hx2, k20, k21, k22⟩ := trod_array3 Tryd.underlying62 (show Tryd.prog.cellsOf 61 = 1 by kernel_rfl) (by simpa [Value.cells] using hf2)
  obtain ⟨x20, f20, rfl, w20⟩ := DataW.trod_int Tryd.underlying61 k20
  simp only [List.cons.injEq, and_true] at f20
  subst f20
  have bx20 : 0 ≤ x20 ∧ x20 ≤ 65535 := by
    have h := w20
    simp [Lit.wf] at h
    have e1 : IntKind.u16.min = 0 := by decide
    have e2 : IntKind.u16.max = 65535 := by decide
    (try rw [e1] at h)
    (try rw [e2] at h)
    exact h
  obtain ⟨x21, f21, rfl, w21⟩ := DataW.trod_int Tryd.underlying61 k21
  simp only [List.cons.injEq, and_true] at f21
  subst f21
  have bx21 : 0 ≤ x21 ∧ x21 ≤ 65535 := by
    have h := w21
    simp [Lit.wf] at h
    have e1 : IntKind.u16.min = 0 := by decide
    have e2 : IntKind.u16.max = 65535 := by decide
    (try rw [e1] at h)
    (try rw [e2] at h)
    exact h
  obtain ⟨x22, f22, rfl, w22⟩ := DataW.trod_int Tryd.underlying61 k22
  simp only [List.cons.injEq, and_true] at f22
  subst f22
  have bx22 : 0 ≤ x22 ∧ x22 ≤ 65535 := by
    have h := w22
    simp [Lit.wf] at h
    have e1 : IntKind.u16.min = 0 := by decide
    have e2 : IntKind.u16.max = 65535 := by decide
    (try rw [e1] at h)
    (try rw [e2] at h)
    exact h
  simp only [Prod.mk.injEq] at hx2
  obtain ⟨rfl, rfl⟩ := hx2
  clear hA0 hV0 hval0
  have hL' : laidMet Tryd.prog Rows.timespanCombinesRow.laid W := by rw [← MakeChecks.laidMetH_plain _ _ _ (by kernel_rfl)]; exact hL
  have hst : St W := st_of hsh hL'
  refine (lawCombines_any x0 y0 x1 y1 x20 x21 x22 W hst bx20 bx21 bx22).mono ?_
  rintro e W' ⟨rfl, bel⟩
  have e1 : ((OpenSpec.ofChange Rows.timespanCombinesSpec).at F).fn H ([.agg [.lit (.int .i64 x0), .lit (.int .i64 y0)], .agg [.lit (.int .i64 x1), .lit (.int .i64 y1)], .agg [.lit (.int .u16 x20), .lit (.int .u16 x21), .lit (.int .u16 x22)]] ++ []) = { results := [.lit (.bool true)], args := [.agg [.lit (.int .i64 x0), .lit (.int .i64 y0)], .agg [.lit (.int .i64 x1), .lit (.int .i64 y1)], .agg [.lit (.int .u16 x20), .lit (.int .u16 x21), .lit (.int .u16 x22)]] } := rfl
  refine ⟨_, rfl, _, _, _, [], [], [], hW', ?_, ?_, ?_, bel.frame _, fun h => by cases h⟩
  · rw [e1]; exact trodAll_mk1 (shut_bool Tryd.underlying4 _)
  · rw [e1]; exact trodAll_mk3 (Joins.shut_agg2 (y0 := (.lit (.int .i64 x0), [])) (y1 := (.lit (.int .i64 y0), [])) Tryd.underlying23 (by kernel_rfl) (by kernel_rfl) ⟨1, by simp [DataW.trod, Tryd.underlying3, w0]⟩ ⟨1, by simp [DataW.trod, Tryd.underlying3, m0]⟩) (Joins.shut_agg2 (y0 := (.lit (.int .i64 x1), [])) (y1 := (.lit (.int .i64 y1), [])) Tryd.underlying23 (by kernel_rfl) (by kernel_rfl) ⟨1, by simp [DataW.trod, Tryd.underlying3, w1]⟩ ⟨1, by simp [DataW.trod, Tryd.underlying3, m1]⟩) ⟨2, by simp [DataW.trod, Tryd.underlying62, Tryd.underlying61, Value.cells, show Tryd.prog.cellsOf 62 = 3 from by kernel_rfl, show Tryd.prog.cellsOf 61 = 1 from by kernel_rfl, show List.range 3 = [0, 1, 2] from rfl, w20, w21, w22]⟩
  · rw [e1]; rfl

theorem row_holds : Rows.TimespanCombinesSaid :=
  OpenClaim.holds_of_cond 8 Tryd.f8 rfl rfl rfl rfl rfl rfl rfl ⟨rfl, rfl, rfl, rfl, rfl⟩ rfl rfl rfl rfl rfl (by kernel_rfl) Tryd.func8 (by kernel_rfl)
    (of_decide_eq_true (by kernel_rfl)) (by unfold Func.isWrapper; first | (rw [if_pos (by decide +kernel)]; kernel_rfl) | (rw [if_neg (by decide +kernel)]; exact ⟨rfl, rfl⟩))
    (fun os started H enc _ F0 => by rw [OpenClaim.pre_eq_preRow]; exact lifted os started H enc F0)

/-- The statement TimespanCombines: for every two spans and every three numbers the call of it returns true, and all read behind the call as before. -/
theorem card_holds : Rows.TimespanCombinesCardSaid :=
  Claim7.holds_tied_plain_at .later [] [.data, .data, .data] true Rows.timespanCombinesCard.stood.harness Rows.timespanCombinesCard.stood.looks
    row_holds (fun _ h => by cases h) (by kernel_rfl) (fun _ h => by cases h) timespanCombines_row_tie rfl ⟨rfl, rfl⟩ (by kernel_rfl) rfl
    (fun f fn hf hfn => by
      obtain rfl : f = 8 := Option.some.inj ((show Tryd.prog.funcNamed "pneumatic/pneumaticlaw03.TimespanCombines" = some 8 by kernel_rfl).symm.trans hf) |>.symm
      obtain rfl : fn = Tryd.f8 := (Option.some.inj (Tryd.func8.symm.trans hfn)).symm
      exact ⟨by kernel_rfl, fun j t ht => by
        rw [Tryd.params8] at ht
        have hm : t ∈ [23, 23, 62] := by simpa using Array.mem_of_getElem? ht
        have hall : ([23, 23, 62].all fun u => !Tryd.prog.wantsStandIn u) = true := by kernel_rfl
        exact (show Tryd.prog.wantsStandIn t = false by simpa using List.all_eq_true.1 hall t hm)⟩)
    (by kernel_rfl)

end TimespanCombines
end Go.Proofs.YtgblodnggeabjabDoor
