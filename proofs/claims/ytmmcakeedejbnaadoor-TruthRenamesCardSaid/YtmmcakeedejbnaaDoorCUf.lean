/- The statement TruthRenames: for every table and order the call of it returns true, and the order reads behind the call as before. Nothing is assumed but what the card itself lists. -/
import Derived.Test.YtmmcakeedejbnaaDoorVk
import Derived.Test.YtmmcakeedejbnaaDoorUOpen
import Derived.Lib.SmallJoins
import Derived.Deep.Slices
import Derived.Carry
namespace Go.Proofs.YtmmcakeedejbnaaDoor
open Go.ChangeShapes Go.WideShapes Go.ChangeAt Go.RowKit
open Go.ChangeMaps (open_string shut_string)

namespace TruthRenames
noncomputable def laidW (os : Os) : World := World.laidAll Tryd.prog os Rows.truthRenamesRow.laid
theorem laid_met (os : Os) (args : Array Value) : laidMet Tryd.prog Rows.truthRenamesRow.laid ((laidW os).forCall (fun _ _ => 0) ⟨#[], args, []⟩).memory :=
  laidMet_laidAll args (by kernel_rfl) (by kernel_rfl)

theorem laidOut : laidOutB Tryd.prog = true := by kernel_rfl
theorem witness_row (os : Os) {H : Type} (enc : TypeId × Value → H) :
    (OpenSpec.ofChange Rows.truthRenamesSpec).preRow enc Tryd.prog Tryd.f6 Rows.truthRenamesRow.domain false Rows.truthRenamesRow.laid ((laidW os).forCall (fun _ _ => 0) ⟨#[], #[.agg #[.int .i64 0, .int .u64 0], .slice none 0 0], []⟩).memory #[.agg #[.int .i64 0, .int .u64 0], .slice none 0 0] := by
  have hw : (DataW.whole enc Tryd.prog ((laidW os).forCall (fun _ _ => 0) ⟨#[], #[.agg #[.int .i64 0, .int .u64 0], .slice none 0 0], []⟩).memory Tryd.f6.params.toList (OpenSpec.ofChange Rows.truthRenamesSpec).vars false #[(.agg #[.int .i64 0, .int .u64 0] : Value), .slice none 0 0].toList 8).map (fun x => (x.1, x.2.1)) =
      some ([.agg [.lit (.int .i64 0), .lit (.int .u64 0)], .nil], []) := by kernel_rfl
  obtain ⟨⟨x1, x2, x3⟩, hx, hx1⟩ := Option.map_eq_some_iff.1 hw
  simp only [Prod.mk.injEq] at hx1
  obtain ⟨rfl, rfl⟩ := hx1
  exact OpenSpec.preRow_of_cond 8 hx (by kernel_rfl) (fun k hk => by cases hk) (by kernel_rfl) (laid_met os _)

set_option maxRecDepth 100000 in
theorem lifted (os : Os) (started : os.Started) (H : Type) (enc : TypeId × Value → H) (F : Stop.Interp) :
    ReturnsInHanded {} Tryd.checked os 6 .any ((OpenSpec.ofChange Rows.truthRenamesSpec).preRow enc Tryd.prog Tryd.f6 Rows.truthRenamesRow.domain false Rows.truthRenamesRow.laid)
      (((OpenSpec.ofChange Rows.truthRenamesSpec).at F).post enc Tryd.prog Tryd.f6 false true false false) := by
  refine returnsInHanded_of_row (C := Tryd.checked) (s := OpenSpec.ofChange Rows.truthRenamesSpec) ownKey started (by kernel_rfl) Tryd.func6
    (witness_row_atRef (enc := enc) (C := Tryd.checked) false (laidW os) #[.agg #[.int .i64 0, .int .u64 0], .slice none 0 0] (World.laidAll_os _ _ _) (by kernel_rfl) (by kernel_rfl) (by kernel_rfl) (witness_row os enc)) ?_
  intro W base args ds gs before hval0 hW _ _ _ hL hsh _
  have hval : ∀ (j : Nat) t v, Tryd.f6.params[j]? = some t → args[j]? = some v → Value.okWide Tryd.prog W .any base t v := hval0
  have hW' := hW
  obtain ⟨p, q, hA0, hV0, rfl, _, _⟩ := hW
  have hA : DataW.TrodAll enc Tryd.prog W 0 (fun _ => true) true Tryd.f6.params.toList args.toList ds p := hA0
  rw [Tryd.params6] at hA hval
  obtain ⟨v0, v1, d0, d1, p0, p1, rfl, rfl, rfl, h0, h1⟩ := trodAll_two hA
  obtain ⟨rfl, rfl⟩ := trodVars_none hV0
  obtain ⟨c0, e0, z0, u0, n0, rfl, rfl, rfl, hz0, hu0⟩ := Joins.open_agg2 Tryd.underlying24 (by kernel_rfl) (show Tryd.prog.cellsOf 24 = 2 by kernel_rfl) (hval 0 24 v0 rfl rfl) h0
  obtain ⟨x0, f0, rfl, w0⟩ := DataW.trod_int Tryd.underlying3 hz0
  obtain ⟨y0, g0, rfl, m0⟩ := DataW.trod_int Tryd.underlying22 hu0
  simp only [List.cons.injEq, and_true] at f0 g0
  subst f0 g0
  have by0 : 0 ≤ y0 ∧ y0 ≤ 18446744073709551615 := by
    have h := m0
    simp [Lit.wf] at h
    have e1 : IntKind.u64.min = 0 := by decide
    have e2 : IntKind.u64.max = 18446744073709551615 := by decide
    (try rw [e1] at h)
    (try rw [e2] at h)
    exact h
  obtain ⟨a0, len, cap, rfl⟩ := okWide_slice Tryd.underlying36 (hval 1 36 v1 rfl rfl)
  have h1k := h1
  obtain ⟨fuel, hf⟩ := h1
  clear hA0 hV0 hval0
  simp only [List.append_nil, List.nil_append] at hW'
  have hlt : ∀ x ∈ p1, x.block < W.heap.size := fun x hx => by simpa using hW'.lt x hx
  have hL' : laidMet Tryd.prog Rows.truthRenamesRow.laid W := by rw [← MakeChecks.laidMetH_plain _ _ _ (by kernel_rfl)]; exact hL
  have hst : St W := st_of hsh hL'
  obtain ⟨b0, rfl⟩ := Int.eq_ofNat_of_zero_le by0.1
  have fin : ∀ W', Below W.heap.size W W' → ((OpenSpec.ofChange Rows.truthRenamesSpec).at F).post enc Tryd.prog Tryd.f6 false true false false W #[.agg #[.int .i64 x0, .int .u64 (b0 : Int)], .slice a0 len cap] (.bool true) W' := by
    intro W' bel
    have e1 : ((OpenSpec.ofChange Rows.truthRenamesSpec).at F).fn H ([.agg [.lit (.int .i64 x0), .lit (.int .u64 (b0 : Int))], d1] ++ []) = { results := [.lit (.bool true)], args := [.agg [.lit (.int .i64 x0), .lit (.int .u64 (b0 : Int))], d1] } := rfl
    refine ⟨_, _, _, [], p1, [], hW', ?_, ?_, ?_, bel.frame _, fun h => by cases h⟩
    · rw [e1]; exact trodAll_mk1 (shut_bool Tryd.underlying4 _)
    · rw [e1]; exact trodAll_mk2 (Joins.shut_agg2 (y0 := (.lit (.int .i64 x0), [])) (y1 := (.lit (.int .u64 (b0 : Int)), [])) Tryd.underlying24 (by kernel_rfl) (by kernel_rfl) ⟨1, by simp [DataW.trod, Tryd.underlying3, w0]⟩ ⟨1, by simp [DataW.trod, Tryd.underlying22, m0]⟩) (Below.trod laidOut (by kernel_rfl) (of_decide_eq_true (by kernel_rfl)) h1k bel hlt)
    · rw [e1]; rfl
  rcases Deep.open_slice1 Tryd.underlying36 (by kernel_rfl) hf with ⟨hcs, hx⟩ | ⟨a, len', cap', m, n, V, D, Pl, hcs, _, hl, hm, hmm, hx, hcell⟩
  · simp [Value.cells] at hcs
    obtain ⟨rfl, rfl, rfl⟩ := hcs
    refine (lawRenames_any x0 b0 [] _ W hst (by omega) ⟨none, 0, rfl, by simp, by omega, fun h => by simp at h⟩).mono ?_
    rintro e W' ⟨rfl, bel⟩
    exact ⟨_, rfl, fin W' bel⟩
  · simp [Value.cells] at hcs
    obtain ⟨rfl, rfl, rfl⟩ := hcs
    simp only [if_true] at hmm
    subst hmm
    simp only [Prod.mk.injEq] at hx
    have hp := hx.2
    unfold maxLen at hm
    obtain ⟨X, hX⟩ := Deep.choose_lt (p := fun i (z : Int) => V i = .int .i64 z) (n := m) (fun i hi => by
      obtain ⟨z, h1, _⟩ := DataW.trod_int Tryd.underlying3 (hcell i hi).2
      exact ⟨z, by simpa using h1⟩)
    have hlen : ((List.range len).map X).length = len := by simp
    have hsees : SeesI W (.slice (some a) len m) ((List.range len).map X) := by
      refine ⟨some a, m, by rw [hlen], by rw [hlen]; exact hl, by omega, fun hp0 => ?_⟩
      rw [hlen] at hp0
      obtain ⟨b, off, spot⟩ := a
      have hspot : spot = none := by simpa [Addr.add] using World.cell?_spot (hcell 0 (by omega)).1
      subst hspot
      have hbW : b < W.heap.size := hlt (.cell b off) (by rw [hp]; exact List.mem_append_left _ (MemPlace.mem_row.2 ⟨0, by omega, by simp⟩))
      refine ⟨b, off, rfl, hbW, fun i hi => ?_⟩
      rw [hlen] at hi
      have h1 := (hcell i (by omega)).1
      rw [add_plain] at h1
      have e : ((List.range len).map X).getD i 0 = X i := by simp [hi]
      rw [e, ← hX i (by omega)]
      exact h1
    refine (lawRenames_any x0 b0 _ _ W hst (by omega) hsees).mono ?_
    rintro e W' ⟨rfl, bel⟩
    exact ⟨_, rfl, fin W' bel⟩

theorem row_holds : Rows.TruthRenamesSaid :=
  OpenClaim.holds_of_cond 6 Tryd.f6 rfl rfl rfl rfl rfl rfl rfl ⟨rfl, rfl, rfl, rfl, rfl⟩ rfl rfl rfl rfl rfl (by kernel_rfl) Tryd.func6 (by kernel_rfl)
    (of_decide_eq_true (by kernel_rfl)) (by unfold Func.isWrapper; first | (rw [if_pos (by decide +kernel)]; kernel_rfl) | (rw [if_neg (by decide +kernel)]; exact ⟨rfl, rfl⟩))
    (fun os started H enc _ F0 => by rw [OpenClaim.pre_eq_preRow]; exact lifted os started H enc F0)

/-- The statement TruthRenames: for every table and order the call of it returns true, and the order reads behind the call as before. -/
theorem card_holds : Rows.TruthRenamesCardSaid :=
  Claim7.holds_tied_plain_at .later [] [.data, .data, .data] true Rows.truthRenamesCard.stood.harness Rows.truthRenamesCard.stood.looks
    row_holds (fun _ h => by cases h) (by kernel_rfl) (fun _ h => by cases h) truthRenames_row_tie rfl ⟨rfl, rfl⟩ (by kernel_rfl) rfl
    (fun f fn hf hfn => by
      obtain rfl : f = 6 := Option.some.inj ((show Tryd.prog.funcNamed "pneumatic/pneumaticlaw04.TruthRenames" = some 6 by kernel_rfl).symm.trans hf) |>.symm
      obtain rfl : fn = Tryd.f6 := (Option.some.inj (Tryd.func6.symm.trans hfn)).symm
      exact ⟨by kernel_rfl, fun j t ht => by
        rw [Tryd.params6] at ht
        have hm : t ∈ [24, 36] := by simpa using Array.mem_of_getElem? ht
        have hall : ([24, 36].all fun u => !Tryd.prog.wantsStandIn u) = true := by kernel_rfl
        exact (show Tryd.prog.wantsStandIn t = false by simpa using List.all_eq_true.1 hall t hm)⟩)
    (by kernel_rfl)

end TruthRenames
end Go.Proofs.YtmmcakeedejbnaaDoor
