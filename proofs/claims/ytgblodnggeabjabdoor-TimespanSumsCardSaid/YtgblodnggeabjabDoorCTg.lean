/- The statement TimespanSums: for every list of spans the call of it returns true, and the list reads behind the call as before. Nothing is assumed but what the card itself lists. -/
import Derived.Test.YtgblodnggeabjabDoorTy
import Derived.Test.YtgblodnggeabjabDoorTOpen
import Derived.Deep.SlicePairs
import Derived.Carry
namespace Go.Proofs.YtgblodnggeabjabDoor
open Go.ChangeShapes Go.WideShapes Go.ChangeAt Go.RowKit
open Go.ChangeMaps (open_string shut_string)

namespace TimespanSums
noncomputable def laidW (os : Os) : World := World.laidAll Tryd.prog os Rows.timespanSumsRow.laid
theorem laid_met (os : Os) (args : Array Value) : laidMet Tryd.prog Rows.timespanSumsRow.laid ((laidW os).forCall (fun _ _ => 0) ⟨#[], args, []⟩).memory :=
  laidMet_laidAll args (by kernel_rfl) (by kernel_rfl)

theorem laidOut : laidOutB Tryd.prog = true := by kernel_rfl
theorem witness_row (os : Os) {H : Type} (enc : TypeId × Value → H) :
    (OpenSpec.ofChange Rows.timespanSumsSpec).preRow enc Tryd.prog Tryd.f6 Rows.timespanSumsRow.domain false Rows.timespanSumsRow.laid ((laidW os).forCall (fun _ _ => 0) ⟨#[], #[.slice none 0 0], []⟩).memory #[.slice none 0 0] := by
  have hw : (DataW.whole enc Tryd.prog ((laidW os).forCall (fun _ _ => 0) ⟨#[], #[.slice none 0 0], []⟩).memory Tryd.f6.params.toList (OpenSpec.ofChange Rows.timespanSumsSpec).vars false #[Value.slice none 0 0].toList 8).map (fun x => (x.1, x.2.1)) =
      some ([.nil], []) := by kernel_rfl
  obtain ⟨⟨x1, x2, x3⟩, hx, hx1⟩ := Option.map_eq_some_iff.1 hw
  simp only [Prod.mk.injEq] at hx1
  obtain ⟨rfl, rfl⟩ := hx1
  exact OpenSpec.preRow_of_cond 8 hx (by kernel_rfl) (fun k hk => by cases hk) (by kernel_rfl) (laid_met os _)

set_option maxRecDepth 100000 in
theorem lifted (os : Os) (started : os.Started) (H : Type) (enc : TypeId × Value → H) (F : Stop.Interp) :
    ReturnsInHanded {} Tryd.checked os 6 .any ((OpenSpec.ofChange Rows.timespanSumsSpec).preRow enc Tryd.prog Tryd.f6 Rows.timespanSumsRow.domain false Rows.timespanSumsRow.laid)
      (((OpenSpec.ofChange Rows.timespanSumsSpec).at F).post enc Tryd.prog Tryd.f6 false true false false) := by
  refine returnsInHanded_of_row (C := Tryd.checked) (s := OpenSpec.ofChange Rows.timespanSumsSpec) ownKey started (by kernel_rfl) Tryd.func6
    (witness_row_atRef (enc := enc) (C := Tryd.checked) false (laidW os) #[.slice none 0 0] (World.laidAll_os _ _ _) (by kernel_rfl) (by kernel_rfl) (by kernel_rfl) (witness_row os enc)) ?_
  intro W base args ds gs before hval0 hW _ _ _ hL hsh _
  have hval : ∀ (j : Nat) t v, Tryd.f6.params[j]? = some t → args[j]? = some v → Value.okWide Tryd.prog W .any base t v := hval0
  have hW' := hW
  obtain ⟨p, q, hA0, hV0, rfl, _, _⟩ := hW
  have hA : DataW.TrodAll enc Tryd.prog W 0 (fun _ => true) true Tryd.f6.params.toList args.toList ds p := hA0
  rw [Tryd.params6] at hA hval
  obtain ⟨v0, d0, rfl, rfl, h0⟩ := trodAll_one hA
  obtain ⟨rfl, rfl⟩ := trodVars_none hV0
  obtain ⟨a0, len, cap, rfl⟩ := okWide_slice Tryd.underlying50 (hval 0 50 v0 rfl rfl)
  have h0k := h0
  obtain ⟨fuel, hf⟩ := h0
  clear hA0 hV0 hval0
  simp only [List.append_nil] at hW'
  have hlt : ∀ x ∈ p, x.block < W.heap.size := fun x hx => by simpa using hW'.lt x hx
  have hL' : laidMet Tryd.prog Rows.timespanSumsRow.laid W := by rw [← MakeChecks.laidMetH_plain _ _ _ (by kernel_rfl)]; exact hL
  have hst : St W := st_of hsh hL'
  have fin : ∀ W', Below W.heap.size W W' → ((OpenSpec.ofChange Rows.timespanSumsSpec).at F).post enc Tryd.prog Tryd.f6 false true false false W #[.slice a0 len cap] (.bool true) W' := by
    intro W' bel
    have e1 : ((OpenSpec.ofChange Rows.timespanSumsSpec).at F).fn H ([d0] ++ []) = { results := [.lit (.bool true)], args := [d0] } := rfl
    refine ⟨_, _, _, [], p, [], hW', ?_, ?_, ?_, bel.frame _, fun h => by cases h⟩
    · rw [e1]; exact trodAll_mk1 (shut_bool Tryd.underlying4 _)
    · rw [e1]; exact trodAll_mk1 (Below.trod laidOut (by kernel_rfl) (of_decide_eq_true (by kernel_rfl)) h0k bel hlt)
    · rw [e1]; rfl
  rcases Deep.open_slice_pairs Tryd.underlying50 Tryd.underlying23 (by kernel_rfl) rfl rfl (by kernel_rfl) (by kernel_rfl) hf with ⟨hcs, hx⟩ | ⟨a, len', cap', m, n, V0, V1, D0, D1, P0, P1, hcs, _, hl, hm, hmm, hx, hcell⟩
  · simp [Value.cells] at hcs
    obtain ⟨rfl, rfl, rfl⟩ := hcs
    refine (lawSums_any [] none 0 W hst (fun h => by simp at h) (by simp)).mono ?_
    rintro e W' ⟨rfl, bel⟩
    exact ⟨_, rfl, fin W' bel⟩
  · simp [Value.cells] at hcs
    obtain ⟨rfl, rfl, rfl⟩ := hcs
    simp only [if_true] at hmm
    subst hmm
    simp only [Prod.mk.injEq] at hx
    have hp := hx.2
    unfold maxLen at hm
    obtain ⟨X, hX⟩ := Deep.choose_lt (p := fun i (z : Int) => V0 i = .int .i64 z) (n := m) (fun i hi => by
      obtain ⟨z, h1, _⟩ := DataW.trod_int Tryd.underlying3 (hcell i hi).2.2.1
      exact ⟨z, by simpa using h1⟩)
    obtain ⟨Y, hY⟩ := Deep.choose_lt (p := fun i (z : Int) => V1 i = .int .i64 z) (n := m) (fun i hi => by
      obtain ⟨z, h1, _⟩ := DataW.trod_int Tryd.underlying3 (hcell i hi).2.2.2
      exact ⟨z, by simpa using h1⟩)
    have hlen : ((List.range len).map fun i => (X i, Y i)).length = len := by simp
    have hlaw := lawSums_any ((List.range len).map fun i => (X i, Y i)) (some a) m W hst (fun hp0 => by
      rw [hlen] at hp0
      obtain ⟨b, off, spot⟩ := a
      have hspot : spot = none := by simpa [Addr.add] using World.cell?_spot (hcell 0 (by omega)).1
      subst hspot
      have hbW : b < W.heap.size := hlt (.cell b off) (by rw [hp]; exact List.mem_append_left _ (MemPlace.mem_row.2 ⟨0, by omega, by simp⟩))
      refine ⟨b, off, rfl, hbW, fun i hi => ?_⟩
      rw [hlen] at hi
      have h1 := (hcell i (by omega)).1
      have h2 := (hcell i (by omega)).2.1
      rw [add_plain] at h1 h2
      have e : ((List.range len).map fun i => (X i, Y i)).getD i (0, 0) = (X i, Y i) := by simp [hi]
      rw [e, ← hX i (by omega), ← hY i (by omega)]
      exact ⟨h1, by rw [Nat.add_assoc]; exact h2⟩) (by rw [hlen]; omega)
    rw [hlen] at hlaw
    refine hlaw.mono ?_
    rintro e W' ⟨rfl, bel⟩
    exact ⟨_, rfl, fin W' bel⟩

theorem row_holds : Rows.TimespanSumsSaid :=
  OpenClaim.holds_of_cond 6 Tryd.f6 rfl rfl rfl rfl rfl rfl rfl ⟨rfl, rfl, rfl, rfl, rfl⟩ rfl rfl rfl rfl rfl (by kernel_rfl) Tryd.func6 (by kernel_rfl)
    (of_decide_eq_true (by kernel_rfl)) (by unfold Func.isWrapper; first | (rw [if_pos (by decide +kernel)]; kernel_rfl) | (rw [if_neg (by decide +kernel)]; exact ⟨rfl, rfl⟩))
    (fun os started H enc _ F0 => by rw [OpenClaim.pre_eq_preRow]; exact lifted os started H enc F0)

/-- The statement TimespanSums: for every list of spans the call of it returns true, and the list reads behind the call as before. -/
theorem card_holds : Rows.TimespanSumsCardSaid :=
  Claim7.holds_tied_plain_at .later [] [.data, .data, .data] true Rows.timespanSumsCard.stood.harness Rows.timespanSumsCard.stood.looks
    row_holds (fun _ h => by cases h) (by kernel_rfl) (fun _ h => by cases h) timespanSums_row_tie rfl ⟨rfl, rfl⟩ (by kernel_rfl) rfl
    (fun f fn hf hfn => by
      obtain rfl : f = 6 := Option.some.inj ((show Tryd.prog.funcNamed "pneumatic/pneumaticlaw03.TimespanSums" = some 6 by kernel_rfl).symm.trans hf) |>.symm
      obtain rfl : fn = Tryd.f6 := (Option.some.inj (Tryd.func6.symm.trans hfn)).symm
      exact ⟨by kernel_rfl, fun j t ht => by
        rw [Tryd.params6] at ht
        have hm : t ∈ [50] := by simpa using Array.mem_of_getElem? ht
        have hall : ([50].all fun u => !Tryd.prog.wantsStandIn u) = true := by kernel_rfl
        exact (show Tryd.prog.wantsStandIn t = false by simpa using List.all_eq_true.1 hall t hm)⟩)
    (by kernel_rfl)

end TimespanSums
end Go.Proofs.YtgblodnggeabjabDoor
