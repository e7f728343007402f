/- The call of TruthReturns, for the numbers that a card hands in; six bytes opened and shut. -/
import Derived.Test.YtmmcakeedejbnaaDoorVr
import Derived.ChangeSame
import Derived.OpenShut
namespace Go.ChangeShapes
variable {H : Type} {enc : TypeId × Value → H} {P : Program} {w : World} {base : Nat} {spare : Nat → Bool} {held : Bool}
theorem list6 {α : Type} {l : List α} (h : l.length = 6) : ∃ c0 c1 c2 c3 c4 c5, l = [c0, c1, c2, c3, c4, c5] := by
  match l, h with
  | [c0, c1, c2, c3, c4, c5], _ => exact ⟨c0, c1, c2, c3, c4, c5, rfl⟩
theorem array6 {α : Type} {cs : Array α} (h : cs.size = 6) : ∃ c0 c1 c2 c3 c4 c5, cs = #[c0, c1, c2, c3, c4, c5] := by
  obtain ⟨l⟩ := cs
  obtain ⟨c0, c1, c2, c3, c4, c5, rfl⟩ := list6 (l := l) h
  exact ⟨c0, c1, c2, c3, c4, c5, rfl⟩
theorem open_six {t e : TypeId} {k : IntKind} {fuel : Nat} {c0 c1 c2 c3 c4 c5 : Value} {x : DataW H × List MemPlace} (ht : P.underlying t = some (.array 6 e)) (he : P.underlying e = some (.int k)) (hce : P.cellsOf e = 1)
    (h : DataW.trod enc P w base spare held fuel t [c0, c1, c2, c3, c4, c5] = some x) :
    ∃ z0 z1 z2 z3 z4 z5 : Int, c0 = .int k z0 ∧ c1 = .int k z1 ∧ c2 = .int k z2 ∧ c3 = .int k z3 ∧ c4 = .int k z4 ∧ c5 = .int k z5 ∧
      (Lit.int k z0).wf = true ∧ (Lit.int k z1).wf = true ∧ (Lit.int k z2).wf = true ∧ (Lit.int k z3).wf = true ∧ (Lit.int k z4).wf = true ∧ (Lit.int k z5).wf = true ∧
      x = (.agg [.lit (.int k z0), .lit (.int k z1), .lit (.int k z2), .lit (.int k z3), .lit (.int k z4), .lit (.int k z5)], []) := by
  obtain ⟨xs, m, rfl, rfl, _, hl, hx⟩ := DataW.trod_array ht h
  obtain ⟨y0, y1, y2, y3, y4, y5, rfl⟩ := list6 hl
  have g0 := hx 0 (by omega)
  have g1 := hx 1 (by omega)
  have g2 := hx 2 (by omega)
  have g3 := hx 3 (by omega)
  have g4 := hx 4 (by omega)
  have g5 := hx 5 (by omega)
  simp [hce] at g0 g1 g2 g3 g4 g5
  obtain ⟨z0, f0, rfl, w0⟩ := DataW.trod_int he g0
  obtain ⟨z1, f1, rfl, w1⟩ := DataW.trod_int he g1
  obtain ⟨z2, f2, rfl, w2⟩ := DataW.trod_int he g2
  obtain ⟨z3, f3, rfl, w3⟩ := DataW.trod_int he g3
  obtain ⟨z4, f4, rfl, w4⟩ := DataW.trod_int he g4
  obtain ⟨z5, f5, rfl, w5⟩ := DataW.trod_int he g5
  simp only [List.cons.injEq, and_true] at f0 f1 f2 f3 f4 f5
  exact ⟨z0, z1, z2, z3, z4, z5, f0, f1, f2, f3, f4, f5, w0, w1, w2, w3, w4, w5, rfl⟩
theorem wf_u8 {x : Int} (h : (Lit.int .u8 x).wf = true) : 0 ≤ x ∧ x ≤ 255 := by
  simp [Lit.wf] at h
  have e1 : IntKind.u8.min = 0 := by decide
  have e2 : IntKind.u8.max = 255 := by decide
  (try rw [e1] at h)
  (try rw [e2] at h)
  exact h
end Go.ChangeShapes
namespace Go.Proofs.YtmmcakeedejbnaaDoor
open Go.RowKit
theorem lawReturns_card (n y z0 z1 z2 z3 z4 z5 : Int) (W : World) (hst : St W) (hy : 0 ≤ y ∧ y ≤ 18446744073709551615) (h0 : 0 ≤ z0 ∧ z0 ≤ 255) (h1 : 0 ≤ z1 ∧ z1 ≤ 255) (h2 : 0 ≤ z2 ∧ z2 ≤ 255) (h3 : 0 ≤ z3 ∧ z3 ≤ 255) (h4 : 0 ≤ z4 ∧ z4 ≤ 255) (h5 : 0 ≤ z5 ∧ z5 ≤ 255) :
    Calls Tryd.prog 10 #[.agg #[.int .i64 n, .int .u64 y], .agg #[.int .u8 z0, .int .u8 z1, .int .u8 z2, .int .u8 z3, .int .u8 z4, .int .u8 z5]] W fun e w' => e = .returned (.bool true) ∧ Below W.heap.size W w' := by
  obtain ⟨b, rfl⟩ := Int.eq_ofNat_of_zero_le hy.1
  obtain ⟨o0, rfl⟩ := Int.eq_ofNat_of_zero_le h0.1
  obtain ⟨o1, rfl⟩ := Int.eq_ofNat_of_zero_le h1.1
  obtain ⟨o2, rfl⟩ := Int.eq_ofNat_of_zero_le h2.1
  obtain ⟨o3, rfl⟩ := Int.eq_ofNat_of_zero_le h3.1
  obtain ⟨o4, rfl⟩ := Int.eq_ofNat_of_zero_le h4.1
  obtain ⟨o5, rfl⟩ := Int.eq_ofNat_of_zero_le h5.1
  refine lawReturns_any n b o0 o1 o2 o3 o4 o5 W hst (by omega) (fun i hi => ?_)
  rcases sixb hi with rfl | rfl | rfl | rfl | rfl | rfl <;> simp <;> omega
end Go.Proofs.YtmmcakeedejbnaaDoor
