/- The contracts of the reference's functions on numbers: num, turned, upside, product. -/
import Derived.Test.YtmmcakeedejbnacDoorRk
namespace Go.Proofs.YtmmcakeedejbnacDoor
open Go.RowKit

/-- A struct value of the reference is a quotient with a sign. -/
def RNum (w : World) (x : Value) (b : Bool) (m n p : Nat) : Prop := ∃ u v, x = .agg #[.bool b, u, v] ∧ IsNat .i64 1000000 w u m p ∧ IsNat .i64 1000000 w v n p
theorem RNum.below {w w' : World} {x : Value} {b : Bool} {m n p : Nat} (h : RNum w x b m n p) {C : Nat} (hb : Below C w w') (hC : w.heap.size ≤ C) : RNum w' x b m n p := by
  obtain ⟨u, v, h1, h2, h3⟩ := h
  exact ⟨u, v, h1, h2.below hb hC, h3.below hb hC⟩
theorem RNum.form {w : World} {x : Value} {b : Bool} {m n p : Nat} (h : RNum w x b m n p) : ∃ ua ul uc va vl vc, x = .agg #[.bool b, .slice ua ul uc, .slice va vl vc] := by
  obtain ⟨u, v, rfl, hu, hv⟩ := h
  obtain ⟨ua, ul, uc, rfl⟩ := hu.form
  obtain ⟨va, vl, vc, rfl⟩ := hv.form
  exact ⟨ua, ul, uc, va, vl, vc, rfl⟩
def RNumPost (w : World) (b : Bool) (m n p : Nat) (e : Ending) (w' : World) : Prop := ∃ x, e = .returned x ∧ Below w.heap.size w w' ∧ RNum w' x b m n p
/-- A struct value of the reference is a rational number. -/
def RQ (w : World) (x : Value) (q : Rat) (p : Nat) : Prop := ∃ b m n, RNum w x b m n p ∧ 0 < n ∧ Fr.num b m n = q
theorem RQ.below {w w' : World} {x : Value} {q : Rat} {p : Nat} (h : RQ w x q p) {C : Nat} (hb : Below C w w') (hC : w.heap.size ≤ C) : RQ w' x q p := by
  obtain ⟨b, m, n, h1, h2⟩ := h
  exact ⟨b, m, n, h1.below hb hC, h2⟩
def RQPost (w : World) (q : Rat) (p : Nat) (e : Ending) (w' : World) : Prop := ∃ x, e = .returned x ∧ Below w.heap.size w w' ∧ RQ w' x q p

theorem first_is {a : ByteArray} {b : Bool} (hp : 0 < a.size) (h : Fr.isNeg a.data.toList = b) : (((a[0]'hp).toNat : Int) == 45) = b := by
  rcases first_neg hp with ⟨f1, f2⟩ | ⟨f1, f2⟩
  · rw [h] at f2; rw [f2, beq_iff_eq]; exact f1
  · rw [h] at f2; rw [f2, beq_eq_false_iff_ne]; exact f1

end Go.Proofs.YtmmcakeedejbnacDoor

