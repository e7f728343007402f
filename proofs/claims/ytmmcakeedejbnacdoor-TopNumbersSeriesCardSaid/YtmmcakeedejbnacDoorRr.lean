/- The contracts of the reference's functions on fractions: Order, Compare, Add, Sub, Mul, Div, Turned, Neg. The contracts of the reference's functions on fractions: Turned, Neg, Floor, Ceil. The contracts of the reference's Ceil, and of the statements FractionRounds and FractionComputes. -/
import Derived.Test.YtmmcakeedejbnacDoorRo
import Derived.Test.YtmmcakeedejbnacDoorPn
namespace Go.Proofs.YtmmcakeedejbnacDoor
open Go.RowKit

theorem RQ.form {w : World} {x : Value} {q : Rat} {p : Nat} (h : RQ w x q p) : ∃ b ua ul uc va vl vc, x = .agg #[.bool b, .slice ua ul uc, .slice va vl vc] := by
  obtain ⟨b, m, n, h1, _⟩ := h
  obtain ⟨ua, ul, uc, va, vl, vc, rfl⟩ := h1.form
  exact ⟨b, ua, ul, uc, va, vl, vc, rfl⟩

end Go.Proofs.YtmmcakeedejbnacDoor

namespace Fr
open Limb
theorem fits_neg {q : Rat} (h : fits q = true) : fits (-q) = true := by
  unfold fits at h ⊢
  show (decide ((-q.num).natAbs < 10 ^ 60) && decide (q.den < 10 ^ 60)) = true
  rw [Int.natAbs_neg]
  exact h
theorem floor_less (q : Rat) : q.floor.natAbs ≤ q.num.natAbs := by
  have h1 := num_floor (decide (q.num < 0)) q.num.natAbs q.den q.den_pos
  have h2 : num (decide (q.num < 0)) q.num.natAbs q.den = q := by
    unfold num
    have : sg (decide (q.num < 0)) q.num.natAbs = q.num := by
      unfold sg
      by_cases hz : q.num < 0
      · rw [if_pos (by simpa using hz)]; omega
      · rw [if_neg (by simpa using hz)]; omega
    rw [this, Rat.mkRat_self]
  rw [h2] at h1
  rw [h1, sg_natAbs]
  have hd := q.den_pos
  generalize q.num.natAbs = m at *
  generalize q.den = n at *
  split
  · rename_i hc
    have h3 := Nat.div_add_mod m n
    have h4 := Nat.mod_lt m hd
    have h5 : 1 * (m / n) ≤ n * (m / n) := Nat.mul_le_mul_right _ hd
    omega
  · exact Nat.div_le_self _ _
theorem fits_floor {q : Rat} (h : fits q = true) : fits ((q.floor : Int) : Rat) = true := by
  unfold fits at h ⊢
  simp only [Bool.and_eq_true, decide_eq_true_eq] at h ⊢
  refine ⟨Nat.lt_of_le_of_lt (floor_less q) h.1, ?_⟩
  show 1 < 10 ^ 60
  exact Nat.one_lt_pow (by omega) (by omega)
end Fr
namespace Go.Proofs.YtmmcakeedejbnacDoor
open Go.RowKit

end Go.Proofs.YtmmcakeedejbnacDoor

namespace Go.Proofs.YtmmcakeedejbnacDoor
open Go.RowKit

end Go.Proofs.YtmmcakeedejbnacDoor

