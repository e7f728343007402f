/- The contracts of the reference's functions on ints, and of its Make. -/
import Derived.Test.YtfphnoihkcnleaaDoorRr
import Derived.Test.YtfphnoihkcnleaaDoorPn
namespace Go.Proofs.YtfphnoihkcnleaaDoor
open Go.RowKit

theorem long_fin {s : List Nat} {k : Nat} (hs : Limb.small 1000000 s) (hl : s.length = k) (h : k = 0 ∨ 0 < 0 ∨ 0 < s.getD (k - 1) 0) : Limb.norm 1000000 s := by
  refine ⟨hs, fun hp => ?_⟩
  rcases h with h | h | h
  · omega
  · omega
  · rw [hl]; exact h
theorem long_grow {s : List Nat} {k m N : Nat} (hl : s.length = k) (h : Limb.val 1000000 s + 1000000 ^ k * m = N) : Limb.val 1000000 (s ++ [m % 1000000]) + 1000000 ^ (k + 1) * (m / 1000000) = N := by
  rw [Limb.val_append, hl, Limb.val_cons, Limb.val_nil, Nat.mul_zero, Nat.add_zero, ← h, Nat.pow_succ, Nat.mul_assoc, Nat.add_assoc, ← Nat.mul_add, Nat.mod_add_div]
theorem long_last (s : List Nat) (k x : Nat) (hl : s.length = k) : (s ++ [x]).getD k 0 = x := by
  rw [List.getD_eq_getElem?_getD, List.getElem?_append_right (by omega), hl]; simp
theorem long_few {k m N v : Nat} (hm : 0 < m) (hN : N ≤ 9223372036854775807) (h : v + 1000000 ^ k * m = N) : k ≤ 3 := by
  rcases Nat.lt_or_ge k 4 with h1 | h1
  · omega
  · exfalso
    have h2 : 1000000 ^ 4 ≤ 1000000 ^ k := Nat.pow_le_pow_right (by omega) h1
    have h3 : 1000000 ^ k * 1 ≤ 1000000 ^ k * m := Nat.mul_le_mul_left _ hm
    have h4 : (1000000 : Nat) ^ 4 = 1000000000000000000000000 := by decide
    omega

theorem itxt_neg {n : Int} {m : Nat} (h : n < 0) (hm : n = -((m : Int) + 1)) : (ByteArray.mk #[45]) ++ renB (m + 1) = ⟨(Fr.itxt n).toArray⟩ := by
  rw [Fr.itxt_eq, if_pos h, show n.natAbs = m + 1 by omega]
  apply ByteArray.ext
  rw [ByteArray.data_append]
  simp [renB]
theorem itxt_pos {n : Int} {m : Nat} (hm : n = (m : Int)) : renB m = ⟨(Fr.itxt n).toArray⟩ := by
  rw [Fr.itxt_eq, if_neg (by omega), show n.natAbs = m by omega]
  rfl

end Go.Proofs.YtfphnoihkcnleaaDoor

