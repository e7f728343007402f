/- The contracts of the reference of tables: With, Fixed, Xor, Not, And, Or. -/
import Derived.Test.YtahjdmdgkkienaaGreatDoorUk
namespace Tt
theorem not_mk {n b : Nat} (hn : n ≤ 6) (hb : b < 2 ^ 2 ^ n) : mk n (fun k => !b.testBit k) = full n &&& (18446744073709551615 - b) := by
  have h64 := w64 hn hb
  refine same (mk_lt n _) ?_ fun k hk => ?_
  · have h1 := Nat.and_le_left (n := full n) (m := 18446744073709551615 - b)
    have h2 : 0 < 2 ^ 2 ^ n := Nat.pow_pos (by omega)
    have h3 : full n < 2 ^ 2 ^ n := by unfold full; omega
    omega
  · have hs := size_le hn
    rw [mk_bit, Nat.testBit_and, show (18446744073709551615 : Nat) - b = 2 ^ 64 - (b + 1) by omega, Nat.testBit_two_pow_sub_succ (by omega)]
    unfold full
    rw [Nat.testBit_two_pow_sub_one]
    simp [hk, show k < 64 by omega]
theorem xor_mk {n b c : Nat} (hb : b < 2 ^ 2 ^ n) (hc : c < 2 ^ 2 ^ n) : mk n (fun k => b.testBit k != c.testBit k) = b ^^^ c := by
  refine same (mk_lt n _) (Nat.xor_lt_two_pow hb hc) fun k hk => ?_
  rw [mk_bit, Nat.testBit_xor]
  simp [hk]
end Tt
namespace Go.Proofs.YtahjdmdgkkienaaGreatDoor
open Go.RowKit
theorem below_next {B : Nat} {w w1 w2 : World} (h : Below B w w1) (hb : Below w1.heap.size w1 w2) (hB : B ≤ w1.heap.size) : Below B w w2 := h.trans (hb.mono hB)
theorem sixb {i : Nat} (h : i < 6) : i = 0 ∨ i = 1 ∨ i = 2 ∨ i = 3 ∨ i = 4 ∨ i = 5 := by omega
end Go.Proofs.YtahjdmdgkkienaaGreatDoor

