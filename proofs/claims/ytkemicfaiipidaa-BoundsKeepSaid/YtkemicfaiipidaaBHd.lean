/- Holds of package bounds: its closure, where it holds. -/
import Derived.Test.YtkemicfaiipidaaBHa
import Derived.StillTailTactics
import Derived.BigRegion
namespace Go.Proofs.Ytkemicfaiipidaa
open Go.RowKit
set_option maxHeartbeats 4000000 in
set_option maxRecDepth 100000 in
theorem bHol1_a3 (i j g ab mb hb : Nat) (n : Int) (m : Bn.Mx) (v : Value) (l : List Int) (W : World) (hi : i < 13) (hj : j < 13) (hM : MtxI W g n m) (hm : BoxV W mb (.pointer (some ⟨g, 0, none⟩))) (hA : BoxV W ab v) (hL : BoxW W hb (.bool true)) (hS : SeeI W v l) (hil : i < l.length) (hjl : j < l.length) (hy : m i j ≠ -1099511627776) (hx1 : -64000000 ≤ l.getD i 0) (hx2 : l.getD i 0 ≤ 64000000) (hz1 : -64000000 ≤ l.getD j 0) (hz2 : l.getD j 0 ≤ 64000000) (hxy : l.getD j 0 - l.getD i 0 ≤ m i j) :
    Calls Try.prog 53 #[.int .i64 i, .int .i64 j, .pointer (some ⟨hb, 0, none⟩), .pointer (some ⟨mb, 0, none⟩), .pointer (some ⟨ab, 0, none⟩)] W fun e w' => e = .returned (.tuple #[]) ∧ W.grownBy w' (some hb) ∧ BoxW w' hb (.bool true) := by
  obtain ⟨ao, cap, rfl, hc1, hc2, hC⟩ := hS
  obtain ⟨b, off, rfl, hb0, c1⟩ := hC.at (Below.refl _ _) hil
  obtain ⟨b', off', he, -, c2⟩ := hC.at (Below.refl _ _) hjl
  simp only [Option.some.injEq, Addr.mk.injEq, and_true] at he
  obtain ⟨rfl, rfl⟩ := he
  obtain ⟨m0, m1, m2⟩ := hM
  obtain ⟨m3, m4⟩ := m2 i j hi hj
  have HLp := Lib.hid (fun u => hL.put u)
  generalize l.getD i 0 = x at *
  generalize l.getD j 0 = z at *
  generalize m i j = y at *
  obtain ⟨v0, v1⟩ := hm
  obtain ⟨a0, a1⟩ := hA
  obtain ⟨l0, l1, l2⟩ := hL
  have zi : (i : Int) < (l.length : Int) := by omega
  have zj : (j : Int) < (l.length : Int) := by omega
  have zi13 : (i : Int) < 13 := by omega
  have zj13 : (j : Int) < 13 := by omega
  clear hC m2
  generalize l.length = lr at *
  have fin : Hid (W.grownBy ((W.setCell ⟨hb, 0, none⟩ (.bool true)).drew) (some hb) ∧ BoxW ((W.setCell ⟨hb, 0, none⟩ (.bool true)).drew) hb (.bool true)) := Lib.hid ⟨grown_drew (grown_set (grown_refl _ _)), (HLp.out (.bool true)).step (Below.refl _ _).drew⟩
  have hy' : (y == -1099511627776) = false := by simpa using hy
  have hd : decide (z - x ≤ y) = true := by simpa using hxy
  go_enter Try.func53, Try.ntmps53
  go_wp2
  refine wp_region_still_tail 32 (by kernel_rfl) (by kernel_rfl) ?_
  simp only [List.take_succ_cons, List.take_zero, List.drop_succ_cons, List.drop_zero]
  repeat still_step
  change wpList _ _ _ _ _ W.drew
  go_wp2
  go_end0
  rw [hd]
  exact ⟨rfl, fin.out⟩
end Go.Proofs.Ytkemicfaiipidaa

