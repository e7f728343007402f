/- Holds of package bounds: its closure, where it is false already. -/
import Derived.Test.YtkemicfaiipidaaBHa
import Derived.StillTailTactics
import Derived.BigRegion
namespace Go.Proofs.Ytkemicfaiipidaa
open Go.RowKit
set_option maxHeartbeats 4000000 in
set_option maxRecDepth 100000 in
theorem bHol1_a1 (i j g ab mb hb : Nat) (n : Int) (m : Bn.Mx) (v : Value) (l : List Int) (W : World) (hi : i < 13) (hj : j < 13) (hM : MtxI W g n m) (hm : BoxV W mb (.pointer (some ⟨g, 0, none⟩))) (hA : BoxV W ab v) (hL : BoxW W hb (.bool false)) (hS : SeeI W v l) (hil : i < l.length) (hjl : j < l.length) :
    Calls Try.prog 53 #[.int .i64 i, .int .i64 j, .pointer (some ⟨hb, 0, none⟩), .pointer (some ⟨mb, 0, none⟩), .pointer (some ⟨ab, 0, none⟩)] W fun e w' => e = .returned (.tuple #[]) ∧ W.grownBy w' (some hb) ∧ BoxW w' hb (.bool false) := by
  obtain ⟨ao, cap, rfl, hc1, hc2, hC⟩ := hS
  obtain ⟨b, off, rfl, hb0, c1⟩ := hC.at (Below.refl _ _) hil
  obtain ⟨b', off', he, -, c2⟩ := hC.at (Below.refl _ _) hjl
  simp only [Option.some.injEq, Addr.mk.injEq, and_true] at he
  obtain ⟨rfl, rfl⟩ := he
  obtain ⟨m0, m1, m2⟩ := hM
  obtain ⟨m3, m4⟩ := m2 i j hi hj
  have HLp := Lib.hid (fun u => hL.put u)
  generalize l.getD i 0 = x at *
  generalize l.getD j 0 = z at *
  generalize m i j = y at *
  obtain ⟨v0, v1⟩ := hm
  obtain ⟨a0, a1⟩ := hA
  obtain ⟨l0, l1, l2⟩ := hL
  have zi : (i : Int) < (l.length : Int) := by omega
  have zj : (j : Int) < (l.length : Int) := by omega
  have zi13 : (i : Int) < 13 := by omega
  have zj13 : (j : Int) < 13 := by omega
  clear hC m2
  generalize l.length = lr at *
  have fin : Hid (W.grownBy ((W.setCell ⟨hb, 0, none⟩ (.bool false)).drew) (some hb) ∧ BoxW ((W.setCell ⟨hb, 0, none⟩ (.bool false)).drew) hb (.bool false)) := Lib.hid ⟨grown_drew (grown_set (grown_refl _ _)), (HLp.out (.bool false)).step (Below.refl _ _).drew⟩
  go_enter Try.func53, Try.ntmps53
  go_wp2
  go_region
  go_end0
  exact ⟨rfl, fin.out⟩
end Go.Proofs.Ytkemicfaiipidaa

