/- Leq of package bounds: its closure, where there is no bound. -/
import Derived.Test.YtkemicfaiipidaaBMa
import Derived.StillTailTactics
import Derived.BigRegion
namespace Go.Proofs.Ytkemicfaiipidaa
open Go.RowKit
set_option maxHeartbeats 4000000 in
set_option maxRecDepth 100000 in
theorem bLeq1_a2 (i j g bb mb lb : Nat) (n k : Int) (m : Bn.Mx) (v : Value) (S : List (List Int)) (W : World) (hi : i < 13) (hj : j < 13) (hM : MtxI W g n m) (hB : BoxB W bb k v) (hm : BoxV W mb (.pointer (some ⟨g, 0, none⟩))) (hL : BoxW W lb (.bool true)) (hS : SeesR W v S) (hil : i < S.length) (hjl : j < (S.getD i []).length) (hx : Bn.mx S i j = -1099511627776) :
    Calls Try.prog 60 #[.int .i64 i, .int .i64 j, .pointer (some ⟨lb, 0, none⟩), .pointer (some ⟨bb, 0, none⟩), .pointer (some ⟨mb, 0, none⟩)] W fun e w' => e = .returned (.tuple #[]) ∧ W.grownBy w' (some lb) ∧ BoxW w' lb (.bool true) := by
  obtain ⟨b, off, cap, d, o2, cr, rfl, hb, c1, hd, c2⟩ := hS.get (Below.refl _ _) hil hjl
  obtain ⟨m0, m1, m2⟩ := hM
  obtain ⟨m3, m4⟩ := m2 i j hi hj
  have HLp := Lib.hid (fun u => hL.put u)
  generalize Bn.mx S i j = x at *
  generalize m i j = y at *
  obtain ⟨b0, b1, b2⟩ := hB
  obtain ⟨v0, v1⟩ := hm
  obtain ⟨l0, l1, l2⟩ := hL
  have zi : (i : Int) < (S.length : Int) := by omega
  have zj : (j : Int) < ((S.getD i []).length : Int) := by omega
  have zi13 : (i : Int) < 13 := by omega
  have zj13 : (j : Int) < 13 := by omega
  clear hS m2
  generalize (S.getD i []).length = lr at *
  have fin : Hid (W.grownBy ((W.setCell ⟨lb, 0, none⟩ (.bool true)).drew) (some lb) ∧ BoxW ((W.setCell ⟨lb, 0, none⟩ (.bool true)).drew) lb (.bool true)) := Lib.hid ⟨grown_drew (grown_set (grown_refl _ _)), (HLp.out (.bool true)).step (Below.refl _ _).drew⟩
  subst hx
  go_enter Try.func60, Try.ntmps60
  go_wp2
  go_region
  go_end0
  exact ⟨rfl, fin.out⟩
end Go.Proofs.Ytkemicfaiipidaa

