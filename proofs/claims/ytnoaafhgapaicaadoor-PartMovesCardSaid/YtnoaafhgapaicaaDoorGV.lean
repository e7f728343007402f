/- The statement PartMoves. -/
import Derived.Test.YtnoaafhgapaicaaDoorGU
import Derived.Test.YtnoaafhgapaicaaDoorGN
namespace Go.Proofs.YtnoaafhgapaicaaDoor
open Go.RowKit
set_option maxHeartbeats 8000000 in
set_option maxRecDepth 100000 in
theorem moves_card (k p : Int) (x y : Bool) (w : World) (hst : Lx w) (_ : -9223372036854775808 ≤ k) (_ : k ≤ 9223372036854775807) (_ : -9223372036854775808 ≤ p) (_ : p ≤ 9223372036854775807) :
    Calls Tryd.prog 6 #[.int .i64 k, .int .i64 p, .agg #[.bool x, .bool y]] w fun e w' => e = .returned (.bool true) ∧ Below w.heap.size w w' := by
  have HX := Lib.hid hst
  have C1 := fun W => Lib.hid (pPilots_any k W)
  have C2 := fun W => Lib.hid (rPilots_any k W)
  have C3 := fun W => Lib.hid (pNext_any k p x y W)
  have C4 := fun W => Lib.hid (rNext_any k p x y W)
  have CA := fun W (h : Lx W) => Lib.hid (awake20_any W h)
  generalize Pt.pilV k = z at *
  generalize Pt.nxtV k p x y = n at *
  obtain ⟨z1, z2, z3⟩ := z
  obtain ⟨n1, n2, n3⟩ := n
  obtain ⟨B0, L0⟩ := boxBB_new w x y 60
  have HB0 := Lib.hid L0
  have HP0 := Lib.hid B0
  obtain ⟨P0, P1, P2⟩ := B0
  clear L0 hst
  go_enter Tryd.func6, Tryd.ntmps6
  go_wp2_with fail
  clear P0 P1 P2
  refine (C1 _).out.mono ?_
  rintro e w1 ⟨rfl, hb1⟩
  have HB1 := Lib.hid (below_nxt HB0.out hb1)
  have HP1 := Lib.hid (HP0.out.step hb1)
  clear hb1 HB0 HP0 C1
  go_wp2_with fail
  refine (C2 _).out.mono ?_
  rintro e w2 ⟨rfl, rfl⟩
  clear C2
  obtain ⟨P0, P1, P2⟩ := HP1.out
  go_wp2_with fail
  clear P0 P1 P2
  refine (C3 _).out.mono ?_
  rintro e w3 ⟨rfl, hb3⟩
  have HB3 := Lib.hid (below_nxt HB1.out hb3)
  have HP3 := Lib.hid (HP1.out.step hb3)
  clear hb3 HB1 HP1 C3
  obtain ⟨P0, P1, P2⟩ := HP3.out
  go_wp2_with fail
  clear P0 P1 P2
  refine (C4 _).out.mono ?_
  rintro e w4 ⟨rfl, hb4⟩
  have HB4 := Lib.hid (below_nxt HB3.out hb4)
  clear hb4 HB3 HP3 C4
  go_wp2_with fail
  refine (CA _ (HX.out.next HB4.out)).out.mono ?_
  rintro e w5 ⟨rfl, hb5⟩
  have HB5 := Lib.hid (below_nxt HB4.out hb5)
  clear hb5 CA
  go_wp2
  go_ret
  exact ⟨rfl, HB5.out⟩
end Go.Proofs.YtnoaafhgapaicaaDoor
