/- The contracts of the statements FractionCounts and FractionMakes. -/
import Derived.Test.YtfphnoihkcnleaaGreatDoorRt
namespace Go.Proofs.YtfphnoihkcnleaaGreatDoor
open Go.RowKit

set_option maxRecDepth 100000 in
theorem lawCounts_any (a b : Int) (w : World) (hst : St w) (a0 : -9223372036854775808 ≤ a) (a1 : a ≤ 9223372036854775807) (b0 : -9223372036854775808 ≤ b) (b1 : b ≤ 9223372036854775807) :
    Calls Tryz.prog 4 #[.int .i64 a, .int .i64 b] w fun e w' => e = .returned (.bool true) ∧ Below w.heap.size w w' := by
  have C1 := Lib.hid (fOf_any a b w hst ⟨a0, by omega⟩ ⟨b0, by omega⟩)
  have C2 := fun W => Lib.hid (rOf_any a b W ⟨a0, by omega⟩ ⟨b0, by omega⟩)
  have C3 := fun W (hW : Below w.heap.size w W) => Lib.hid (fWhole_any a W (hst.next hW) a0 a1)
  have C4 := fun W => Lib.hid (rWhole_any a W a0 a1)
  have CA := fun W (hW : Below w.heap.size w W) => Lib.hid (awake_any W (hst.next hW))
  unfold OutPost at C1 C2
  clear hst
  generalize ofV a b = o at *
  generalize (⟨(Fr.itxt a).toArray⟩ : ByteArray) = t at *
  clear a0 a1 b0 b1
  obtain ⟨l, x⟩ := o
  simp only [] at C1 C2
  generalize (⟨l.toArray⟩ : ByteArray) = s at *
  go_enter Tryz.func4, Tryz.ntmps4
  go_wp2_with fail
  refine (C1.out).mono ?_
  rintro e w1 ⟨rfl, hb1⟩
  go_wp2_with fail
  refine ((C2 _).out).mono ?_
  rintro e w2 ⟨rfl, hb2⟩
  have hB2 := hb1.trans (hb2.mono hb1.size)
  go_wp2_with fail
  refine ((CA _ hB2).out).mono ?_
  rintro e w3 ⟨rfl, hb3⟩
  have hB3 := hB2.trans (hb3.mono hB2.size)
  go_wp2_with fail
  refine ((C3 _ hB3).out).mono ?_
  rintro e w4 ⟨rfl, hb4⟩
  have hB4 := hB3.trans (hb4.mono hB3.size)
  go_wp2_with fail
  refine ((C4 _).out).mono ?_
  rintro e w5 ⟨rfl, hb5⟩
  go_wp2
  go_ret
  exact ⟨rfl, hB4.trans (hb5.mono hB4.size)⟩


end Go.Proofs.YtfphnoihkcnleaaGreatDoor
