/- The contract of awake of the statements about fractions: the examples of the chapter. -/
import Derived.Test.YtfphnoihkcnleaaGreatDoorPn
namespace Go.Proofs.YtfphnoihkcnleaaGreatDoor
open Go.RowKit

def exA : ByteArray := ⟨#[51, 47, 50, 48]⟩
def exB : ByteArray := ⟨#[50, 47, 49, 53]⟩
def exC : ByteArray := ⟨#[45, 49, 49, 47, 52]⟩

theorem awake_add : bi exA.data.toList exB.data.toList (Fr.out (Fr.rat exA.data.toList + Fr.rat exB.data.toList)) = ([49, 55, 47, 54, 48], 0) := by decide +kernel
theorem awake_sub : bi exA.data.toList exB.data.toList (Fr.out (Fr.rat exA.data.toList - Fr.rat exB.data.toList)) = ([49, 47, 54, 48], 0) := by decide +kernel
theorem awake_mul : bi exA.data.toList exB.data.toList (Fr.out (Fr.rat exA.data.toList * Fr.rat exB.data.toList)) = ([49, 47, 53, 48], 0) := by decide +kernel
theorem awake_div : bi exA.data.toList exB.data.toList (divV (Fr.rat exA.data.toList) (Fr.rat exB.data.toList)) = ([57, 47, 56], 0) := by decide +kernel
theorem awake_floor : un exC.data.toList (Fr.out (((Fr.rat exC.data.toList).floor : Int) : Rat)) = ([45, 51], 0) := by decide +kernel
theorem awake_ceil : un exC.data.toList (Fr.out (-(((-(Fr.rat exC.data.toList)).floor : Int) : Rat))) = ([45, 50], 0) := by decide +kernel
theorem awake_of : ofV 26 (-10) = ([45, 49, 51, 47, 53], 0) := by decide +kernel
theorem awake_chk1 : Fr.chk (ByteArray.mk #[49, 50, 47, 56]).data.toList = 3 := by decide +kernel
theorem awake_chk2 : Fr.chk (ByteArray.mk #[52, 47, 49]).data.toList = 3 := by decide +kernel
theorem awake_whole : Fr.itxt (-7) = [45, 55] := by decide +kernel

set_option maxRecDepth 100000 in
set_option maxHeartbeats 1000000 in
theorem awake_any (w : World) (hst : St w) :
    Calls Tryz.prog 12 #[] w fun e w' => e = .returned (.bool true) ∧ Below w.heap.size w w' := by
  have C1 := fun W (hW : Below w.heap.size w W) => Lib.hid (fAdd_any exA exB W (hst.next hW) (by decide) (by decide))
  have C2 := fun W (hW : Below w.heap.size w W) => Lib.hid (fSub_any exA exB W (hst.next hW) (by decide) (by decide))
  have C3 := fun W (hW : Below w.heap.size w W) => Lib.hid (fMul_any exA exB W (hst.next hW) (by decide) (by decide))
  have C4 := fun W (hW : Below w.heap.size w W) => Lib.hid (fDiv_any exA exB W (hst.next hW) (by decide) (by decide))
  have C5 := fun W (hW : Below w.heap.size w W) => Lib.hid (fFloor_any exC W (hst.next hW) (by decide))
  have C6 := fun W (hW : Below w.heap.size w W) => Lib.hid (fCeil_any exC W (hst.next hW) (by decide))
  have C7 := fun W (hW : Below w.heap.size w W) => Lib.hid (fOf_any 26 (-10) W (hst.next hW) (by decide) (by decide))
  have C8 := fun W (hW : Below w.heap.size w W) => Lib.hid (fCheck_any ⟨#[49, 50, 47, 56]⟩ W (hst.next hW) (by decide))
  have C9 := fun W (hW : Below w.heap.size w W) => Lib.hid (fCheck_any ⟨#[52, 47, 49]⟩ W (hst.next hW) (by decide))
  have C10 := fun W (hW : Below w.heap.size w W) => Lib.hid (fWhole_any (-7) W (hst.next hW) (by decide) (by decide))
  rw [awake_add] at C1
  rw [awake_sub] at C2
  rw [awake_mul] at C3
  rw [awake_div] at C4
  rw [awake_floor] at C5
  rw [awake_ceil] at C6
  rw [awake_of] at C7
  rw [awake_chk1] at C8
  rw [awake_chk2] at C9
  rw [awake_whole] at C10
  unfold exA exB at C1 C2 C3 C4
  unfold exC at C5 C6
  clear hst
  go_enter Tryz.func12, Tryz.ntmps12
  go_wp2_with fail
  refine ((C1 _ (Below.refl _ _)).out).mono ?_
  rintro e w1 ⟨rfl, hb1⟩
  go_wp2_with fail
  refine ((C2 _ hb1).out).mono ?_
  rintro e w2 ⟨rfl, hb2⟩
  have hB2 := hb1.trans (hb2.mono hb1.size)
  go_wp2_with fail
  refine ((C3 _ hB2).out).mono ?_
  rintro e w3 ⟨rfl, hb3⟩
  have hB3 := hB2.trans (hb3.mono hB2.size)
  go_wp2_with fail
  refine ((C4 _ hB3).out).mono ?_
  rintro e w4 ⟨rfl, hb4⟩
  have hB4 := hB3.trans (hb4.mono hB3.size)
  go_wp2_with fail
  refine ((C5 _ hB4).out).mono ?_
  rintro e w5 ⟨rfl, hb5⟩
  have hB5 := hB4.trans (hb5.mono hB4.size)
  go_wp2_with fail
  refine ((C6 _ hB5).out).mono ?_
  rintro e w6 ⟨rfl, hb6⟩
  have hB6 := hB5.trans (hb6.mono hB5.size)
  go_wp2_with fail
  refine ((C7 _ hB6).out).mono ?_
  rintro e w7 ⟨rfl, hb7⟩
  have hB7 := hB6.trans (hb7.mono hB6.size)
  go_wp2_with fail
  refine ((C8 _ hB7).out).mono ?_
  rintro e w8 ⟨rfl, hb8⟩
  have hB8 := hB7.trans (hb8.mono hB7.size)
  go_wp2_with fail
  refine ((C9 _ hB8).out).mono ?_
  rintro e w9 ⟨rfl, hb9⟩
  have hB9 := hB8.trans (hb9.mono hB8.size)
  go_wp2_with fail
  refine ((C10 _ hB9).out).mono ?_
  rintro e w10 ⟨rfl, hb10⟩
  have hB10 := hB9.trans (hb10.mono hB9.size)
  go_wp2
  go_ret
  exact ⟨rfl, hB10⟩

end Go.Proofs.YtfphnoihkcnleaaGreatDoor
