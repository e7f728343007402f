/- The contract of the statement FractionChecks. -/
import Derived.Test.YtfphnoihkcnleaaGreatDoorRv
namespace Go.Proofs.YtfphnoihkcnleaaGreatDoor
open Go.RowKit

theorem lawChecks_few (s : ByteArray) (w : World) (hst : St w) (hs : s.size ≤ 9223372036854775807) (h : ¬ s.size ≤ 180) :
    Calls Tryz.prog 3 #[.string s] w fun e w' => e = .returned (.bool true) ∧ Below w.heap.size w w' := by
  have CF := Lib.hid (rFew_no s w hs h)
  have CA := Lib.hid (awake_any w hst)
  clear h hst
  go_enter Tryz.func3, Tryz.ntmps3
  go_wp2_with (first
    | (go_at_call 11; refine (CF.out).mono ?_; rintro e w' ⟨rfl, rfl⟩)
    | (go_at_call 12; refine (CA.out).mono ?_; rintro e w1 ⟨rfl, hb1⟩))
  go_ret
  exact ⟨rfl, hb1⟩

set_option maxRecDepth 100000 in
set_option maxHeartbeats 1000000 in
theorem lawChecks_any (s : ByteArray) (w : World) (hst : St w) (hse : StE w) (hs : s.size ≤ 9223372036854775807) :
    Calls Tryz.prog 3 #[.string s] w fun e w' => e = .returned (.bool true) ∧ Below w.heap.size w w' := by
  by_cases h : s.size ≤ 180
  · have h8 := hst.size
    have CF := Lib.hid (rFew_yes s w h)
    have C1 := Lib.hid (fParts_any s w hst (by omega))
    have C2 := fun W => Lib.hid (rParts_any s W (by omega))
    have C3 := fun W (hW : Below w.heap.size w W) => Lib.hid (fSign_any s W (hst.next hW) (by omega))
    have C4 := fun W => Lib.hid (rSign_any s W (by omega))
    have C5 := fun W (hW : Below w.heap.size w W) => Lib.hid (fSmall_any s W (hst.next hW) (hse.below hW h8) (by omega))
    have C6 := fun W => Lib.hid (rSmall_any s W (by omega))
    have C7 := fun W (hW : Below w.heap.size w W) => Lib.hid (fCheck_any s W (hst.next hW) (by omega))
    have C8 := fun W => Lib.hid (rCheck_any s W (by omega))
    have CA := fun W (hW : Below w.heap.size w W) => Lib.hid (awake_any W (hst.next hW))
    clear h hst hse h8
    generalize (if Fr.chk s.data.toList = 0 then Fr.sgnQ (Fr.rat s.data.toList) else 0) = g at *
    generalize Fr.chk s.data.toList = c at *
    generalize Fr.smallV s.data.toList = o at *
    generalize partsV s = p at *
    obtain ⟨o1, o2⟩ := o
    obtain ⟨p1, p2⟩ := p
    simp only [] at C1 C2 C5 C6
    go_enter Tryz.func3, Tryz.ntmps3
    go_wp2_with (go_at_call 11; refine (CF.out).mono ?_; rintro e w' ⟨rfl, rfl⟩)
    refine (C1.out).mono ?_
    rintro e w1 ⟨rfl, hb1⟩
    go_wp2_with fail
    refine ((C2 _).out).mono ?_
    rintro e w2 ⟨rfl, hb2⟩
    have hB2 := hb1.trans (hb2.mono hb1.size)
    clear hb1 hb2
    go_wp2_with fail
    refine ((C3 _ hB2).out).mono ?_
    rintro e w3 ⟨rfl, hb3⟩
    have hB3 := hB2.trans (hb3.mono hB2.size)
    clear hB2 hb3
    go_wp2_with fail
    refine ((C4 _).out).mono ?_
    rintro e w4 ⟨rfl, hb4⟩
    have hB4 := hB3.trans (hb4.mono hB3.size)
    clear hB3 hb4
    go_wp2_with fail
    refine ((C5 _ hB4).out).mono ?_
    rintro e w5 ⟨rfl, hb5⟩
    have hB5 := hB4.trans (hb5.mono hB4.size)
    clear hB4 hb5
    go_wp2_with fail
    refine ((C6 _).out).mono ?_
    rintro e w6 ⟨rfl, hb6⟩
    have hB6 := hB5.trans (hb6.mono hB5.size)
    clear hB5 hb6
    go_wp2_with fail
    refine ((CA _ hB6).out).mono ?_
    rintro e w7 ⟨rfl, hb7⟩
    have hB7 := hB6.trans (hb7.mono hB6.size)
    clear hB6 hb7
    go_wp2_with fail
    refine ((C7 _ hB7).out).mono ?_
    rintro e w8 ⟨rfl, hb8⟩
    have hB8 := hB7.trans (hb8.mono hB7.size)
    clear hB7 hb8
    go_wp2_with fail
    refine ((C8 _).out).mono ?_
    rintro e w9 ⟨rfl, hb9⟩
    go_wp2
    go_ret
    exact ⟨rfl, hB8.trans (hb9.mono hB8.size)⟩
  · exact lawChecks_few s w hst hs h

end Go.Proofs.YtfphnoihkcnleaaGreatDoor
