/- The contracts of the reference of enclosures: Check. -/
import Derived.Test.YtldclpdmcopgnaaGreatDoorEa
import Derived.Test.YtldclpdmcopgnaaGreatDoorRr
namespace Go.Proofs.YtldclpdmcopgnaaGreatDoor
open Go.RowKit

theorem rOrder_more {l h : ByteArray} (h3 : Fr.rat h.data.toList < Fr.rat l.data.toList) (hl : l.size ≤ 800) (hh : h.size ≤ 800) (h1 : Fr.chk l.data.toList = 0) (h2 : Fr.chk h.data.toList = 0) :
    ∃ c : Int, 0 < c ∧ ∀ W, Hid (Calls Tryz.prog 55 #[.string l, .string h] W fun e w' => e = .returned (.int .i64 c) ∧ Below W.heap.size W w') := by
  refine ⟨_, ?_, fun W => Lib.hid (rOrder_any l h W hl hh h1 h2)⟩
  unfold Fr.cmpQ
  rw [if_neg (by grind), if_neg (by grind)]
  decide
theorem rOrder_notMore {l h : ByteArray} (h3 : ¬ Fr.rat h.data.toList < Fr.rat l.data.toList) (hl : l.size ≤ 800) (hh : h.size ≤ 800) (h1 : Fr.chk l.data.toList = 0) (h2 : Fr.chk h.data.toList = 0) :
    ∃ c : Int, c ≤ 0 ∧ ∀ W, Hid (Calls Tryz.prog 55 #[.string l, .string h] W fun e w' => e = .returned (.int .i64 c) ∧ Below W.heap.size W w') := by
  refine ⟨_, ?_, fun W => Lib.hid (rOrder_any l h W hl hh h1 h2)⟩
  unfold Fr.cmpQ
  by_cases h4 : Fr.rat l.data.toList < Fr.rat h.data.toList
  · rw [if_pos h4]; decide
  · rw [if_neg h4, if_pos (by grind)]; decide

set_option maxRecDepth 100000 in
theorem rCheckE_any (l h : ByteArray) (w : World) (hl : l.size ≤ 800) (hh : h.size ≤ 800) :
    Calls Tryz.prog 21 #[.agg #[.string l, .string h]] w fun e w' => e = .returned (.int .i64 (Fr.chkE l.data.toList h.data.toList)) ∧ Below w.heap.size w w' := by
  have CL := fun W => Lib.hid (rCheck_any l W hl)
  have CH := fun W => Lib.hid (rCheck_any h W hh)
  have hB0 : Below w.heap.size w (w.alloc (.cells #[.string l, .string h] 24)) := (Below.refl _ _).alloc (Nat.le_refl _) _
  have HF := fun (W : World) (hW : Below (w.alloc (.cells #[.string l, .string h] 24)).heap.size (w.alloc (.cells #[.string l, .string h] 24)) W) =>
    Lib.hid (show W.cell? ⟨w.heap.size, 0, none⟩ = some (.string l) ∧ W.cell? ⟨w.heap.size, 1, none⟩ = some (.string h) from
      ⟨(hW.cell (p := ⟨w.heap.size, 0, none⟩) (by simp)).trans (by simp), (hW.cell (p := ⟨w.heap.size, 1, none⟩) (by simp)).trans (by simp)⟩)
  unfold Fr.chkE
  by_cases h1 : Fr.chk l.data.toList = 0
  · rw [if_neg (by simpa using h1)]
    rw [h1] at CL
    by_cases h2 : Fr.chk h.data.toList = 0
    · rw [if_neg (by simpa using h2)]
      rw [h2] at CH
      by_cases h3 : Fr.rat h.data.toList < Fr.rat l.data.toList
      · rw [if_pos h3]
        obtain ⟨c, hc, CI⟩ := rOrder_more h3 hl hh h1 h2
        clear h1 h2 h3
        go_enter Tryz.func21, Tryz.ntmps21
        go_wp2_with fail
        refine ((CL _).out).mono ?_
        rintro e w1 ⟨rfl, hb1⟩
        obtain ⟨f1, f2⟩ := (HF _ hb1).out
        have hB1 := hB0.trans (hb1.mono hB0.size)
        go_wp2_with fail
        refine ((CH _).out).mono ?_
        rintro e w2 ⟨rfl, hb2⟩
        have hb12 := hb1.trans (hb2.mono hb1.size)
        obtain ⟨g1, g2⟩ := (HF _ hb12).out
        have hB2 := hB1.trans (hb2.mono hB1.size)
        go_wp2_with fail
        refine ((CI _).out).mono ?_
        rintro e w3 ⟨rfl, hb3⟩
        go_wp2
        go_ret
        exact ⟨rfl, hB2.trans (hb3.mono hB2.size)⟩
      · rw [if_neg h3]
        obtain ⟨c, hc, CI⟩ := rOrder_notMore h3 hl hh h1 h2
        clear h1 h2 h3
        go_enter Tryz.func21, Tryz.ntmps21
        go_wp2_with fail
        refine ((CL _).out).mono ?_
        rintro e w1 ⟨rfl, hb1⟩
        obtain ⟨f1, f2⟩ := (HF _ hb1).out
        have hB1 := hB0.trans (hb1.mono hB0.size)
        go_wp2_with fail
        refine ((CH _).out).mono ?_
        rintro e w2 ⟨rfl, hb2⟩
        have hb12 := hb1.trans (hb2.mono hb1.size)
        obtain ⟨g1, g2⟩ := (HF _ hb12).out
        have hB2 := hB1.trans (hb2.mono hB1.size)
        go_wp2_with fail
        refine ((CI _).out).mono ?_
        rintro e w3 ⟨rfl, hb3⟩
        go_wp2
        go_ret
        exact ⟨rfl, hB2.trans (hb3.mono hB2.size)⟩
    · rw [if_pos h2]
      have hne : (Fr.chk h.data.toList != 0) = true := by simpa using h2
      clear h1 h2
      generalize Fr.chk h.data.toList = c at *
      go_enter Tryz.func21, Tryz.ntmps21
      go_wp2_with fail
      refine ((CL _).out).mono ?_
      rintro e w1 ⟨rfl, hb1⟩
      obtain ⟨f1, f2⟩ := (HF _ hb1).out
      have hB1 := hB0.trans (hb1.mono hB0.size)
      go_wp2_with fail
      refine ((CH _).out).mono ?_
      rintro e w2 ⟨rfl, hb2⟩
      go_wp2
      go_ret
      exact ⟨rfl, hB1.trans (hb2.mono hB1.size)⟩
  · rw [if_pos h1]
    have hne : (Fr.chk l.data.toList != 0) = true := by simpa using h1
    clear h1 CH
    generalize Fr.chk l.data.toList = c at *
    go_enter Tryz.func21, Tryz.ntmps21
    go_wp2_with fail
    refine ((CL _).out).mono ?_
    rintro e w1 ⟨rfl, hb1⟩
    go_wp2
    go_ret
    exact ⟨rfl, hB0.trans (hb1.mono hB0.size)⟩

end Go.Proofs.YtldclpdmcopgnaaGreatDoor

