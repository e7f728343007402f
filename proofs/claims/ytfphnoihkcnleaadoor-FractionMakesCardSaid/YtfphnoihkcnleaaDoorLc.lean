/- The contracts of the statements FractionCounts and FractionMakes. -/
import Derived.Test.YtfphnoihkcnleaaDoorRt
namespace Go.Proofs.YtfphnoihkcnleaaDoor
open Go.RowKit


theorem lawMakes_few (s t : ByteArray) (w : World) (hst : St w) (hs : s.size ≤ 9223372036854775807) (ht : t.size ≤ 9223372036854775807) (h : ¬ s.size ≤ 180 ∨ (s.size ≤ 180 ∧ ¬ t.size ≤ 180)) :
    Calls Tryd.prog 3 #[.string s, .string t] w fun e w' => e = .returned (.bool true) ∧ Below w.heap.size w w' := by
  have CA := Lib.hid (awake_any w hst)
  rcases h with h | ⟨h, h'⟩
  · have CF := Lib.hid (rFew_no s w hs h)
    clear h hst
    go_enter Tryd.func3, Tryd.ntmps3
    go_wp2_with (first
      | (go_at_call 4; (with_reducible refine (CF.out).mono ?_); rintro e w' ⟨rfl, rfl⟩)
      | (go_at_call 5; refine (CA.out).mono ?_; rintro e w1 ⟨rfl, hb1⟩))
    go_ret
    exact ⟨rfl, hb1⟩
  · have CF := Lib.hid (rFew_yes s w h)
    have CG := Lib.hid (rFew_no t w ht h')
    clear h h' hst
    go_enter Tryd.func3, Tryd.ntmps3
    go_wp2_with (first
      | (go_at_call 4; (with_reducible refine (CF.out).mono ?_); rintro e w' ⟨rfl, rfl⟩)
      | (go_at_call 4; (with_reducible refine (CG.out).mono ?_); rintro e w' ⟨rfl, rfl⟩)
      | (go_at_call 5; refine (CA.out).mono ?_; rintro e w1 ⟨rfl, hb1⟩))
    go_ret
    exact ⟨rfl, hb1⟩
set_option maxRecDepth 100000 in
theorem lawMakes_any (s t : ByteArray) (w : World) (hst : St w) (hs : s.size ≤ 9223372036854775807) (ht : t.size ≤ 9223372036854775807) :
    Calls Tryd.prog 3 #[.string s, .string t] w fun e w' => e = .returned (.bool true) ∧ Below w.heap.size w w' := by
  by_cases h : s.size ≤ 180
  · by_cases h' : t.size ≤ 180
    · have CF := Lib.hid (rFew_yes s w h)
      have CG := Lib.hid (rFew_yes t w h')
      have C1 := Lib.hid (fMake_any s t w (by omega) (by omega))
      have C2 := fun W => Lib.hid (rMake_any s t W (by omega) (by omega))
      have CA := fun W (hW : Below w.heap.size w W) => Lib.hid (awake_any W (hst.next hW))
      unfold OutPost at C1 C2
      clear h h' hst
      generalize mkV s.data.toList t.data.toList = o at *
      obtain ⟨l, x⟩ := o
      simp only [] at C1 C2
      generalize (⟨l.toArray⟩ : ByteArray) = r at *
      go_enter Tryd.func3, Tryd.ntmps3
      go_wp2_with (first
        | (go_at_call 4; (with_reducible refine (CF.out).mono ?_); rintro e w' ⟨rfl, rfl⟩)
        | (go_at_call 4; (with_reducible refine (CG.out).mono ?_); rintro e w' ⟨rfl, rfl⟩))
      refine (C1.out).mono ?_
      rintro e w1 ⟨rfl, hb1⟩
      go_wp2_with fail
      refine ((C2 _).out).mono ?_
      rintro e w2 ⟨rfl, hb2⟩
      have hB2 := hb1.trans (hb2.mono hb1.size)
      go_wp2_with fail
      refine ((CA _ hB2).out).mono ?_
      rintro e w3 ⟨rfl, hb3⟩
      go_wp2
      go_ret
      exact ⟨rfl, hB2.trans (hb3.mono hB2.size)⟩
    · exact lawMakes_few s t w hst hs ht (.inr ⟨h, h'⟩)
  · exact lawMakes_few s t w hst hs ht (.inl h)

end Go.Proofs.YtfphnoihkcnleaaDoor

