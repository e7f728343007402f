/- The statement PartPasses. -/
import Derived.Test.YtnoaafhgapaicaaDoorGY
namespace Go.Proofs.YtnoaafhgapaicaaDoor
open Go.RowKit
set_option maxHeartbeats 8000000 in
set_option maxRecDepth 100000 in
theorem passes_card (k p : Int) (w : World) (hst : Lx w) (_ : -9223372036854775808 ≤ k) (_ : k ≤ 9223372036854775807) (_ : -9223372036854775808 ≤ p) (_ : p ≤ 9223372036854775807) :
    Calls Tryd.prog 5 #[.int .i64 k, .int .i64 p] w fun e w' => e = .returned (.bool true) ∧ Below w.heap.size w w' := by
  have HX := Lib.hid hst
  have C1 := fun W => Lib.hid (pPasses_any k p W)
  have C2 := fun W => Lib.hid (rPasses_any k p W)
  have C3 := fun W => Lib.hid (pVents_any k p W)
  have C4 := fun W => Lib.hid (rVents_any k p W)
  have CA := fun W (h : Lx W) => Lib.hid (awake20_any W h)
  generalize Pt.inE k p = z at *
  generalize Pt.pasAll k p = o at *
  generalize Pt.venAll k p = l at *
  clear hst
  go_enter Tryd.func5, Tryd.ntmps5
  go_wp2_with fail
  refine (C1 w).out.mono ?_
  rintro e w1 ⟨v1, rfl, h1, hb1⟩
  have HB1 := Lib.hid hb1
  have S1 := Lib.hid h1
  clear hb1 h1 C1
  go_wp2_with fail
  refine (C2 w1).out.mono ?_
  rintro e w2 ⟨v2, rfl, h2, hb2⟩
  have HB2 := Lib.hid (below_nxt HB1.out hb2)
  have S12 := Lib.hid (S1.out.step hb2)
  have S2 := Lib.hid h2
  clear hb2 h2 C2 HB1 S1
  go_wp2_with fail
  refine (C3 w2).out.mono ?_
  rintro e w3 ⟨v3, rfl, h3, hb3⟩
  have HB3 := Lib.hid (below_nxt HB2.out hb3)
  have S13 := Lib.hid (S12.out.step hb3)
  have S23 := Lib.hid (S2.out.step hb3)
  have S3 := Lib.hid h3
  clear hb3 h3 C3 HB2 S12 S2
  go_wp2_with fail
  refine (C4 w3).out.mono ?_
  rintro e w4 ⟨v4, rfl, h4, hb4⟩
  have HB4 := Lib.hid (below_nxt HB3.out hb4)
  have S14 := Lib.hid (S13.out.step hb4)
  have S24 := Lib.hid (S23.out.step hb4)
  have S34 := Lib.hid (S3.out.step hb4)
  have S4 := Lib.hid h4
  clear hb4 h4 C4 HB3 S13 S23 S3
  go_wp2_with fail
  refine (CA _ (HX.out.next HB4.out)).out.mono ?_
  rintro e w5 ⟨rfl, hb5⟩
  have HB5 := Lib.hid (below_nxt HB4.out hb5)
  have S15 := Lib.hid (S14.out.step hb5)
  have S25 := Lib.hid (S24.out.step hb5)
  have S35 := Lib.hid (S34.out.step hb5)
  have S45 := Lib.hid (S4.out.step hb5)
  clear hb5 CA HB4 S14 S24 S34 S4
  go_wp2_with fail
  refine (own_any v1 o w5 S15.out).mono ?_
  rintro e w6 ⟨o6, rfl, hq6, hb6⟩
  have HB6 := Lib.hid (below_nxt HB5.out hb6)
  have S16 := Lib.hid hq6
  have S26 := Lib.hid (S25.out.step hb6)
  have S36 := Lib.hid (S35.out.step hb6)
  have S46 := Lib.hid (S45.out.step hb6)
  clear hb6 hq6 HB5 S15 S25 S35 S45
  go_wp2_with fail
  refine (same_yes o6 v2 o w6 S16.out S26.out).mono ?_
  rintro e w7 ⟨rfl, hb7⟩
  have HB7 := Lib.hid (below_nxt HB6.out hb7)
  have S37 := Lib.hid (S36.out.step hb7)
  have S47 := Lib.hid (S46.out.step hb7)
  clear hb7 HB6 S16 S26 S36 S46
  go_wp2_with fail
  refine (eqS_any v3 v4 l l w7 S37.out S47.out rfl).mono ?_
  rintro e w8 ⟨rfl, hb8⟩
  have HB8 := Lib.hid (below_nxt HB7.out hb8)
  clear hb8 HB7 S37 S47
  go_wp2
  go_ret
  exact ⟨rfl, HB8.out⟩
end Go.Proofs.YtnoaafhgapaicaaDoor
