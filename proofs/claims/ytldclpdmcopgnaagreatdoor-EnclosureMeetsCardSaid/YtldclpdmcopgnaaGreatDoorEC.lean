/- The contract of awake of the statements about enclosures. -/
import Derived.Test.YtldclpdmcopgnaaGreatDoorEB
namespace Go.Proofs.YtldclpdmcopgnaaGreatDoor
open Go.RowKit
set_option maxRecDepth 100000 in
set_option maxHeartbeats 8000000 in
theorem awake02_any (w : World) (hst : St w) : Calls Tryz.prog 13 #[] w fun e w' => e = .returned (.bool true) ∧ Below w.heap.size w w' := by
  go_enter Tryz.func13, Tryz.ntmps13
  have HB0 := Lib.hid (Below.refl w.heap.size w)
  go_wp2_with fail
  refine (of_any ⟨#[45, 50]⟩ ⟨#[51]⟩ _).mono ?_
  rintro e w1 ⟨rfl, hb⟩
  have HB0 := Lib.hid (below_nx HB0.out hb)
  clear hb
  go_wp2_with fail
  refine (of_any ⟨#[53]⟩ ⟨#[55]⟩ _).mono ?_
  rintro e w2 ⟨rfl, hb⟩
  have HB0 := Lib.hid (below_nx HB0.out hb)
  clear hb
  go_wp2_with fail
  have HX := Lib.hid (((Below.refl w2.heap.size w2).alloc (Nat.le_refl _) (.cells #[.string ⟨#[45, 50]⟩, .string ⟨#[51]⟩] 24)).alloc (by simp) (.cells #[.string ⟨#[53]⟩, .string ⟨#[55]⟩] 24))
  have HPQ := Lib.hid (pair_next w2 ⟨#[45, 50]⟩ ⟨#[51]⟩ ⟨#[53]⟩ ⟨#[55]⟩ 24 24)
  have PA := Lib.hid HPQ.out.1
  have PB := Lib.hid HPQ.out.2
  clear HPQ
  have HB0 := Lib.hid (below_nx HB0.out HX.out)
  clear HX
  refine (x_mul _ (hst.next HB0.out)).mono ?_
  rintro e w3 ⟨rfl, hb⟩
  have PA := Lib.hid (PA.out.below hb)
  have PB := Lib.hid (PB.out.below hb)
  have HB0 := Lib.hid (below_nx HB0.out hb)
  clear hb
  obtain ⟨-, a1, a2, -, -⟩ := PA.out
  obtain ⟨-, b1, b2, -, -⟩ := PB.out
  have za := PA.out.1
  have zb := PB.out.1
  go_wp2_with fail
  clear a1 a2 b1 b2 za zb
  have HX := Lib.hid ((Below.refl w3.heap.size w3).alloc (Nat.le_refl _) (.cells #[.string ⟨#[45, 49, 52]⟩, .string ⟨#[50, 49]⟩] 24))
  have PA := Lib.hid (PA.out.below HX.out)
  have PB := Lib.hid (PB.out.below HX.out)
  have PC := Lib.hid (pair_new w3 ⟨#[45, 49, 52]⟩ ⟨#[50, 49]⟩ 24)
  have HB0 := Lib.hid (below_nx HB0.out HX.out)
  clear HX
  refine (x_div _ (hst.next HB0.out)).mono ?_
  rintro e w4 ⟨rfl, hb⟩
  have PA := Lib.hid (PA.out.below hb)
  have PB := Lib.hid (PB.out.below hb)
  have PC := Lib.hid (PC.out.below hb)
  have HB0 := Lib.hid (below_nx HB0.out hb)
  clear hb
  obtain ⟨-, a1, a2, -, -⟩ := PA.out
  have za := PA.out.1
  go_wp2_with fail
  clear a1 a2 za
  have HX := Lib.hid ((Below.refl w4.heap.size w4).alloc (Nat.le_refl _) (.cells #[.string ⟨#[45, 50, 47, 53]⟩, .string ⟨#[51, 47, 53]⟩] 24))
  have PA := Lib.hid (PA.out.below HX.out)
  have PB := Lib.hid (PB.out.below HX.out)
  have PC := Lib.hid (PC.out.below HX.out)
  have PD := Lib.hid (pair_new w4 ⟨#[45, 50, 47, 53]⟩ ⟨#[51, 47, 53]⟩ 24)
  have HB0 := Lib.hid (below_nx HB0.out HX.out)
  clear HX
  refine (x_square _ (hst.next HB0.out)).mono ?_
  rintro e w5 ⟨rfl, hb⟩
  have PA := Lib.hid (PA.out.below hb)
  have PB := Lib.hid (PB.out.below hb)
  have PC := Lib.hid (PC.out.below hb)
  have PD := Lib.hid (PD.out.below hb)
  have HB0 := Lib.hid (below_nx HB0.out hb)
  clear hb
  go_wp2_with fail
  have HX := Lib.hid ((Below.refl w5.heap.size w5).alloc (Nat.le_refl _) (.cells #[.string ⟨#[48]⟩, .string ⟨#[57]⟩] 24))
  have PA := Lib.hid (PA.out.below HX.out)
  have PB := Lib.hid (PB.out.below HX.out)
  have PC := Lib.hid (PC.out.below HX.out)
  have PD := Lib.hid (PD.out.below HX.out)
  have PX := Lib.hid (pair_new w5 ⟨#[48]⟩ ⟨#[57]⟩ 24)
  have HB0 := Lib.hid (below_nx HB0.out HX.out)
  clear HX
  refine (of_any ⟨#[49, 47, 50]⟩ ⟨#[50, 47, 51]⟩ _).mono ?_
  rintro e w6 ⟨rfl, hb⟩
  have PC := Lib.hid (PC.out.below hb)
  have PD := Lib.hid (PD.out.below hb)
  have PX := Lib.hid (PX.out.below hb)
  have HB0 := Lib.hid (below_nx HB0.out hb)
  clear hb
  go_wp2_with fail
  refine (of_any ⟨#[51, 47, 52]⟩ ⟨#[49]⟩ _).mono ?_
  rintro e w7 ⟨rfl, hb⟩
  have PC := Lib.hid (PC.out.below hb)
  have PD := Lib.hid (PD.out.below hb)
  have PX := Lib.hid (PX.out.below hb)
  have HB0 := Lib.hid (below_nx HB0.out hb)
  clear hb
  go_wp2_with fail
  refine (x_less _ (hst.next HB0.out)).mono ?_
  rintro e w8 ⟨rfl, hb⟩
  have PC := Lib.hid (PC.out.below hb)
  have PD := Lib.hid (PD.out.below hb)
  have PX := Lib.hid (PX.out.below hb)
  have HB0 := Lib.hid (below_nx HB0.out hb)
  clear hb
  go_wp2_with fail
  refine (of_any ⟨#[49, 47, 50]⟩ ⟨#[50, 47, 51]⟩ _).mono ?_
  rintro e w9 ⟨rfl, hb⟩
  have PC := Lib.hid (PC.out.below hb)
  have PD := Lib.hid (PD.out.below hb)
  have PX := Lib.hid (PX.out.below hb)
  have HB0 := Lib.hid (below_nx HB0.out hb)
  clear hb
  go_wp2_with fail
  refine (of_any ⟨#[50, 47, 51]⟩ ⟨#[49]⟩ _).mono ?_
  rintro e w10 ⟨rfl, hb⟩
  have PC := Lib.hid (PC.out.below hb)
  have PD := Lib.hid (PD.out.below hb)
  have PX := Lib.hid (PX.out.below hb)
  have HB0 := Lib.hid (below_nx HB0.out hb)
  clear hb
  go_wp2_with fail
  refine (x_unsure _ (hst.next HB0.out)).mono ?_
  rintro e w11 ⟨rfl, hb⟩
  have PC := Lib.hid (PC.out.below hb)
  have PD := Lib.hid (PD.out.below hb)
  have PX := Lib.hid (PX.out.below hb)
  have HB0 := Lib.hid (below_nx HB0.out hb)
  clear hb
  go_wp2_with fail
  refine (of_any ⟨#[49, 47, 50]⟩ ⟨#[50, 47, 51]⟩ _).mono ?_
  rintro e w12 ⟨rfl, hb⟩
  have PC := Lib.hid (PC.out.below hb)
  have PD := Lib.hid (PD.out.below hb)
  have PX := Lib.hid (PX.out.below hb)
  have HB0 := Lib.hid (below_nx HB0.out hb)
  clear hb
  go_wp2_with fail
  refine (of_any ⟨#[50, 47, 51]⟩ ⟨#[49]⟩ _).mono ?_
  rintro e w13 ⟨rfl, hb⟩
  have PC := Lib.hid (PC.out.below hb)
  have PD := Lib.hid (PD.out.below hb)
  have PX := Lib.hid (PX.out.below hb)
  have HB0 := Lib.hid (below_nx HB0.out hb)
  clear hb
  go_wp2_with fail
  refine (x_meet _ (hst.next HB0.out)).mono ?_
  rintro e w14 ⟨rfl, hb⟩
  have PC := Lib.hid (PC.out.below hb)
  have PD := Lib.hid (PD.out.below hb)
  have PX := Lib.hid (PX.out.below hb)
  have HB0 := Lib.hid (below_nx HB0.out hb)
  clear hb
  go_wp2_with fail
  have HX := Lib.hid ((Below.refl w14.heap.size w14).alloc (Nat.le_refl _) (.cells #[.string ⟨#[50, 47, 51]⟩, .string ⟨#[50, 47, 51]⟩] 24))
  have PC := Lib.hid (PC.out.below HX.out)
  have PD := Lib.hid (PD.out.below HX.out)
  have PX := Lib.hid (PX.out.below HX.out)
  have PY := Lib.hid (pair_new w14 ⟨#[50, 47, 51]⟩ ⟨#[50, 47, 51]⟩ 24)
  have HB0 := Lib.hid (below_nx HB0.out HX.out)
  clear HX
  obtain ⟨X, hX⟩ : ∃ X, X = w14.alloc (.cells #[.string ⟨#[50, 47, 51]⟩, .string ⟨#[50, 47, 51]⟩] 24) := ⟨_, rfl⟩
  rw [← hX] at PC PD PX PY HB0 ⊢
  clear hX
  have HB := Lib.hid (below_nx HB0.out (Below.refl X.heap.size X).drew)
  clear HB0
  have PCd := Lib.hid (PC.out.below (Below.refl X.heap.size X).drew)
  clear PC
  have PC := PCd
  clear PCd
  obtain ⟨-, c1, c2, -, -⟩ := PC.out
  have PDd := Lib.hid (PD.out.below (Below.refl X.heap.size X).drew)
  clear PD
  have PD := PDd
  clear PDd
  obtain ⟨-, d1, d2, -, -⟩ := PD.out
  have PXd := Lib.hid (PX.out.below (Below.refl X.heap.size X).drew)
  clear PX
  have PX := PXd
  clear PXd
  obtain ⟨-, x1, x2, -, -⟩ := PX.out
  have PYd := Lib.hid (PY.out.below (Below.refl X.heap.size X).drew)
  clear PY
  have PY := PYd
  clear PYd
  obtain ⟨-, y1, y2, -, -⟩ := PY.out
  go_region_held3 (fun Y => Y.cell? ⟨w3.heap.size, 0, none⟩ = some (.string ⟨#[45, 49, 52]⟩) ∧ Y.cell? ⟨w3.heap.size, 1, none⟩ = some (.string ⟨#[50, 49]⟩) ∧ Y.cell? ⟨w4.heap.size, 0, none⟩ = some (.string ⟨#[45, 50, 47, 53]⟩) ∧ Y.cell? ⟨w4.heap.size, 1, none⟩ = some (.string ⟨#[51, 47, 53]⟩) ∧ Y.cell? ⟨w5.heap.size, 0, none⟩ = some (.string ⟨#[48]⟩) ∧ Y.cell? ⟨w5.heap.size, 1, none⟩ = some (.string ⟨#[57]⟩) ∧ Y.cell? ⟨w14.heap.size, 0, none⟩ = some (.string ⟨#[50, 47, 51]⟩) ∧ Y.cell? ⟨w14.heap.size, 1, none⟩ = some (.string ⟨#[50, 47, 51]⟩))
    (first | (refine ⟨?_, ?_, ?_, ?_, ?_, ?_, ?_, ?_⟩ <;> with_reducible assumption) | (go_split_ands; refine ⟨?_, ?_, ?_, ?_, ?_, ?_, ?_, ?_⟩ <;> with_reducible assumption) | go_keep)
    (first
      | (go_at_call 48; (with_reducible refine (of_any _ _ _).mono ?_); rintro e wn ⟨rfl, hb⟩; have PCq := Lib.hid (PC.out.below hb); have PDq := Lib.hid (PD.out.below hb); have PXq := Lib.hid (PX.out.below hb); have PYq := Lib.hid (PY.out.below hb); have HBq := Lib.hid (below_nx HB.out hb); clear PC PD PX PY HB hb c1 c2 d1 d2 x1 x2 y1 y2; have HB := HBq; have PC := PCq; have PD := PDq; have PX := PXq; have PY := PYq; clear HBq PCq PDq PXq PYq; obtain ⟨-, c1, c2, -, -⟩ := PC.out; obtain ⟨-, d1, d2, -, -⟩ := PD.out; obtain ⟨-, x1, x2, -, -⟩ := PX.out; obtain ⟨-, y1, y2, -, -⟩ := PY.out)
      | (go_at_call 50; (with_reducible refine (pi_any _).mono ?_); rintro e wn ⟨rfl, hb⟩; have PCq := Lib.hid (PC.out.below hb); have PDq := Lib.hid (PD.out.below hb); have PXq := Lib.hid (PX.out.below hb); have PYq := Lib.hid (PY.out.below hb); have HBq := Lib.hid (below_nx HB.out hb); clear PC PD PX PY HB hb c1 c2 d1 d2 x1 x2 y1 y2; have HB := HBq; have PC := PCq; have PD := PDq; have PX := PXq; have PY := PYq; clear HBq PCq PDq PXq PYq; obtain ⟨-, c1, c2, -, -⟩ := PC.out; obtain ⟨-, d1, d2, -, -⟩ := PD.out; obtain ⟨-, x1, x2, -, -⟩ := PX.out; obtain ⟨-, y1, y2, -, -⟩ := PY.out))
  all_goals (go_wp2; go_ret; exact ⟨rfl, HB.out⟩)
end Go.Proofs.YtldclpdmcopgnaaGreatDoor
