/- The statement EnclosureChecks. -/
import Derived.Test.YtldclpdmcopgnaaGreatDoorEC
namespace Go.Proofs.YtldclpdmcopgnaaGreatDoor
open Go.RowKit
set_option maxRecDepth 100000 in
theorem fewE_yes (l h : ByteArray) (w : World) (hl : l.size ≤ 180) (hh : h.size ≤ 180) : Calls Tryz.prog 11 #[.agg #[.string l, .string h]] w fun e w' => e = .returned (.bool true) ∧ Below w.heap.size w w' := by
  have hB := (Below.refl w.heap.size w).alloc (Nat.le_refl _) (.cells #[.string l, .string h] 24)
  go_enter Tryz.func11, Tryz.ntmps11
  go_wp2_with fail
  refine (rFew_yes l _ hl).mono ?_
  rintro e w1 ⟨rfl, rfl⟩
  go_wp2_with fail
  refine (rFew_yes h _ hh).mono ?_
  rintro e w1 ⟨rfl, rfl⟩
  go_wp2
  go_ret
  exact ⟨rfl, hB⟩
set_option maxRecDepth 100000 in
theorem fewE_no (l h : ByteArray) (w : World) (sl : l.size ≤ 9223372036854775807) (sh : h.size ≤ 9223372036854775807) (hn : ¬ (l.size ≤ 180 ∧ h.size ≤ 180)) : Calls Tryz.prog 11 #[.agg #[.string l, .string h]] w fun e w' => e = .returned (.bool false) ∧ Below w.heap.size w w' := by
  have hB := (Below.refl w.heap.size w).alloc (Nat.le_refl _) (.cells #[.string l, .string h] 24)
  by_cases hl : l.size ≤ 180
  · have C1 := fun W => Lib.hid (rFew_yes l W hl)
    have C2 := fun W => Lib.hid (rFew_no h W sh (fun hh => hn ⟨hl, hh⟩))
    clear hn hl sl sh
    go_enter Tryz.func11, Tryz.ntmps11
    go_wp2_with fail
    refine ((C1 _).out).mono ?_
    rintro e w1 ⟨rfl, rfl⟩
    go_wp2_with fail
    refine ((C2 _).out).mono ?_
    rintro e w1 ⟨rfl, rfl⟩
    go_wp2
    go_ret
    exact ⟨rfl, hB⟩
  · have C1 := fun W => Lib.hid (rFew_no l W sl hl)
    clear hn hl sl sh
    go_enter Tryz.func11, Tryz.ntmps11
    go_wp2_with fail
    refine ((C1 _).out).mono ?_
    rintro e w1 ⟨rfl, rfl⟩
    go_wp2
    go_ret
    exact ⟨rfl, hB⟩
set_option maxRecDepth 100000 in
set_option maxHeartbeats 8000000 in
theorem checks_any (l h x : ByteArray) (w : World) (hst : St w) (sl : l.size ≤ 9223372036854775807) (sh : h.size ≤ 9223372036854775807) (sx : x.size ≤ 9223372036854775807) :
    Calls Tryz.prog 3 #[.agg #[.string l, .string h], .string x] w fun e w' => e = .returned (.bool true) ∧ Below w.heap.size w w' := by
  have CA := fun W (hW : Below w.heap.size w W) => Lib.hid (awake02_any W (hst.next hW))
  have HB0 := Lib.hid ((Below.refl w.heap.size w).alloc (Nat.le_refl _) (.cells #[.string l, .string h] 24))
  have P0 := Lib.hid (pair_new w l h 24)
  by_cases hf : l.size ≤ 180 ∧ h.size ≤ 180
  · have CF := fun W => Lib.hid (fewE_yes l h W hf.1 hf.2)
    by_cases hx : x.size ≤ 180
    · have CX := fun W => Lib.hid (rFew_yes x W hx)
      have C1 := fun W (hW : Below w.heap.size w W) => Lib.hid (eOf_any l h W (hst.next hW) (by omega) (by omega))
      have C2 := fun W => Lib.hid (rOfE_any l h W (by omega) (by omega))
      have C3 := fun W (hW : Below w.heap.size w W) => Lib.hid (ePoint_any x W (hst.next hW) (by omega))
      have C4 := fun W => Lib.hid (rPointE_any x W (by omega))
      have C5 := fun W (hW : Below w.heap.size w W) => Lib.hid (eContains_any l h x W (hst.next hW) (by omega) (by omega) (by omega))
      have C6 := fun W => Lib.hid (rContainsE_any l h x W (by omega) (by omega) (by omega))
      have C7 := fun W (hW : Below w.heap.size w W) => Lib.hid (eCheck_any l h W (hst.next hW) (by omega) (by omega))
      have C8 := fun W => Lib.hid (rCheckE_any l h W (by omega) (by omega))
      clear hst hf hx sl sh sx
      generalize encP l h = p at *
      generalize encP x x = q at *
      generalize conV l h x = c at *
      generalize Fr.chkE l.data.toList h.data.toList = f at *
      generalize Fr.chk x.data.toList = g at *
      obtain ⟨p1, p2⟩ := p
      obtain ⟨q1, q2⟩ := q
      obtain ⟨c1, c2⟩ := c
      simp only [] at C1 C2 C3 C4 C5 C6
      obtain ⟨-, a1, a2, -, -⟩ := P0.out
      go_enter Tryz.func3, Tryz.ntmps3
      go_wp2_with fail
      clear a1 a2
      refine ((CF _).out).mono ?_
      rintro e w1 ⟨rfl, hb⟩
      have HB := Lib.hid (HB0.out.trans (hb.mono HB0.out.size))
      have P0 := Lib.hid (P0.out.below hb)
      clear hb HB0 CF
      go_wp2_with fail
      refine ((CX _).out).mono ?_
      rintro e wz ⟨rfl, rfl⟩
      clear CX
      obtain ⟨z0, a1, a2, -, -⟩ := P0.out
      go_wp2_with fail
      clear z0 a1 a2
      refine ((C1 _ HB.out).out).mono ?_
      rintro e w3 ⟨rfl, hb⟩
      have P0 := Lib.hid (P0.out.below hb)
      have HB := Lib.hid (below_nx HB.out hb)
      clear hb C1
      obtain ⟨z0, a1, a2, -, -⟩ := P0.out
      go_wp2_with fail
      clear z0 a1 a2
      have HX := Lib.hid ((Below.refl w3.heap.size w3).alloc (Nat.le_refl _) (.cells #[.string p1, .string p2] 24))
      have P0 := Lib.hid (P0.out.below HX.out)
      have P1 := Lib.hid (pair_new w3 p1 p2 24)
      have HB := Lib.hid (below_nx HB.out HX.out)
      clear HX
      refine ((C2 _).out).mono ?_
      rintro e w4 ⟨rfl, hb⟩
      have P0 := Lib.hid (P0.out.below hb)
      have P1 := Lib.hid (P1.out.below hb)
      have HB := Lib.hid (below_nx HB.out hb)
      clear hb C2
      obtain ⟨z0, a1, a2, -, -⟩ := P0.out
      go_wp2_with fail
      clear z0 a1 a2
      have HX := Lib.hid ((Below.refl w4.heap.size w4).alloc (Nat.le_refl _) (.cells #[.string p1, .string p2] 24))
      have P0 := Lib.hid (P0.out.below HX.out)
      have P1 := Lib.hid (P1.out.below HX.out)
      have P2 := Lib.hid (pair_new w4 p1 p2 24)
      have HB := Lib.hid (below_nx HB.out HX.out)
      clear HX
      refine ((C3 _ HB.out).out).mono ?_
      rintro e w5 ⟨rfl, hb⟩
      have P0 := Lib.hid (P0.out.below hb)
      have P1 := Lib.hid (P1.out.below hb)
      have P2 := Lib.hid (P2.out.below hb)
      have HB := Lib.hid (below_nx HB.out hb)
      clear hb C3
      obtain ⟨z0, a1, a2, -, -⟩ := P0.out
      go_wp2_with fail
      clear z0 a1 a2
      have HX := Lib.hid ((Below.refl w5.heap.size w5).alloc (Nat.le_refl _) (.cells #[.string q1, .string q2] 24))
      have P0 := Lib.hid (P0.out.below HX.out)
      have P1 := Lib.hid (P1.out.below HX.out)
      have P2 := Lib.hid (P2.out.below HX.out)
      have P3 := Lib.hid (pair_new w5 q1 q2 24)
      have HB := Lib.hid (below_nx HB.out HX.out)
      clear HX
      refine ((C4 _).out).mono ?_
      rintro e w6 ⟨rfl, hb⟩
      have P0 := Lib.hid (P0.out.below hb)
      have P1 := Lib.hid (P1.out.below hb)
      have P2 := Lib.hid (P2.out.below hb)
      have P3 := Lib.hid (P3.out.below hb)
      have HB := Lib.hid (below_nx HB.out hb)
      clear hb C4
      obtain ⟨z0, a1, a2, -, -⟩ := P0.out
      go_wp2_with fail
      clear z0 a1 a2
      have HX := Lib.hid ((Below.refl w6.heap.size w6).alloc (Nat.le_refl _) (.cells #[.string q1, .string q2] 24))
      have P0 := Lib.hid (P0.out.below HX.out)
      have P1 := Lib.hid (P1.out.below HX.out)
      have P2 := Lib.hid (P2.out.below HX.out)
      have P3 := Lib.hid (P3.out.below HX.out)
      have P4 := Lib.hid (pair_new w6 q1 q2 24)
      have HB := Lib.hid (below_nx HB.out HX.out)
      clear HX
      refine ((C5 _ HB.out).out).mono ?_
      rintro e w7 ⟨rfl, hb⟩
      have P0 := Lib.hid (P0.out.below hb)
      have P1 := Lib.hid (P1.out.below hb)
      have P2 := Lib.hid (P2.out.below hb)
      have P3 := Lib.hid (P3.out.below hb)
      have P4 := Lib.hid (P4.out.below hb)
      have HB := Lib.hid (below_nx HB.out hb)
      clear hb C5
      obtain ⟨z0, a1, a2, -, -⟩ := P0.out
      go_wp2_with fail
      clear z0 a1 a2
      refine ((C6 _).out).mono ?_
      rintro e w8 ⟨rfl, hb⟩
      have P0 := Lib.hid (P0.out.below hb)
      have P1 := Lib.hid (P1.out.below hb)
      have P2 := Lib.hid (P2.out.below hb)
      have P3 := Lib.hid (P3.out.below hb)
      have P4 := Lib.hid (P4.out.below hb)
      have HB := Lib.hid (below_nx HB.out hb)
      clear hb C6
      go_wp2_with fail
      have P0d := Lib.hid (P0.out.below (Below.refl w8.heap.size w8).drew)
      clear P0
      have P0 := P0d
      clear P0d
      obtain ⟨-, ka1, ka2, -, -⟩ := P0.out
      have P1d := Lib.hid (P1.out.below (Below.refl w8.heap.size w8).drew)
      clear P1
      have P1 := P1d
      clear P1d
      obtain ⟨-, kb1, kb2, -, -⟩ := P1.out
      have P2d := Lib.hid (P2.out.below (Below.refl w8.heap.size w8).drew)
      clear P2
      have P2 := P2d
      clear P2d
      obtain ⟨-, kc1, kc2, -, -⟩ := P2.out
      have P3d := Lib.hid (P3.out.below (Below.refl w8.heap.size w8).drew)
      clear P3
      have P3 := P3d
      clear P3d
      obtain ⟨-, kd1, kd2, -, -⟩ := P3.out
      have P4d := Lib.hid (P4.out.below (Below.refl w8.heap.size w8).drew)
      clear P4
      have P4 := P4d
      clear P4d
      obtain ⟨-, ke1, ke2, -, -⟩ := P4.out
      have HBd := Lib.hid (below_nx HB.out (Below.refl w8.heap.size w8).drew)
      clear HB
      have HB := HBd
      clear HBd
      go_region_held3 (fun Y => Y.cell? ⟨w.heap.size, 0, none⟩ = some (.string l) ∧ Y.cell? ⟨w.heap.size, 1, none⟩ = some (.string h) ∧ Y.cell? ⟨w3.heap.size, 0, none⟩ = some (.string p1) ∧ Y.cell? ⟨w3.heap.size, 1, none⟩ = some (.string p2) ∧ Y.cell? ⟨w4.heap.size, 0, none⟩ = some (.string p1) ∧ Y.cell? ⟨w4.heap.size, 1, none⟩ = some (.string p2) ∧ Y.cell? ⟨w5.heap.size, 0, none⟩ = some (.string q1) ∧ Y.cell? ⟨w5.heap.size, 1, none⟩ = some (.string q2) ∧ Y.cell? ⟨w6.heap.size, 0, none⟩ = some (.string q1) ∧ Y.cell? ⟨w6.heap.size, 1, none⟩ = some (.string q2))
        (first | (refine ⟨?_, ?_, ?_, ?_, ?_, ?_, ?_, ?_, ?_, ?_⟩ <;> with_reducible assumption) | (go_split_ands; refine ⟨?_, ?_, ?_, ?_, ?_, ?_, ?_, ?_, ?_, ?_⟩ <;> with_reducible assumption) | go_keep)
        (first
          | (go_at_call 13; (with_reducible refine ((CA _ HB.out).out).mono ?_); rintro e wn ⟨rfl, hb⟩; have P0q := Lib.hid (P0.out.below hb); have P1q := Lib.hid (P1.out.below hb); have P2q := Lib.hid (P2.out.below hb); have P3q := Lib.hid (P3.out.below hb); have P4q := Lib.hid (P4.out.below hb); have HBq := Lib.hid (below_nx HB.out hb); clear P0 P1 P2 P3 P4 HB hb ka1 ka2 kb1 kb2 kc1 kc2 kd1 kd2 ke1 ke2; have HB := HBq; have P0 := P0q; have P1 := P1q; have P2 := P2q; have P3 := P3q; have P4 := P4q; clear HBq P0q P1q P2q P3q P4q; obtain ⟨-, ka1, ka2, -, -⟩ := P0.out; obtain ⟨-, kb1, kb2, -, -⟩ := P1.out; obtain ⟨-, kc1, kc2, -, -⟩ := P2.out; obtain ⟨-, kd1, kd2, -, -⟩ := P3.out; obtain ⟨-, ke1, ke2, -, -⟩ := P4.out)
          | (go_at_call 20; (with_reducible refine ((C7 _ HB.out).out).mono ?_); rintro e wn ⟨rfl, hb⟩; have P0q := Lib.hid (P0.out.below hb); have P1q := Lib.hid (P1.out.below hb); have P2q := Lib.hid (P2.out.below hb); have P3q := Lib.hid (P3.out.below hb); have P4q := Lib.hid (P4.out.below hb); have HBq := Lib.hid (below_nx HB.out hb); clear P0 P1 P2 P3 P4 HB hb ka1 ka2 kb1 kb2 kc1 kc2 kd1 kd2 ke1 ke2; have HB := HBq; have P0 := P0q; have P1 := P1q; have P2 := P2q; have P3 := P3q; have P4 := P4q; clear HBq P0q P1q P2q P3q P4q; obtain ⟨-, ka1, ka2, -, -⟩ := P0.out; obtain ⟨-, kb1, kb2, -, -⟩ := P1.out; obtain ⟨-, kc1, kc2, -, -⟩ := P2.out; obtain ⟨-, kd1, kd2, -, -⟩ := P3.out; obtain ⟨-, ke1, ke2, -, -⟩ := P4.out)
          | (go_at_call 21; (with_reducible refine ((C8 _).out).mono ?_); rintro e wn ⟨rfl, hb⟩; have P0q := Lib.hid (P0.out.below hb); have P1q := Lib.hid (P1.out.below hb); have P2q := Lib.hid (P2.out.below hb); have P3q := Lib.hid (P3.out.below hb); have P4q := Lib.hid (P4.out.below hb); have HBq := Lib.hid (below_nx HB.out hb); clear P0 P1 P2 P3 P4 HB hb ka1 ka2 kb1 kb2 kc1 kc2 kd1 kd2 ke1 ke2; have HB := HBq; have P0 := P0q; have P1 := P1q; have P2 := P2q; have P3 := P3q; have P4 := P4q; clear HBq P0q P1q P2q P3q P4q; obtain ⟨-, ka1, ka2, -, -⟩ := P0.out; obtain ⟨-, kb1, kb2, -, -⟩ := P1.out; obtain ⟨-, kc1, kc2, -, -⟩ := P2.out; obtain ⟨-, kd1, kd2, -, -⟩ := P3.out; obtain ⟨-, ke1, ke2, -, -⟩ := P4.out))
      all_goals (go_wp2; go_ret; exact ⟨rfl, HB.out⟩)
    · have CX := fun W => Lib.hid (rFew_no x W sx hx)
      clear hst hf hx sl sh sx
      obtain ⟨-, a1, a2, -, -⟩ := P0.out
      go_enter Tryz.func3, Tryz.ntmps3
      go_wp2_with fail
      refine ((CF _).out).mono ?_
      rintro e w1 ⟨rfl, hb⟩
      have HB1 := Lib.hid (HB0.out.trans (hb.mono HB0.out.size))
      clear hb a1 a2
      go_wp2_with fail
      refine ((CX _).out).mono ?_
      rintro e w2 ⟨rfl, rfl⟩
      go_wp2_with fail
      refine ((CA _ HB1.out).out).mono ?_
      rintro e w3 ⟨rfl, hb⟩
      have HB2 := Lib.hid (below_nx HB1.out hb)
      clear hb
      go_wp2
      go_ret
      exact ⟨rfl, HB2.out⟩
  · have CF := fun W => Lib.hid (fewE_no l h W sl sh hf)
    clear hst hf sl sh sx
    obtain ⟨-, a1, a2, -, -⟩ := P0.out
    go_enter Tryz.func3, Tryz.ntmps3
    go_wp2_with fail
    refine ((CF _).out).mono ?_
    rintro e w1 ⟨rfl, hb⟩
    have HB1 := Lib.hid (HB0.out.trans (hb.mono HB0.out.size))
    clear hb a1 a2
    go_wp2_with fail
    refine ((CA _ HB1.out).out).mono ?_
    rintro e w3 ⟨rfl, hb⟩
    have HB2 := Lib.hid (below_nx HB1.out hb)
    clear hb
    go_wp2
    go_ret
    exact ⟨rfl, HB2.out⟩
end Go.Proofs.YtldclpdmcopgnaaGreatDoor
