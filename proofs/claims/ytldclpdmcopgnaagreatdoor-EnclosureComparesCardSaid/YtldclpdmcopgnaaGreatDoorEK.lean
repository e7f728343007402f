/- The statement EnclosureCompares. -/
import Derived.Test.YtldclpdmcopgnaaGreatDoorEI
import Derived.Test.YtldclpdmcopgnaaGreatDoorED
namespace Go.Proofs.YtldclpdmcopgnaaGreatDoor
open Go.RowKit
set_option maxRecDepth 100000 in
set_option maxHeartbeats 8000000 in
theorem compares_any (l h m k : ByteArray) (w : World) (hst : St w) (sl : l.size ≤ 9223372036854775807) (sh : h.size ≤ 9223372036854775807) (sm : m.size ≤ 9223372036854775807) (sk : k.size ≤ 9223372036854775807) :
    Calls Tryz.prog 4 #[.agg #[.string l, .string h], .agg #[.string m, .string k]] w fun e w' => e = .returned (.bool true) ∧ Below w.heap.size w w' := by
  have CA := fun W (hW : Below w.heap.size w W) => Lib.hid (awake02_any W (hst.next hW))
  have HB0 := Lib.hid (two_below w l h m k)
  unfold Two at HB0
  have P0 := Lib.hid (pair_next w l h m k 24 24).1
  have Q0 := Lib.hid (pair_next w l h m k 24 24).2
  by_cases hf : l.size ≤ 180 ∧ h.size ≤ 180
  · have CF := fun W => Lib.hid (fewE_yes l h W hf.1 hf.2)
    by_cases hx : m.size ≤ 180 ∧ k.size ≤ 180
    · have CG := fun W => Lib.hid (fewE_yes m k W hx.1 hx.2)
      have C1 := fun W (hW : Below w.heap.size w W) => Lib.hid (eMeet_any l h m k W (hst.next hW) (by omega) (by omega) (by omega) (by omega))
      have C2 := fun W => Lib.hid (rMeetE_any l h m k W (by omega) (by omega) (by omega) (by omega))
      have C3 := fun W (hW : Below w.heap.size w W) => Lib.hid (eHull_any l h m k W (hst.next hW) (by omega) (by omega) (by omega) (by omega))
      have C4 := fun W => Lib.hid (rHull_same l h m k W (by omega) (by omega) (by omega) (by omega))
      have C5 := fun W (hW : Below w.heap.size w W) => Lib.hid (eWithin_any l h m k W (hst.next hW) (by omega) (by omega) (by omega) (by omega))
      have C6 := fun W => Lib.hid (rWithinE_any l h m k W (by omega) (by omega) (by omega) (by omega))
      have C7 := fun W (hW : Below w.heap.size w W) => Lib.hid (eCompare_any l h m k W (hst.next hW) (by omega) (by omega) (by omega) (by omega))
      have C8 := fun W => Lib.hid (rCompareE_any l h m k W (by omega) (by omega) (by omega) (by omega))
      clear hst hf hx sl sh sm sk
      unfold MeetPost at C1 C2
      unfold HullPost at C3 C4
      generalize witV l h m k = c at *
      generalize cmpV l h m k = d at *
      generalize greatB l m = g1 at *
      generalize leastB h k = g2 at *
      generalize leastB l m = g3 at *
      generalize greatB h k = g4 at *
      generalize chk2 l h m k = f at *
      obtain ⟨m1, m2, hm⟩ : ∃ x y : ByteArray, (if f = 0 ∧ ¬ Fr.rat g2.data.toList < Fr.rat g1.data.toList then Value.agg #[.string g1, .string g2] else .agg #[.string ⟨#[]⟩, .string ⟨#[]⟩]) = .agg #[.string x, .string y] := by
        split
        · exact ⟨_, _, rfl⟩
        · exact ⟨_, _, rfl⟩
      obtain ⟨h1, h2, hh⟩ : ∃ x y : ByteArray, (if f = 0 then Value.agg #[.string g3, .string g4] else .agg #[.string ⟨#[]⟩, .string ⟨#[]⟩]) = .agg #[.string x, .string y] := by
        split
        · exact ⟨_, _, rfl⟩
        · exact ⟨_, _, rfl⟩
      rw [hm] at C1 C2
      rw [hh] at C3 C4
      generalize decide (f = 0 ∧ ¬ Fr.rat g2.data.toList < Fr.rat g1.data.toList) = b at *
      clear hm hh
      obtain ⟨c1, c2⟩ := c
      obtain ⟨d1, d2⟩ := d
      simp only [] at C5 C6 C7 C8
      obtain ⟨-, a1, a2, -, -⟩ := P0.out
      obtain ⟨-, a3, a4, -, -⟩ := Q0.out
      go_enter Tryz.func4, Tryz.ntmps4
      go_wp2_with fail
      clear a1 a2 a3 a4
      refine ((CF _).out).mono ?_
      rintro e w1 ⟨rfl, hb⟩
      have HB := Lib.hid (below_nx HB0.out hb)
      have P0 := Lib.hid (P0.out.below hb)
      have Q0 := Lib.hid (Q0.out.below hb)
      clear hb HB0 CF
      obtain ⟨-, a1, a2, -, -⟩ := P0.out
      obtain ⟨-, a3, a4, -, -⟩ := Q0.out
      go_wp2_with fail
      clear a1 a2 a3 a4
      refine ((CG _).out).mono ?_
      rintro e w2 ⟨rfl, hb⟩
      have HB := Lib.hid (below_nx HB.out hb)
      have P0 := Lib.hid (P0.out.below hb)
      have Q0 := Lib.hid (Q0.out.below hb)
      clear hb CG
      obtain ⟨z0, a1, a2, -, -⟩ := P0.out
      obtain ⟨z1, a3, a4, -, -⟩ := Q0.out
      go_wp2_with fail
      clear z0 z1 a1 a2 a3 a4
      refine ((C1 _ HB.out).out).mono ?_
      rintro e w3 ⟨rfl, hb⟩
      have P0 := Lib.hid (P0.out.below hb)
      have Q0 := Lib.hid (Q0.out.below hb)
      have HB := Lib.hid (below_nx HB.out hb)
      clear hb C1
      obtain ⟨z0, a1, a2, -, -⟩ := P0.out
      obtain ⟨z1, a3, a4, -, -⟩ := Q0.out
      go_wp2_with fail
      clear z0 z1 a1 a2 a3 a4
      have HX := Lib.hid ((Below.refl w3.heap.size w3).alloc (Nat.le_refl _) (.cells #[.string m1, .string m2] 24))
      have P0 := Lib.hid (P0.out.below HX.out)
      have Q0 := Lib.hid (Q0.out.below HX.out)
      have P1 := Lib.hid (pair_new w3 m1 m2 24)
      have HB := Lib.hid (below_nx HB.out HX.out)
      clear HX
      refine ((C2 _).out).mono ?_
      rintro e w4 ⟨rfl, hb⟩
      have P0 := Lib.hid (P0.out.below hb)
      have Q0 := Lib.hid (Q0.out.below hb)
      have P1 := Lib.hid (P1.out.below hb)
      have HB := Lib.hid (below_nx HB.out hb)
      clear hb C2
      obtain ⟨z0, a1, a2, -, -⟩ := P0.out
      obtain ⟨z1, a3, a4, -, -⟩ := Q0.out
      go_wp2_with fail
      clear z0 z1 a1 a2 a3 a4
      have HX := Lib.hid ((Below.refl w4.heap.size w4).alloc (Nat.le_refl _) (.cells #[.string m1, .string m2] 24))
      have P0 := Lib.hid (P0.out.below HX.out)
      have Q0 := Lib.hid (Q0.out.below HX.out)
      have P1 := Lib.hid (P1.out.below HX.out)
      have P2 := Lib.hid (pair_new w4 m1 m2 24)
      have HB := Lib.hid (below_nx HB.out HX.out)
      clear HX
      refine ((C3 _ HB.out).out).mono ?_
      rintro e w5 ⟨rfl, hb⟩
      have P0 := Lib.hid (P0.out.below hb)
      have Q0 := Lib.hid (Q0.out.below hb)
      have P1 := Lib.hid (P1.out.below hb)
      have P2 := Lib.hid (P2.out.below hb)
      have HB := Lib.hid (below_nx HB.out hb)
      clear hb C3
      obtain ⟨z0, a1, a2, -, -⟩ := P0.out
      obtain ⟨z1, a3, a4, -, -⟩ := Q0.out
      go_wp2_with fail
      clear z0 z1 a1 a2 a3 a4
      have HX := Lib.hid ((Below.refl w5.heap.size w5).alloc (Nat.le_refl _) (.cells #[.string h1, .string h2] 24))
      have P0 := Lib.hid (P0.out.below HX.out)
      have Q0 := Lib.hid (Q0.out.below HX.out)
      have P1 := Lib.hid (P1.out.below HX.out)
      have P2 := Lib.hid (P2.out.below HX.out)
      have P3 := Lib.hid (pair_new w5 h1 h2 24)
      have HB := Lib.hid (below_nx HB.out HX.out)
      clear HX
      refine ((C4 _).out).mono ?_
      rintro e w6 ⟨rfl, hb⟩
      have P0 := Lib.hid (P0.out.below hb)
      have Q0 := Lib.hid (Q0.out.below hb)
      have P1 := Lib.hid (P1.out.below hb)
      have P2 := Lib.hid (P2.out.below hb)
      have P3 := Lib.hid (P3.out.below hb)
      have HB := Lib.hid (below_nx HB.out hb)
      clear hb C4
      obtain ⟨z0, a1, a2, -, -⟩ := P0.out
      obtain ⟨z1, a3, a4, -, -⟩ := Q0.out
      have HX := Lib.hid ((Below.refl w6.heap.size w6).alloc (Nat.le_refl _) (.cells #[.string h1, .string h2] 24))
      obtain ⟨-, k01, k02, -, -⟩ := P1.out.below HX.out
      obtain ⟨-, k11, k12, -, -⟩ := P2.out.below HX.out
      obtain ⟨-, k21, k22, -, -⟩ := P3.out.below HX.out
      clear HX
      go_wp2_with fail
      clear k01 k02 k11 k12 k21 k22
      clear z0 z1 a1 a2 a3 a4
      have HX := Lib.hid ((Below.refl w6.heap.size w6).alloc (Nat.le_refl _) (.cells #[.string h1, .string h2] 24))
      have P0 := Lib.hid (P0.out.below HX.out)
      have Q0 := Lib.hid (Q0.out.below HX.out)
      have P1 := Lib.hid (P1.out.below HX.out)
      have P2 := Lib.hid (P2.out.below HX.out)
      have P3 := Lib.hid (P3.out.below HX.out)
      have P4 := Lib.hid (pair_new w6 h1 h2 24)
      have HB := Lib.hid (below_nx HB.out HX.out)
      clear HX
      refine ((C5 _ HB.out).out).mono ?_
      rintro e w7 ⟨rfl, hb⟩
      have P0 := Lib.hid (P0.out.below hb)
      have Q0 := Lib.hid (Q0.out.below hb)
      have P1 := Lib.hid (P1.out.below hb)
      have P2 := Lib.hid (P2.out.below hb)
      have P3 := Lib.hid (P3.out.below hb)
      have P4 := Lib.hid (P4.out.below hb)
      have HB := Lib.hid (below_nx HB.out hb)
      clear hb C5
      obtain ⟨z0, a1, a2, -, -⟩ := P0.out
      obtain ⟨z1, a3, a4, -, -⟩ := Q0.out
      go_wp2_with fail
      clear z0 z1 a1 a2 a3 a4
      refine ((C6 _).out).mono ?_
      rintro e w8 ⟨rfl, hb⟩
      have P0 := Lib.hid (P0.out.below hb)
      have Q0 := Lib.hid (Q0.out.below hb)
      have P1 := Lib.hid (P1.out.below hb)
      have P2 := Lib.hid (P2.out.below hb)
      have P3 := Lib.hid (P3.out.below hb)
      have P4 := Lib.hid (P4.out.below hb)
      have HB := Lib.hid (below_nx HB.out hb)
      clear hb C6
      obtain ⟨z0, a1, a2, -, -⟩ := P0.out
      obtain ⟨z1, a3, a4, -, -⟩ := Q0.out
      go_wp2_with fail
      clear z0 z1 a1 a2 a3 a4
      refine ((C7 _ HB.out).out).mono ?_
      rintro e w9 ⟨rfl, hb⟩
      have P0 := Lib.hid (P0.out.below hb)
      have Q0 := Lib.hid (Q0.out.below hb)
      have P1 := Lib.hid (P1.out.below hb)
      have P2 := Lib.hid (P2.out.below hb)
      have P3 := Lib.hid (P3.out.below hb)
      have P4 := Lib.hid (P4.out.below hb)
      have HB := Lib.hid (below_nx HB.out hb)
      clear hb C7
      obtain ⟨z0, a1, a2, -, -⟩ := P0.out
      obtain ⟨z1, a3, a4, -, -⟩ := Q0.out
      go_wp2_with fail
      clear z0 z1 a1 a2 a3 a4
      refine ((C8 _).out).mono ?_
      rintro e w10 ⟨rfl, hb⟩
      have P0 := Lib.hid (P0.out.below hb)
      have Q0 := Lib.hid (Q0.out.below hb)
      have P1 := Lib.hid (P1.out.below hb)
      have P2 := Lib.hid (P2.out.below hb)
      have P3 := Lib.hid (P3.out.below hb)
      have P4 := Lib.hid (P4.out.below hb)
      have HB := Lib.hid (below_nx HB.out hb)
      clear hb C8
      go_wp2_with fail
      refine ((CA _ HB.out).out).mono ?_
      rintro e w11 ⟨rfl, hb⟩
      have HB := Lib.hid (below_nx HB.out hb)
      clear hb
      go_wp2
      go_ret
      exact ⟨rfl, HB.out⟩
    · have CG := fun W => Lib.hid (fewE_no m k W sm sk hx)
      clear hst hf hx sl sh sm sk
      obtain ⟨-, a1, a2, -, -⟩ := P0.out
      obtain ⟨-, a3, a4, -, -⟩ := Q0.out
      go_enter Tryz.func4, Tryz.ntmps4
      go_wp2_with fail
      clear a1 a2 a3 a4
      refine ((CF _).out).mono ?_
      rintro e w1 ⟨rfl, hb⟩
      have HB := Lib.hid (below_nx HB0.out hb)
      have P0 := Lib.hid (P0.out.below hb)
      have Q0 := Lib.hid (Q0.out.below hb)
      clear hb HB0 CF
      obtain ⟨-, a1, a2, -, -⟩ := P0.out
      obtain ⟨-, a3, a4, -, -⟩ := Q0.out
      go_wp2_with fail
      clear a1 a2 a3 a4
      refine ((CG _).out).mono ?_
      rintro e w2 ⟨rfl, hb⟩
      have HB := Lib.hid (below_nx HB.out hb)
      clear hb CG
      go_wp2_with fail
      refine ((CA _ HB.out).out).mono ?_
      rintro e w3 ⟨rfl, hb⟩
      have HB := Lib.hid (below_nx HB.out hb)
      clear hb
      go_wp2
      go_ret
      exact ⟨rfl, HB.out⟩
  · have CF := fun W => Lib.hid (fewE_no l h W sl sh hf)
    clear hst hf sl sh sm sk
    obtain ⟨-, a1, a2, -, -⟩ := P0.out
    obtain ⟨-, a3, a4, -, -⟩ := Q0.out
    go_enter Tryz.func4, Tryz.ntmps4
    go_wp2_with fail
    clear a1 a2 a3 a4
    refine ((CF _).out).mono ?_
    rintro e w1 ⟨rfl, hb⟩
    have HB := Lib.hid (below_nx HB0.out hb)
    clear hb HB0 CF
    go_wp2_with fail
    refine ((CA _ HB.out).out).mono ?_
    rintro e w3 ⟨rfl, hb⟩
    have HB := Lib.hid (below_nx HB.out hb)
    clear hb
    go_wp2
    go_ret
    exact ⟨rfl, HB.out⟩
end Go.Proofs.YtldclpdmcopgnaaGreatDoor
