/- The contracts of Within of package enclosure and of the reference. -/
import Derived.Test.YtldclpdmcopgnaaGreatDoorEg
namespace Go.Proofs.YtldclpdmcopgnaaGreatDoor
open Go.RowKit

/-- What Within returns. -/
def witV (l h m k : ByteArray) : Bool × Int :=
  if chk2 l h m k ≠ 0 then (false, chk2 l h m k) else (decide (¬ Fr.rat l.data.toList < Fr.rat m.data.toList ∧ ¬ Fr.rat k.data.toList < Fr.rat h.data.toList), 0)

set_option maxRecDepth 100000 in
theorem eWithin_any (l h m k : ByteArray) (w : World) (hst : St w) (hl : l.size ≤ 800) (hh : h.size ≤ 800) (hm : m.size ≤ 800) (hk : k.size ≤ 800) :
    Calls Tryz.prog 26 #[.agg #[.string l, .string h], .agg #[.string m, .string k]] w fun e w' => e = .returned (.tuple #[.bool (witV l h m k).1, .int .i64 (witV l h m k).2]) ∧ Below w.heap.size w w' := by
  have hB0 : Below w.heap.size w ((Two w l h m k).alloc (.cells #[.string l, .string h, .string m, .string k] 24)) := (two_below w l h m k).alloc (by rw [two_size]; omega) _
  have HQ : Quad ((Two w l h m k).alloc (.cells #[.string l, .string h, .string m, .string k] 24)) (w.heap.size + 1 + 1) l h m k := by
    have h1 := quad_new (Two w l h m k) l h m k 24
    rw [two_size] at h1
    exact h1
  have CC := Lib.hid (checkAll_any l h m k _ _ (hst.next hB0) HQ hl hh hm hk)
  have H3 := fun w1 hb => Lib.hid (three_pairs w l h m k (w1 := w1) hb)
  have hs : w.heap.size ≤ ((Two w l h m k).alloc (.cells #[.string l, .string h, .string m, .string k] 24)).heap.size := hB0.size
  clear HQ
  unfold witV
  by_cases h0 : chk2 l h m k = 0
  · rw [if_neg (by simpa using h0)]
    rw [h0] at CC
    obtain ⟨e1, e2⟩ := chk2_zero h0
    obtain ⟨k1, k2, k3⟩ := chkE_zero e1
    obtain ⟨k4, k5, k6⟩ := chkE_zero e2
    clear h0 e1 e2 k3 k6
    by_cases h1 : Fr.rat l.data.toList < Fr.rat m.data.toList
    · rw [decide_eq_false (fun h => h.1 h1)]
      have CI := fun W (hW : Below w.heap.size w W) => Lib.hid (isLess_lit (decide_eq_true h1) W (hst.next hW) hl hm k1 k4)
      clear h1 k1 k2 k4 k5 hst
      unfold Two at *
      go_enter Tryz.func26, Tryz.ntmps26
      go_wp2_with fail
      refine (CC.out).mono ?_
      rintro e w1 ⟨rfl, hb1⟩
      obtain ⟨⟨p0, p1, p2, p3, p4⟩, ⟨q0, q1, q2, q3, q4⟩⟩ := (H3 _ hb1).out
      have hB1 := hB0.trans (hb1.mono hs)
      go_wp2_with (go_at_call 53; refine ((CI _ hB1).out).mono ?_; rintro e w2 ⟨rfl, hb2⟩)
      go_ret2
      exact ⟨rfl, hB1.trans (hb2.mono hB1.size)⟩
    · have CI := fun W (hW : Below w.heap.size w W) => Lib.hid (isLess_lit (decide_eq_false h1) W (hst.next hW) hl hm k1 k4)
      obtain ⟨b, hb⟩ : ∃ b, decide (Fr.rat k.data.toList < Fr.rat h.data.toList) = b := ⟨_, rfl⟩
      have CJ := fun W (hW : Below w.heap.size w W) => Lib.hid (isLess_lit hb W (hst.next hW) hk hh k5 k2)
      rw [show decide (¬ Fr.rat l.data.toList < Fr.rat m.data.toList ∧ ¬ Fr.rat k.data.toList < Fr.rat h.data.toList) = !b by rw [← hb]; simp [h1]]
      clear h1 k1 k2 k4 k5 hst hb
      unfold Two at *
      go_enter Tryz.func26, Tryz.ntmps26
      go_wp2_with fail
      refine (CC.out).mono ?_
      rintro e w1 ⟨rfl, hb1⟩
      obtain ⟨P, Q⟩ := (H3 _ hb1).out
      obtain ⟨p0, p1, p2, p3, p4⟩ := id P
      obtain ⟨q0, q1, q2, q3, q4⟩ := id Q
      have HP := Lib.hid P
      have HQ := Lib.hid Q
      clear P Q
      have hB1 := hB0.trans (hb1.mono hs)
      go_wp2_with (first
        | (go_at_call 53; (with_reducible refine ((CI _ hB1).out).mono ?_); rintro e w2 ⟨rfl, hb2⟩; have hB2 := hB1.trans (hb2.mono hB1.size); obtain ⟨r0, r1, r2, r3, r4⟩ := HP.out.below hb2; obtain ⟨s0, s1, s2, s3, s4⟩ := HQ.out.below hb2)
        | (go_at_call 53; (with_reducible refine ((CJ _ hB2).out).mono ?_); rintro e w3 ⟨rfl, hb3⟩; have hB3 := hB2.trans (hb3.mono hB2.size)))
      go_ret2
      exact ⟨rfl, hB3⟩
  · rw [if_pos h0]
    have hne : (chk2 l h m k != 0) = true := by simpa using h0
    generalize chk2 l h m k = c at *
    clear h0 hst
    unfold Two at *
    go_enter Tryz.func26, Tryz.ntmps26
    go_wp2_with fail
    refine (CC.out).mono ?_
    rintro e w1 ⟨rfl, hb1⟩
    go_wp2
    go_ret2
    exact ⟨rfl, hB0.trans (hb1.mono hs)⟩

set_option maxRecDepth 100000 in
theorem rWithinE_any (l h m k : ByteArray) (w : World) (hl : l.size ≤ 800) (hh : h.size ≤ 800) (hm : m.size ≤ 800) (hk : k.size ≤ 800) :
    Calls Tryz.prog 27 #[.agg #[.string l, .string h], .agg #[.string m, .string k]] w fun e w' => e = .returned (.tuple #[.bool (witV l h m k).1, .int .i64 (witV l h m k).2]) ∧ Below w.heap.size w w' := by
  have hB0 := two_below w l h m k
  have H2 := fun w1 hb => Lib.hid (two_pairs w l h m k (w1 := w1) hb)
  have hs := hB0.size
  have CB := fun W => Lib.hid (rbothE_any l h m k W hl hh hm hk)
  unfold witV
  by_cases h0 : chk2 l h m k = 0
  · rw [if_neg (by simpa using h0)]
    rw [h0] at CB
    obtain ⟨e1, e2⟩ := chk2_zero h0
    obtain ⟨k1, k2, k3⟩ := chkE_zero e1
    obtain ⟨k4, k5, k6⟩ := chkE_zero e2
    have CI := fun W => Lib.hid (rIn_any m k l W hm hk hl k4 k5 k1)
    have CJ := fun W => Lib.hid (rIn_any m k h W hm hk hh k4 k5 k2)
    obtain ⟨b, hb⟩ : ∃ b, decide (¬ Fr.rat l.data.toList < Fr.rat m.data.toList ∧ ¬ Fr.rat k.data.toList < Fr.rat l.data.toList) = b := ⟨_, rfl⟩
    obtain ⟨c, hc⟩ : ∃ c, decide (¬ Fr.rat h.data.toList < Fr.rat m.data.toList ∧ ¬ Fr.rat k.data.toList < Fr.rat h.data.toList) = c := ⟨_, rfl⟩
    have he : decide (¬ Fr.rat l.data.toList < Fr.rat m.data.toList ∧ ¬ Fr.rat k.data.toList < Fr.rat h.data.toList) = (b && c) := by
      rw [← hb, ← hc, ← Bool.decide_and]
      apply decide_eq_decide.2
      grind
    rw [he]
    rw [hb] at CI
    rw [hc] at CJ
    clear h0 e1 e2 k1 k2 k3 k4 k5 k6 hb hc he
    unfold Two at *
    cases b with
    | false =>
      go_enter Tryz.func27, Tryz.ntmps27
      go_wp2_with fail
      refine ((CB _).out).mono ?_
      rintro e w1 ⟨rfl, hb1⟩
      obtain ⟨⟨p0, p1, p2, p3, p4⟩, ⟨q0, q1, q2, q3, q4⟩⟩ := (H2 _ hb1).out
      have hB1 := hB0.trans (hb1.mono hs)
      go_wp2_with (go_at_call 54; refine ((CI _).out).mono ?_; rintro e w2 ⟨rfl, hb2⟩)
      go_ret2
      exact ⟨rfl, hB1.trans (hb2.mono hB1.size)⟩
    | true =>
      go_enter Tryz.func27, Tryz.ntmps27
      go_wp2_with fail
      refine ((CB _).out).mono ?_
      rintro e w1 ⟨rfl, hb1⟩
      obtain ⟨P, Q⟩ := (H2 _ hb1).out
      obtain ⟨p0, p1, p2, p3, p4⟩ := id P
      obtain ⟨q0, q1, q2, q3, q4⟩ := id Q
      have HP := Lib.hid P
      have HQ := Lib.hid Q
      clear P Q
      have hB1 := hB0.trans (hb1.mono hs)
      go_wp2_with (first
        | (go_at_call 54; (with_reducible refine ((CI _).out).mono ?_); rintro e w2 ⟨rfl, hb2⟩; have hB2 := hB1.trans (hb2.mono hB1.size); obtain ⟨r0, r1, r2, r3, r4⟩ := HP.out.below hb2; obtain ⟨s0, s1, s2, s3, s4⟩ := HQ.out.below hb2)
        | (go_at_call 54; (with_reducible refine ((CJ _).out).mono ?_); rintro e w3 ⟨rfl, hb3⟩; have hB3 := hB2.trans (hb3.mono hB2.size)))
      go_ret2
      exact ⟨by simp, hB3⟩
  · rw [if_pos h0]
    have hne : (chk2 l h m k != 0) = true := by simpa using h0
    generalize chk2 l h m k = c at *
    clear h0
    unfold Two at *
    go_enter Tryz.func27, Tryz.ntmps27
    go_wp2_with fail
    refine ((CB _).out).mono ?_
    rintro e w1 ⟨rfl, hb1⟩
    go_wp2
    go_ret2
    exact ⟨rfl, hB0.trans (hb1.mono hs)⟩

end Go.Proofs.YtldclpdmcopgnaaGreatDoor

