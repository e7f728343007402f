/- The contracts of Compare of package enclosure and of the reference. -/
import Derived.Test.YtldclpdmcopgnaaGreatDoorEe
namespace Go.Proofs.YtldclpdmcopgnaaGreatDoor
open Go.RowKit

theorem chk2_zero {l h m k : ByteArray} (h0 : chk2 l h m k = 0) : Fr.chkE l.data.toList h.data.toList = 0 ∧ Fr.chkE m.data.toList k.data.toList = 0 := by
  unfold chk2 at h0
  by_cases h1 : Fr.chkE l.data.toList h.data.toList = 0
  · rw [if_pos h1] at h0; exact ⟨h1, h0⟩
  · rw [if_neg h1] at h0; exact absurd h0 h1
/-- Two enclosures in new variables. -/
def Two (w : World) (l h m k : ByteArray) : World := (w.alloc (.cells #[.string l, .string h] 24)).alloc (.cells #[.string m, .string k] 24)
theorem two_below (w : World) (l h m k : ByteArray) : Below w.heap.size w (Two w l h m k) := ((Below.refl _ _).alloc (Nat.le_refl _) _).alloc (by simp) _
theorem two_size (w : World) (l h m k : ByteArray) : (Two w l h m k).heap.size = w.heap.size + 2 := by simp [Two]
theorem three_pairs (w : World) (l h m k : ByteArray) {w1 : World} (hb : Below ((Two w l h m k).alloc (.cells #[.string l, .string h, .string m, .string k] 24)).heap.size ((Two w l h m k).alloc (.cells #[.string l, .string h, .string m, .string k] 24)) w1) :
    Pair w1 w.heap.size l h ∧ Pair w1 (w.heap.size + 1) m k := by
  obtain ⟨HP, HQ⟩ := pair_next w l h m k 24 24
  have h1 : Below (Two w l h m k).heap.size (Two w l h m k) ((Two w l h m k).alloc (.cells #[.string l, .string h, .string m, .string k] 24)) := (Below.refl _ _).alloc (Nat.le_refl _) _
  have h2 := h1.trans (hb.mono (by simp))
  exact ⟨HP.below h2, HQ.below h2⟩

/-- What Compare returns. -/
def cmpV (l h m k : ByteArray) : Int × Int :=
  if chk2 l h m k ≠ 0 then (0, chk2 l h m k) else if Fr.rat h.data.toList < Fr.rat m.data.toList then (-1, 0) else if Fr.rat k.data.toList < Fr.rat l.data.toList then (1, 0) else (0, 0)

set_option maxRecDepth 100000 in
theorem eCompare_any (l h m k : ByteArray) (w : World) (hst : St w) (hl : l.size ≤ 800) (hh : h.size ≤ 800) (hm : m.size ≤ 800) (hk : k.size ≤ 800) :
    Calls Tryz.prog 28 #[.agg #[.string l, .string h], .agg #[.string m, .string k]] w fun e w' => e = .returned (.tuple #[.int .i64 (cmpV l h m k).1, .int .i64 (cmpV l h m k).2]) ∧ Below w.heap.size w w' := by
  have hB0 : Below w.heap.size w ((Two w l h m k).alloc (.cells #[.string l, .string h, .string m, .string k] 24)) := (two_below w l h m k).alloc (by rw [two_size]; omega) _
  have HQ : Quad ((Two w l h m k).alloc (.cells #[.string l, .string h, .string m, .string k] 24)) (w.heap.size + 1 + 1) l h m k := by
    have h1 := quad_new (Two w l h m k) l h m k 24
    rw [two_size] at h1
    exact h1
  have CC := Lib.hid (checkAll_any l h m k _ _ (hst.next hB0) HQ hl hh hm hk)
  have H3 := fun w1 hb => Lib.hid (three_pairs w l h m k (w1 := w1) hb)
  have hs : w.heap.size ≤ ((Two w l h m k).alloc (.cells #[.string l, .string h, .string m, .string k] 24)).heap.size := hB0.size
  clear HQ
  unfold cmpV
  by_cases h0 : chk2 l h m k = 0
  · rw [if_neg (by simpa using h0)]
    rw [h0] at CC
    obtain ⟨e1, e2⟩ := chk2_zero h0
    obtain ⟨k1, k2, k3⟩ := chkE_zero e1
    obtain ⟨k4, k5, k6⟩ := chkE_zero e2
    clear h0 e1 e2 k3 k6
    by_cases h1 : Fr.rat h.data.toList < Fr.rat m.data.toList
    · rw [if_pos h1]
      have CI := fun W (hW : Below w.heap.size w W) => Lib.hid (isLess_lit (decide_eq_true h1) W (hst.next hW) hh hm k2 k4)
      clear h1 k1 k2 k4 k5 hst
      unfold Two at *
      go_enter Tryz.func28, Tryz.ntmps28
      go_wp2_with fail
      refine (CC.out).mono ?_
      rintro e w1 ⟨rfl, hb1⟩
      obtain ⟨⟨p0, p1, p2, p3, p4⟩, ⟨q0, q1, q2, q3, q4⟩⟩ := (H3 _ hb1).out
      have hB1 := hB0.trans (hb1.mono hs)
      go_wp2_with fail
      refine ((CI _ hB1).out).mono ?_
      rintro e w2 ⟨rfl, hb2⟩
      go_wp2
      go_ret2
      exact ⟨rfl, hB1.trans (hb2.mono hB1.size)⟩
    · rw [if_neg h1]
      have CI := fun W (hW : Below w.heap.size w W) => Lib.hid (isLess_lit (decide_eq_false h1) W (hst.next hW) hh hm k2 k4)
      by_cases h2 : Fr.rat k.data.toList < Fr.rat l.data.toList
      · rw [if_pos h2]
        have CJ := fun W (hW : Below w.heap.size w W) => Lib.hid (isLess_lit (decide_eq_true h2) W (hst.next hW) hk hl k5 k1)
        clear h1 h2 k1 k2 k4 k5 hst
        unfold Two at *
        go_enter Tryz.func28, Tryz.ntmps28
        go_wp2_with fail
        refine (CC.out).mono ?_
        rintro e w1 ⟨rfl, hb1⟩
        obtain ⟨P, Q⟩ := (H3 _ hb1).out
        obtain ⟨p0, p1, p2, p3, p4⟩ := id P
        obtain ⟨q0, q1, q2, q3, q4⟩ := id Q
        have HP := Lib.hid P
        have HQ := Lib.hid Q
        clear P Q
        have hB1 := hB0.trans (hb1.mono hs)
        go_wp2_with fail
        refine ((CI _ hB1).out).mono ?_
        rintro e w2 ⟨rfl, hb2⟩
        obtain ⟨r0, r1, r2, r3, r4⟩ := HP.out.below hb2
        obtain ⟨s0, s1, s2, s3, s4⟩ := HQ.out.below hb2
        have hB2 := hB1.trans (hb2.mono hB1.size)
        go_wp2_with fail
        refine ((CJ _ hB2).out).mono ?_
        rintro e w3 ⟨rfl, hb3⟩
        go_wp2
        go_ret2
        exact ⟨rfl, hB2.trans (hb3.mono hB2.size)⟩
      · rw [if_neg h2]
        have CJ := fun W (hW : Below w.heap.size w W) => Lib.hid (isLess_lit (decide_eq_false h2) W (hst.next hW) hk hl k5 k1)
        clear h1 h2 k1 k2 k4 k5 hst
        unfold Two at *
        go_enter Tryz.func28, Tryz.ntmps28
        go_wp2_with fail
        refine (CC.out).mono ?_
        rintro e w1 ⟨rfl, hb1⟩
        obtain ⟨P, Q⟩ := (H3 _ hb1).out
        obtain ⟨p0, p1, p2, p3, p4⟩ := id P
        obtain ⟨q0, q1, q2, q3, q4⟩ := id Q
        have HP := Lib.hid P
        have HQ := Lib.hid Q
        clear P Q
        have hB1 := hB0.trans (hb1.mono hs)
        go_wp2_with fail
        refine ((CI _ hB1).out).mono ?_
        rintro e w2 ⟨rfl, hb2⟩
        obtain ⟨r0, r1, r2, r3, r4⟩ := HP.out.below hb2
        obtain ⟨s0, s1, s2, s3, s4⟩ := HQ.out.below hb2
        have hB2 := hB1.trans (hb2.mono hB1.size)
        go_wp2_with fail
        refine ((CJ _ hB2).out).mono ?_
        rintro e w3 ⟨rfl, hb3⟩
        go_wp2
        go_ret2
        exact ⟨rfl, hB2.trans (hb3.mono hB2.size)⟩
  · rw [if_pos h0]
    have hne : (chk2 l h m k != 0) = true := by simpa using h0
    generalize chk2 l h m k = c at *
    clear h0 hst
    unfold Two at *
    go_enter Tryz.func28, Tryz.ntmps28
    go_wp2_with fail
    refine (CC.out).mono ?_
    rintro e w1 ⟨rfl, hb1⟩
    go_wp2
    go_ret2
    exact ⟨rfl, hB0.trans (hb1.mono hs)⟩

end Go.Proofs.YtldclpdmcopgnaaGreatDoor

