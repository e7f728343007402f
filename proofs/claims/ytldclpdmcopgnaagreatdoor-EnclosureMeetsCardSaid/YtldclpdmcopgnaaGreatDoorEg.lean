/- The contracts of the reference's Sure and Compare. -/
import Derived.Test.YtldclpdmcopgnaaGreatDoorEf
namespace Go.Proofs.YtldclpdmcopgnaaGreatDoor
open Go.RowKit

theorem rOrder_less {l h : ByteArray} (h3 : Fr.rat l.data.toList < Fr.rat h.data.toList) (hl : l.size ≤ 800) (hh : h.size ≤ 800) (h1 : Fr.chk l.data.toList = 0) (h2 : Fr.chk h.data.toList = 0) :
    ∃ c : Int, c < 0 ∧ ∀ W, Hid (Calls Tryz.prog 55 #[.string l, .string h] W fun e w' => e = .returned (.int .i64 c) ∧ Below W.heap.size W w') := by
  refine ⟨_, ?_, fun W => Lib.hid (rOrder_any l h W hl hh h1 h2)⟩
  unfold Fr.cmpQ
  rw [if_pos h3]; decide
theorem rOrder_notLess {l h : ByteArray} (h3 : ¬ Fr.rat l.data.toList < Fr.rat h.data.toList) (hl : l.size ≤ 800) (hh : h.size ≤ 800) (h1 : Fr.chk l.data.toList = 0) (h2 : Fr.chk h.data.toList = 0) :
    ∃ c : Int, 0 ≤ c ∧ ∀ W, Hid (Calls Tryz.prog 55 #[.string l, .string h] W fun e w' => e = .returned (.int .i64 c) ∧ Below W.heap.size W w') := by
  refine ⟨_, ?_, fun W => Lib.hid (rOrder_any l h W hl hh h1 h2)⟩
  unfold Fr.cmpQ
  rw [if_neg h3]
  split <;> decide
theorem two_pairs (w : World) (l h m k : ByteArray) {w1 : World} (hb : Below (Two w l h m k).heap.size (Two w l h m k) w1) : Pair w1 w.heap.size l h ∧ Pair w1 (w.heap.size + 1) m k := by
  obtain ⟨HP, HQ⟩ := pair_next w l h m k 24 24
  exact ⟨HP.below hb, HQ.below hb⟩

def sureV (l h m k : ByteArray) : Int := if Fr.rat h.data.toList < Fr.rat m.data.toList then -1 else if Fr.rat k.data.toList < Fr.rat l.data.toList then 1 else 0

set_option maxRecDepth 100000 in
theorem rSure_any (l h m k : ByteArray) (w : World) (hl : l.size ≤ 800) (hh : h.size ≤ 800) (hm : m.size ≤ 800) (hk : k.size ≤ 800) (k1 : Fr.chk l.data.toList = 0) (k2 : Fr.chk h.data.toList = 0) (k4 : Fr.chk m.data.toList = 0) (k5 : Fr.chk k.data.toList = 0) :
    Calls Tryz.prog 62 #[.agg #[.string l, .string h], .agg #[.string m, .string k]] w fun e w' => e = .returned (.int .i64 (sureV l h m k)) ∧ Below w.heap.size w w' := by
  have hB0 := two_below w l h m k
  have H2 := fun w1 hb => Lib.hid (two_pairs w l h m k (w1 := w1) hb)
  have hs := hB0.size
  unfold sureV
  by_cases h1 : Fr.rat h.data.toList < Fr.rat m.data.toList
  · rw [if_pos h1]
    obtain ⟨c, hc, CI⟩ := rOrder_less h1 hh hm k2 k4
    clear h1 k1 k2 k4 k5
    unfold Two at *
    go_enter Tryz.func62, Tryz.ntmps62
    go_wp2_with fail
    refine ((CI _).out).mono ?_
    rintro e w1 ⟨rfl, hb1⟩
    go_wp2
    go_ret
    exact ⟨rfl, hB0.trans (hb1.mono hs)⟩
  · rw [if_neg h1]
    obtain ⟨c, hc, CI⟩ := rOrder_notLess h1 hh hm k2 k4
    by_cases h2 : Fr.rat k.data.toList < Fr.rat l.data.toList
    · rw [if_pos h2]
      obtain ⟨d, hd, CJ⟩ := rOrder_more h2 hl hk k1 k5
      clear h1 h2 k1 k2 k4 k5
      unfold Two at *
      go_enter Tryz.func62, Tryz.ntmps62
      go_wp2_with fail
      refine ((CI _).out).mono ?_
      rintro e w1 ⟨rfl, hb1⟩
      obtain ⟨⟨p0, p1, p2, p3, p4⟩, ⟨q0, q1, q2, q3, q4⟩⟩ := (H2 _ hb1).out
      have hB1 := hB0.trans (hb1.mono hs)
      go_wp2_with fail
      refine ((CJ _).out).mono ?_
      rintro e w2 ⟨rfl, hb2⟩
      go_wp2
      go_ret
      exact ⟨rfl, hB1.trans (hb2.mono hB1.size)⟩
    · rw [if_neg h2]
      obtain ⟨d, hd, CJ⟩ := rOrder_notMore h2 hl hk k1 k5
      clear h1 h2 k1 k2 k4 k5
      unfold Two at *
      go_enter Tryz.func62, Tryz.ntmps62
      go_wp2_with fail
      refine ((CI _).out).mono ?_
      rintro e w1 ⟨rfl, hb1⟩
      obtain ⟨⟨p0, p1, p2, p3, p4⟩, ⟨q0, q1, q2, q3, q4⟩⟩ := (H2 _ hb1).out
      have hB1 := hB0.trans (hb1.mono hs)
      go_wp2_with fail
      refine ((CJ _).out).mono ?_
      rintro e w2 ⟨rfl, hb2⟩
      go_wp2
      go_ret
      exact ⟨rfl, hB1.trans (hb2.mono hB1.size)⟩

set_option maxRecDepth 100000 in
theorem rCompareE_any (l h m k : ByteArray) (w : World) (hl : l.size ≤ 800) (hh : h.size ≤ 800) (hm : m.size ≤ 800) (hk : k.size ≤ 800) :
    Calls Tryz.prog 29 #[.agg #[.string l, .string h], .agg #[.string m, .string k]] w fun e w' => e = .returned (.tuple #[.int .i64 (cmpV l h m k).1, .int .i64 (cmpV l h m k).2]) ∧ Below w.heap.size w w' := by
  have hB0 := two_below w l h m k
  have H2 := fun w1 hb => Lib.hid (two_pairs w l h m k (w1 := w1) hb)
  have hs := hB0.size
  have CB := fun W => Lib.hid (rbothE_any l h m k W hl hh hm hk)
  by_cases h0 : chk2 l h m k = 0
  · have e0 : cmpV l h m k = (sureV l h m k, 0) := by
      unfold cmpV sureV
      rw [if_neg (by simpa using h0)]
      split
      · rfl
      · split <;> rfl
    rw [e0]
    rw [h0] at CB
    obtain ⟨e1, e2⟩ := chk2_zero h0
    obtain ⟨k1, k2, k3⟩ := chkE_zero e1
    obtain ⟨k4, k5, k6⟩ := chkE_zero e2
    have CS := fun W => Lib.hid (rSure_any l h m k W hl hh hm hk k1 k2 k4 k5)
    generalize sureV l h m k = s at *
    clear h0 e0 e1 e2 k1 k2 k3 k4 k5 k6
    unfold Two at *
    go_enter Tryz.func29, Tryz.ntmps29
    go_wp2_with fail
    refine ((CB _).out).mono ?_
    rintro e w1 ⟨rfl, hb1⟩
    obtain ⟨⟨p0, p1, p2, p3, p4⟩, ⟨q0, q1, q2, q3, q4⟩⟩ := (H2 _ hb1).out
    have hB1 := hB0.trans (hb1.mono hs)
    go_wp2_with fail
    refine ((CS _).out).mono ?_
    rintro e w2 ⟨rfl, hb2⟩
    go_wp2
    go_ret2
    exact ⟨rfl, hB1.trans (hb2.mono hB1.size)⟩
  · have e0 : cmpV l h m k = (0, chk2 l h m k) := if_pos h0
    rw [e0]
    have hne : (chk2 l h m k != 0) = true := by simpa using h0
    generalize chk2 l h m k = c at *
    clear h0 e0
    unfold Two at *
    go_enter Tryz.func29, Tryz.ntmps29
    go_wp2_with fail
    refine ((CB _).out).mono ?_
    rintro e w1 ⟨rfl, hb1⟩
    go_wp2
    go_ret2
    exact ⟨rfl, hB0.trans (hb1.mono hs)⟩

end Go.Proofs.YtldclpdmcopgnaaGreatDoor

