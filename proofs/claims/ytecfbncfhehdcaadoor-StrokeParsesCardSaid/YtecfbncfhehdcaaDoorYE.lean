/- The call of the statement StrokeParses. -/
import Derived.Test.YtecfbncfhehdcaaDoorYD
import Derived.Test.YtecfbncfhehdcaaDoorQZ
import Derived.Test.YtecfbncfhehdcaaDoorRS
namespace Go.Proofs.YtecfbncfhehdcaaDoor
open Go.RowKit
set_option maxHeartbeats 16000000 in
set_option maxRecDepth 100000 in
theorem parses_any (t : ByteArray) (w : World) (hst : StQ w) : Calls Tryd.prog 3 #[.string t] w fun e w' => e = .returned (.bool true) ∧ Below w.heap.size w w' := by
  have HST := Lib.hid hst
  clear hst
  by_cases hout : (800 < t.size ∧ t.size ≤ 4096) ∨ 8192 < t.size
  · have hway : (decide (800 < (t.size : Int)) = true ∧ decide ((t.size : Int) ≤ 4096) = true) ∨ (decide (800 < (t.size : Int)) = true ∧ decide ((t.size : Int) ≤ 4096) = false ∧ decide (8192 < (t.size : Int)) = true) := by
      rcases hout with ⟨h1, h2⟩ | h1
      · exact .inl ⟨decide_eq_true (by omega), decide_eq_true (by omega)⟩
      · exact .inr ⟨decide_eq_true (by omega), decide_eq_false (by omega), decide_eq_true (by omega)⟩
    clear hout
    rcases hway with ⟨h1, h2⟩ | ⟨h1, h2, h3⟩
    all_goals
      go_enter Tryd.func3, Tryd.ntmps3
      go_wp2_with fail
      refine (awake_any _ HST.out).mono ?_
      rintro e wz ⟨rfl, hbz⟩
      have HBz := Lib.hid hbz
      clear hbz
      go_wp2
      go_ret
      exact ⟨rfl, HBz.out⟩
  · have hz : t.size ≤ 8192 := by omega
    have hway : (decide (800 < (t.size : Int)) = false ∧ decide (8192 < (t.size : Int)) = false) ∨ (decide (800 < (t.size : Int)) = true ∧ decide ((t.size : Int) ≤ 4096) = false ∧ decide (8192 < (t.size : Int)) = false) := by
      by_cases h : 800 < t.size
      · exact .inr ⟨decide_eq_true (by omega), decide_eq_false (by omega), decide_eq_false (by omega)⟩
      · exact .inl ⟨decide_eq_false (by omega), decide_eq_false (by omega)⟩
    obtain ⟨L, k, m, hp⟩ : ∃ L k m, Sk.parV t.data.toList = (L, k, m) := ⟨_, _, _, rfl⟩
    have C1 : ∀ W, StQ W → Hid (Calls Tryd.prog 12 #[.string t] W fun e w' => ∃ ao cap, e = .returned (.tuple #[.slice ao L.length cap, .int .i64 k, .int .i64 m]) ∧ SeeT w' (.slice ao L.length cap) L ∧ Below W.heap.size W w') := fun W h => Lib.hid (by have g := sPar_any t W h; rw [hp] at g; exact g)
    have C2 : ∀ W, Hid (Calls Tryd.prog 13 #[.string t] W fun e w' => ∃ ao cap, e = .returned (.tuple #[.slice ao L.length cap, .int .i64 k, .int .i64 m]) ∧ SeeT w' (.slice ao L.length cap) L ∧ Below W.heap.size W w') := fun W => Lib.hid (by have g := rPar_any t W hz; rw [hp] at g; exact g)
    have C3 : ∀ W v v2, SeeT W v L → SeeT W v2 L → Hid (Calls Tryd.prog 14 #[v, v2] W fun e w' => e = .returned (.bool true) ∧ Below W.heap.size W w') := fun W v v2 h g => Lib.hid (by have q := rSmT_any v v2 L L W h g; rw [decide_eq_true rfl] at q; exact q)
    have hkk : (k == k) = true := by simp
    have hmm : (m == m) = true := by simp
    clear hout hz hp
    rcases hway with ⟨h1, h3⟩ | ⟨h1, h2, h3⟩
    all_goals
      go_enter Tryd.func3, Tryd.ntmps3
      go_wp2_with fail
      refine ((C1 _ HST.out).out).mono ?_
      rintro e w1 ⟨ao, cap, rfl, hs, hb⟩
      have HB1 := Lib.hid hb
      have HS1 := Lib.hid hs
      clear hb hs
      go_wp2_with fail
      refine ((C2 _).out).mono ?_
      rintro e w2 ⟨bo, bcap, rfl, hs, hb⟩
      have HB2 := Lib.hid (below_nxt HB1.out hb)
      have HS2 := Lib.hid hs
      have HS3 := Lib.hid (HS1.out.step hb)
      clear hb hs
      go_wp2_with fail
      refine ((C3 _ _ _ HS3.out HS2.out).out).mono ?_
      rintro e w3 ⟨rfl, hb⟩
      have HB3 := Lib.hid (below_nxt HB2.out hb)
      clear hb
      go_wp2_with fail
      refine (awake_any _ (HST.out.step HB3.out)).mono ?_
      rintro e wz ⟨rfl, hbz⟩
      have HBz := Lib.hid (below_nxt HB3.out hbz)
      clear hbz
      go_wp2
      go_ret
      exact ⟨rfl, HBz.out⟩
theorem parsesC (t : ByteArray) (w : World) (hst : StQ w) (_ : t.size ≤ 9223372036854775807) : Calls Tryd.prog 3 #[.string t] w fun e w' => e = .returned (.bool true) ∧ Below w.heap.size w w' := parses_any t w hst
end Go.Proofs.YtecfbncfhehdcaaDoor
