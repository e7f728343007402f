/- The contracts of least and greatest of package enclosure, for one text more. -/
import Derived.Test.YtldclpdmcopgnaaGreatDoorEh
namespace Go.Proofs.YtldclpdmcopgnaaGreatDoor
open Go.RowKit

/-- A list of one text. -/
def One (W : World) (g : Nat) (t : ByteArray) : Prop := g < W.heap.size ∧ W.cell? ⟨g, 0, none⟩ = some (.string t)
theorem One.below {W W' : World} {g : Nat} {t : ByteArray} (h : One W g t) {B : Nat} (hB : g < B) (hb : Below B W W') : One W' g t :=
  ⟨Nat.lt_of_lt_of_le h.1 hb.size, (hb.cell (p := ⟨g, 0, none⟩) hB).trans h.2⟩
theorem one_new (w : World) (t : ByteArray) (T : TypeId) : One (w.alloc (.cells #[.string t] T)) w.heap.size t := by unfold One; simp

def greatB (s t : ByteArray) : ByteArray := if Fr.rat s.data.toList < Fr.rat t.data.toList then t else s
def leastB (s t : ByteArray) : ByteArray := if Fr.rat t.data.toList < Fr.rat s.data.toList then t else s

set_option maxRecDepth 100000 in
set_option maxHeartbeats 1000000 in
theorem greatest_one (s t : ByteArray) (g : Nat) (w : World) (hst : St w) (hg : One w g t) (hs : s.size ≤ 800) (ht : t.size ≤ 800) (k1 : Fr.chk s.data.toList = 0) (k2 : Fr.chk t.data.toList = 0) :
    Calls Tryz.prog 57 #[.string s, .slice (some ⟨g, 0, none⟩) 1 1] w fun e w' => e = .returned (.string (greatB s t)) ∧ Below w.heap.size w w' := by
  have g0 := hg.1
  have g1 := hg.2
  unfold greatB
  by_cases h1 : Fr.rat s.data.toList < Fr.rat t.data.toList
  · rw [if_pos h1]
    have CI := fun W (hW : Below w.heap.size w W) => Lib.hid (isLess_lit (decide_eq_true h1) W (hst.next hW) hs ht k1 k2)
    clear h1 k1 k2 hst hg
    go_enter Tryz.func57, Tryz.ntmps57
    go_wp2
    go_loopw [9, 0] (fun u9 u0 wr => ∃ j : Nat, j ≤ 1 ∧ u9 = .int .i64 j ∧ u0 = .string (if j = 0 then s else t) ∧ Below w.heap.size w wr ∧ (j = 0 → wr = w)) (fun u9 _ _ => 1 - (intOf u9).toNat)
    case atStart => exact ⟨0, by omega, rfl, rfl, Below.refl _ _, fun _ => rfl⟩
    case round =>
      obtain ⟨j, hj, rfl, rfl, hbel, hj0⟩ := hrel
      have hj3 : j = 0 ∨ j = 1 := by omega
      rcases hj3 with rfl | rfl
      · obtain rfl := hj0 rfl
        rw [if_pos rfl]
        clear hj0
        go_wp2_with fail
        refine ((CI _ hbel).out).mono ?_
        rintro e w1 ⟨rfl, hb1⟩
        go_wp2
        go_roundw
        case rel => exact ⟨1, by omega, by go_num, rfl, hb1, fun h => by cases h⟩
        case measure => simp [intOf]
      · rw [if_neg (by decide)]
        clear hj0
        go_wp2
        go_ret
        exact ⟨rfl, hbel⟩
  · rw [if_neg h1]
    have CI := fun W (hW : Below w.heap.size w W) => Lib.hid (isLess_lit (decide_eq_false h1) W (hst.next hW) hs ht k1 k2)
    clear h1 k1 k2 hst hg
    go_enter Tryz.func57, Tryz.ntmps57
    go_wp2
    go_loopw [9, 0] (fun u9 u0 wr => ∃ j : Nat, j ≤ 1 ∧ u9 = .int .i64 j ∧ u0 = .string s ∧ Below w.heap.size w wr ∧ (j = 0 → wr = w)) (fun u9 _ _ => 1 - (intOf u9).toNat)
    case atStart => exact ⟨0, by omega, rfl, rfl, Below.refl _ _, fun _ => rfl⟩
    case round =>
      obtain ⟨j, hj, rfl, rfl, hbel, hj0⟩ := hrel
      have hj3 : j = 0 ∨ j = 1 := by omega
      rcases hj3 with rfl | rfl
      · obtain rfl := hj0 rfl
        clear hj0
        go_wp2_with fail
        refine ((CI _ hbel).out).mono ?_
        rintro e w1 ⟨rfl, hb1⟩
        go_wp2
        go_roundw
        case rel => exact ⟨1, by omega, by go_num, rfl, hb1, fun h => by cases h⟩
        case measure => simp [intOf]
      · clear hj0
        go_wp2
        go_ret
        exact ⟨rfl, hbel⟩

set_option maxRecDepth 100000 in
set_option maxHeartbeats 1000000 in
theorem least_one (s t : ByteArray) (g : Nat) (w : World) (hst : St w) (hg : One w g t) (hs : s.size ≤ 800) (ht : t.size ≤ 800) (k1 : Fr.chk s.data.toList = 0) (k2 : Fr.chk t.data.toList = 0) :
    Calls Tryz.prog 58 #[.string s, .slice (some ⟨g, 0, none⟩) 1 1] w fun e w' => e = .returned (.string (leastB s t)) ∧ Below w.heap.size w w' := by
  have g0 := hg.1
  have g1 := hg.2
  unfold leastB
  by_cases h1 : Fr.rat t.data.toList < Fr.rat s.data.toList
  · rw [if_pos h1]
    have CI := fun W (hW : Below w.heap.size w W) => Lib.hid (isLess_lit (decide_eq_true h1) W (hst.next hW) ht hs k2 k1)
    clear h1 k1 k2 hst hg
    go_enter Tryz.func58, Tryz.ntmps58
    go_wp2
    go_loopw [9, 0] (fun u9 u0 wr => ∃ j : Nat, j ≤ 1 ∧ u9 = .int .i64 j ∧ u0 = .string (if j = 0 then s else t) ∧ Below w.heap.size w wr ∧ (j = 0 → wr = w)) (fun u9 _ _ => 1 - (intOf u9).toNat)
    case atStart => exact ⟨0, by omega, rfl, rfl, Below.refl _ _, fun _ => rfl⟩
    case round =>
      obtain ⟨j, hj, rfl, rfl, hbel, hj0⟩ := hrel
      have hj3 : j = 0 ∨ j = 1 := by omega
      rcases hj3 with rfl | rfl
      · obtain rfl := hj0 rfl
        rw [if_pos rfl]
        clear hj0
        go_wp2_with fail
        refine ((CI _ hbel).out).mono ?_
        rintro e w1 ⟨rfl, hb1⟩
        go_wp2
        go_roundw
        case rel => exact ⟨1, by omega, by go_num, rfl, hb1, fun h => by cases h⟩
        case measure => simp [intOf]
      · rw [if_neg (by decide)]
        clear hj0
        go_wp2
        go_ret
        exact ⟨rfl, hbel⟩
  · rw [if_neg h1]
    have CI := fun W (hW : Below w.heap.size w W) => Lib.hid (isLess_lit (decide_eq_false h1) W (hst.next hW) ht hs k2 k1)
    clear h1 k1 k2 hst hg
    go_enter Tryz.func58, Tryz.ntmps58
    go_wp2
    go_loopw [9, 0] (fun u9 u0 wr => ∃ j : Nat, j ≤ 1 ∧ u9 = .int .i64 j ∧ u0 = .string s ∧ Below w.heap.size w wr ∧ (j = 0 → wr = w)) (fun u9 _ _ => 1 - (intOf u9).toNat)
    case atStart => exact ⟨0, by omega, rfl, rfl, Below.refl _ _, fun _ => rfl⟩
    case round =>
      obtain ⟨j, hj, rfl, rfl, hbel, hj0⟩ := hrel
      have hj3 : j = 0 ∨ j = 1 := by omega
      rcases hj3 with rfl | rfl
      · obtain rfl := hj0 rfl
        clear hj0
        go_wp2_with fail
        refine ((CI _ hbel).out).mono ?_
        rintro e w1 ⟨rfl, hb1⟩
        go_wp2
        go_roundw
        case rel => exact ⟨1, by omega, by go_num, rfl, hb1, fun h => by cases h⟩
        case measure => simp [intOf]
      · clear hj0
        go_wp2
        go_ret
        exact ⟨rfl, hbel⟩

end Go.Proofs.YtldclpdmcopgnaaGreatDoor

