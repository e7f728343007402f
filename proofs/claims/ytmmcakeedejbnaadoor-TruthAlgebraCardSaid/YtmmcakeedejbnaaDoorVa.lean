/- The closures of the statement TruthAlgebra. -/
import Derived.Test.YtmmcakeedejbnaaDoorUz
import Derived.OneCell
namespace Go.Proofs.YtmmcakeedejbnaaDoor
open Go.RowKit

/-- A variable of one cell that is written what it holds. -/
theorem below_same {w : World} {S : Nat} {v : Value} {t : TypeId} (hc : w.heap[S]? = some (.cells #[v] t (0, 0))) (B : Nat) : Below B w (w.setCell ⟨S, 0, none⟩ v) := by
  refine ⟨rfl, rfl, rfl, by simp [World.setCell], fun k _ => ?_⟩
  by_cases hk : k = S
  · subst hk; rw [one_setCell hc, hc]
  · show (w.heap.modify S _)[k]? = _
    rw [Array.getElem?_modify]
    simp [Ne.symm hk]
/-- No error so far. -/
def Fine (S : Nat) (w : World) : Prop := w.heap[S]? = some (.cells #[.bool false] 4 (0, 0))
theorem Fine.next {S : Nat} {w w' : World} (h : Fine S w) (hb : Below w.heap.size w w') : Fine S w' := (hb.block S (lt_of_block h)).trans h
theorem Fine.boxn {S : Nat} {w w' : World} {o : Obj} (h : Fine S w) (hb : Below (w.alloc o).heap.size (w.alloc o) w') : Fine S w' :=
  (h.next ((Below.refl _ _).alloc (Nat.le_refl _) o)).next hb
theorem Fine.lt {S : Nat} {w : World} (h : Fine S w) : S < w.heap.size := lt_of_block h

set_option maxRecDepth 100000 in
theorem algAnd_any (n : Int) (x y v : Nat) (S : Nat) (w : World) (hm : Fine S w)
    (CA : ∀ W, Calls Tryd.prog 25 #[.agg #[.int .i64 n, .int .u64 x], .agg #[.int .i64 n, .int .u64 y]] W fun e w' => e = .returned (.tuple #[.agg #[.int .i64 n, .int .u64 v], .int .i64 0]) ∧ Below W.heap.size W w') :
    Calls Tryd.prog 43 #[.func (.func 25) #[] #[], .agg #[.int .i64 n, .int .u64 x], .agg #[.int .i64 n, .int .u64 y], .pointer (some ⟨S, 0, none⟩)] w fun e w' => e = .returned (.agg #[.int .i64 n, .int .u64 v]) ∧ Below w.heap.size w w' := by
  have CC := fun W => Lib.hid (CA W)
  clear CA
  obtain ⟨P0, P1, P2, L0, z0⟩ := tab3_new w n x n y 0 0 24
  have HM := Lib.hid (fun W (hW : Below w.heap.size w W) => hm.next hW)
  have hSw := hm.lt
  clear hm
  go_enter Tryd.func43, Tryd.ntmps43
  go_wp2_with fail
  refine ((CC _).out).mono ?_
  rintro e w1 ⟨rfl, hb⟩
  have zb := hb.size
  simp at zb
  have V1 := P2.below (by simp <;> omega) hb
  have hB := L0.trans (hb.mono (by simp <;> omega))
  have F1 := HM.out w1 hB
  have c0 := cell_of_one F1
  have f0 := free_of_one F1
  have hS1 : S < w1.heap.size := by omega
  clear hb P0
  obtain ⟨a0, a1, a2, a3, a4⟩ := id V1
  have hB3 := hB.trans (below_same F1 w.heap.size)
  have hw2 : w.heap.size + 3 ≤ w1.heap.size := by omega
  have HF := Lib.hid F1
  have HB := Lib.hid hB3
  clear F1 hB hB3
  go_wp2
  refine bodyPost_ret (v := .agg #[.int .i64 n, .int .u64 v]) ?_ rfl ⟨rfl, (HB.out.setCell (p := ⟨w.heap.size + 2, 0, none⟩) (by show w.heap.size ≤ w.heap.size + 2; omega) _).setCell (p := ⟨w.heap.size + 2, 1, none⟩) (by show w.heap.size ≤ w.heap.size + 2; omega) _ |>.alloc (by simp; omega) _⟩
  have e3 : w.heap.size + 2 < w1.heap.size := by omega
  simp [results, Tryd.results43, go_sem, a1, a2, e3]

set_option maxRecDepth 100000 in
theorem algOr_any (n : Int) (x y v : Nat) (S : Nat) (w : World) (hm : Fine S w)
    (CA : ∀ W, Calls Tryd.prog 27 #[.agg #[.int .i64 n, .int .u64 x], .agg #[.int .i64 n, .int .u64 y]] W fun e w' => e = .returned (.tuple #[.agg #[.int .i64 n, .int .u64 v], .int .i64 0]) ∧ Below W.heap.size W w') :
    Calls Tryd.prog 43 #[.func (.func 27) #[] #[], .agg #[.int .i64 n, .int .u64 x], .agg #[.int .i64 n, .int .u64 y], .pointer (some ⟨S, 0, none⟩)] w fun e w' => e = .returned (.agg #[.int .i64 n, .int .u64 v]) ∧ Below w.heap.size w w' := by
  have CC := fun W => Lib.hid (CA W)
  clear CA
  obtain ⟨P0, P1, P2, L0, z0⟩ := tab3_new w n x n y 0 0 24
  have HM := Lib.hid (fun W (hW : Below w.heap.size w W) => hm.next hW)
  have hSw := hm.lt
  clear hm
  go_enter Tryd.func43, Tryd.ntmps43
  go_wp2_with fail
  refine ((CC _).out).mono ?_
  rintro e w1 ⟨rfl, hb⟩
  have zb := hb.size
  simp at zb
  have V1 := P2.below (by simp <;> omega) hb
  have hB := L0.trans (hb.mono (by simp <;> omega))
  have F1 := HM.out w1 hB
  have c0 := cell_of_one F1
  have f0 := free_of_one F1
  have hS1 : S < w1.heap.size := by omega
  clear hb P0
  obtain ⟨a0, a1, a2, a3, a4⟩ := id V1
  have hB3 := hB.trans (below_same F1 w.heap.size)
  have hw2 : w.heap.size + 3 ≤ w1.heap.size := by omega
  have HF := Lib.hid F1
  have HB := Lib.hid hB3
  clear F1 hB hB3
  go_wp2
  refine bodyPost_ret (v := .agg #[.int .i64 n, .int .u64 v]) ?_ rfl ⟨rfl, (HB.out.setCell (p := ⟨w.heap.size + 2, 0, none⟩) (by show w.heap.size ≤ w.heap.size + 2; omega) _).setCell (p := ⟨w.heap.size + 2, 1, none⟩) (by show w.heap.size ≤ w.heap.size + 2; omega) _ |>.alloc (by simp; omega) _⟩
  have e3 : w.heap.size + 2 < w1.heap.size := by omega
  simp [results, Tryd.results43, go_sem, a1, a2, e3]

set_option maxRecDepth 100000 in
theorem algXor_any (n : Int) (x y v : Nat) (S : Nat) (w : World) (hm : Fine S w)
    (CA : ∀ W, Calls Tryd.prog 29 #[.agg #[.int .i64 n, .int .u64 x], .agg #[.int .i64 n, .int .u64 y]] W fun e w' => e = .returned (.tuple #[.agg #[.int .i64 n, .int .u64 v], .int .i64 0]) ∧ Below W.heap.size W w') :
    Calls Tryd.prog 43 #[.func (.func 29) #[] #[], .agg #[.int .i64 n, .int .u64 x], .agg #[.int .i64 n, .int .u64 y], .pointer (some ⟨S, 0, none⟩)] w fun e w' => e = .returned (.agg #[.int .i64 n, .int .u64 v]) ∧ Below w.heap.size w w' := by
  have CC := fun W => Lib.hid (CA W)
  clear CA
  obtain ⟨P0, P1, P2, L0, z0⟩ := tab3_new w n x n y 0 0 24
  have HM := Lib.hid (fun W (hW : Below w.heap.size w W) => hm.next hW)
  have hSw := hm.lt
  clear hm
  go_enter Tryd.func43, Tryd.ntmps43
  go_wp2_with fail
  refine ((CC _).out).mono ?_
  rintro e w1 ⟨rfl, hb⟩
  have zb := hb.size
  simp at zb
  have V1 := P2.below (by simp <;> omega) hb
  have hB := L0.trans (hb.mono (by simp <;> omega))
  have F1 := HM.out w1 hB
  have c0 := cell_of_one F1
  have f0 := free_of_one F1
  have hS1 : S < w1.heap.size := by omega
  clear hb P0
  obtain ⟨a0, a1, a2, a3, a4⟩ := id V1
  have hB3 := hB.trans (below_same F1 w.heap.size)
  have hw2 : w.heap.size + 3 ≤ w1.heap.size := by omega
  have HF := Lib.hid F1
  have HB := Lib.hid hB3
  clear F1 hB hB3
  go_wp2
  refine bodyPost_ret (v := .agg #[.int .i64 n, .int .u64 v]) ?_ rfl ⟨rfl, (HB.out.setCell (p := ⟨w.heap.size + 2, 0, none⟩) (by show w.heap.size ≤ w.heap.size + 2; omega) _).setCell (p := ⟨w.heap.size + 2, 1, none⟩) (by show w.heap.size ≤ w.heap.size + 2; omega) _ |>.alloc (by simp; omega) _⟩
  have e3 : w.heap.size + 2 < w1.heap.size := by omega
  simp [results, Tryd.results43, go_sem, a1, a2, e3]

set_option maxRecDepth 100000 in
theorem algNot_any (n : Int) (x v : Nat) (S : Nat) (w : World) (hm : Fine S w)
    (CA : ∀ W, Calls Tryd.prog 23 #[.agg #[.int .i64 n, .int .u64 x]] W fun e w' => e = .returned (.tuple #[.agg #[.int .i64 n, .int .u64 v], .int .i64 0]) ∧ Below W.heap.size W w') :
    Calls Tryd.prog 44 #[.agg #[.int .i64 n, .int .u64 x], .pointer (some ⟨S, 0, none⟩)] w fun e w' => e = .returned (.agg #[.int .i64 n, .int .u64 v]) ∧ Below w.heap.size w w' := by
  have CC := fun W => Lib.hid (CA W)
  clear CA
  obtain ⟨P0, P1, L0, z0⟩ := tab2_new w n x 0 0 24
  have HM := Lib.hid (fun W (hW : Below w.heap.size w W) => hm.next hW)
  have hSw := hm.lt
  clear hm
  go_enter Tryd.func44, Tryd.ntmps44
  go_wp2_with fail
  refine ((CC _).out).mono ?_
  rintro e w1 ⟨rfl, hb⟩
  have zb := hb.size
  simp at zb
  have V1 := P1.below (by simp <;> omega) hb
  have hB := L0.trans (hb.mono (by simp <;> omega))
  have F1 := HM.out w1 hB
  have c0 := cell_of_one F1
  have f0 := free_of_one F1
  have hS1 : S < w1.heap.size := by omega
  clear hb P0
  obtain ⟨a0, a1, a2, a3, a4⟩ := id V1
  have hB3 := hB.trans (below_same F1 w.heap.size)
  have hw2 : w.heap.size + 2 ≤ w1.heap.size := by omega
  have HF := Lib.hid F1
  have HB := Lib.hid hB3
  clear F1 hB hB3
  go_wp2
  refine bodyPost_ret (v := .agg #[.int .i64 n, .int .u64 v]) ?_ rfl ⟨rfl, (HB.out.setCell (p := ⟨w.heap.size + 1, 0, none⟩) (by show w.heap.size ≤ w.heap.size + 1; omega) _).setCell (p := ⟨w.heap.size + 1, 1, none⟩) (by show w.heap.size ≤ w.heap.size + 1; omega) _ |>.alloc (by simp; omega) _⟩
  have e3 : w.heap.size + 1 < w1.heap.size := by omega
  simp [results, Tryd.results44, go_sem, a1, a2, e3]

end Go.Proofs.YtmmcakeedejbnaaDoor
