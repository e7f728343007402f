/- slices.Compact at edges. -/
import Derived.Test.YtkjhockppkdakaaDy
import Derived.Lib.SlicesCompact
import Derived.Lib.SliceRun
namespace De
theorem gd (d : Array (Nat × Nat)) (i : Nat) : d.toList.getD i (0, 0) = d[i]! := by
  rw [List.getD_eq_getElem?_getD]
  simp [getElem!_def]
  cases d[i]? <;> rfl
end De
namespace Go.Proofs.Ytkjhockppkdakaa
open Go.RowKit Go.Shelf Go.Lib

theorem eqE (a b c d : Int) (w : World) : (Op.equalIn 10000 60 (.agg #[.int .i64 a, .int .i64 b]) (.agg #[.int .i64 c, .int .i64 d])).run Try.prog w = .ok (a == c && b == d) w := by
  have u3 := Try.underlying3
  have a3 := Try.isAgg3
  have z3 := Try.sizeOf3
  rw [show (10000 : Nat) = 9999 + 1 from rfl, Op.equalIn]
  simp only [Sem.run_bind, run_underlying Try.underlying60, Result.andThen_ok]
  go_simp
  by_cases h1 : a = c <;> by_cases h2 : b = d <;> simp [h1, h2]

theorem setCells_low (b : Nat) : ∀ (xs : List Value) (w : World) (o j : Nat), j < o → (w.setCells b o xs).cell? ⟨b, j, none⟩ = w.cell? ⟨b, j, none⟩
  | [], _, _, _, _ => rfl
  | x :: r, w, o, j, h => by
    rw [World.setCells, setCells_low b r _ (o + 1) j (by omega), World.cell?_setCell_other (w := w) (v := x) (a := ⟨b, o, none⟩) (b := ⟨b, j, none⟩) (fun e => by have := congrArg Addr.off e; simp at this; omega)]
theorem setCells_grown (b : Nat) : ∀ (xs : List Value) (w : World) (o : Nat), w.grownBy (w.setCells b o xs) (some b)
  | [], w, _ => ⟨rfl, rfl, rfl, Nat.le_refl _, fun _ _ _ => rfl⟩
  | x :: r, w, o => by
    rw [World.setCells]
    exact grown_trans (grown_set (grown_refl w _)) (setCells_grown b r _ (o + 1))
theorem run_clear_edge (w : World) (ty : TypeId) (b o n c : Nat) (hn : 0 < n)
    (hc : ∀ j, j < n * 2 → (w.cell? ⟨b, o + j, none⟩).isSome = true) (hf : ∀ j, j < n * 2 → w.frozen? ⟨b, o + j, none⟩ = false) :
    (Builtin.clear_ #[22] ty #[.slice (some ⟨b, o, none⟩) n c]).run Try.prog w = .ok (.tuple #[]) (w.setCells b o (List.replicate (n * 2) (.int .i64 0))) := by
  have hzc : (Builtin.zeroCells #[.int .i64 0, .int .i64 0] n).toList = List.replicate (n * 2) (Value.int .i64 0) := by
    simp [Builtin.zeroCells]
    apply List.ext_getElem
    · simp
    · intro i h1 h2
      rcases (show i % 2 = 0 ∨ i % 2 = 1 by omega) with e | e <;> simp [e]
  have hst := run_storeCells_cells (P := Try.prog) b o (List.replicate (n * 2) (Value.int .i64 0)) 0 w (by simpa using hc) (by simpa using hf) (by intro v hv'; rw [List.eq_of_mem_replicate hv']; rfl)
  simp only [Nat.add_zero] at hst
  have hv : ∀ w, (zeroValue 60).run Try.prog w = .ok (.agg #[.int .i64 0, .int .i64 0]) w := fun w => by kernel_rfl
  have hzz : (Value.agg #[.int .i64 0, .int .i64 0]).cells = #[.int .i64 0, .int .i64 0] := rfl
  obtain ⟨m, rfl⟩ : ∃ m, n = m + 1 := ⟨n - 1, by omega⟩
  simp [Builtin.clear_, run_underlying Try.underlying22, hv, hzz, hzc, hst]
end Go.Proofs.Ytkjhockppkdakaa
