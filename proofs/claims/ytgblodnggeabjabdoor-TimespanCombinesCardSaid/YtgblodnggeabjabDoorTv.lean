/- The contracts of right; the call of the statement TimespanAgrees. -/
import Derived.Test.YtgblodnggeabjabDoorTo
namespace Tm
theorem limV_good {l h : Int} (h0 : h ≤ 1000000) : limV l h = ((l, h), 0) := by unfold limV; rw [if_neg (by omega)]
theorem limV_bad {l h : Int} (h0 : 1000000 < h) : limV l h = ((0, 0), 11) := by unfold limV; rw [if_pos h0]
/-- Right spans that add up to a span. -/
def Right (l h m k : Int) : Prop := 0 ≤ l ∧ l ≤ h ∧ 0 ≤ m ∧ m ≤ k ∧ h + k ≤ 1000000
theorem add_cases (l h m k : Int) : (Right l h m k ∧ addV l h m k = ((l + m, h + k), 0) ∧ chk2 l h m k = 0) ∨ (¬ Right l h m k ∧ ¬ (addV l h m k).2 = 0) := by
  unfold addV
  by_cases hc : chk2 l h m k = 0
  · obtain ⟨⟨a1, a2, a3⟩, b1, b2, b3⟩ := chk2_zero hc
    rw [if_pos hc]
    by_cases h0 : h + k ≤ 1000000
    · exact .inl ⟨⟨a1, a2, b1, b2, h0⟩, limV_good h0, hc⟩
    · exact .inr ⟨fun h => h0 h.2.2.2.2, by rw [limV_bad (by omega)]; simp⟩
  · rw [if_neg hc]
    refine .inr ⟨?_, hc⟩
    rintro ⟨a1, a2, b1, b2, h0⟩
    apply hc
    have e1 : chk l h = 0 := chk_zero.2 ⟨a1, a2, by omega⟩
    have e2 : chk m k = 0 := chk_zero.2 ⟨b1, b2, by omega⟩
    unfold chk2
    rw [if_pos e1, e2]
theorem chk2_of {l h m k : Int} (a : 0 ≤ l ∧ l ≤ h ∧ h ≤ 1000000) (b : 0 ≤ m ∧ m ≤ k ∧ k ≤ 1000000) : chk2 l h m k = 0 := by
  unfold chk2; rw [if_pos (chk_zero.2 a)]; exact chk_zero.2 b
theorem great_less (x y : Int) : less x y + great x y = x + y := by unfold great less; split <;> split <;> omega
theorem great_ge (x y : Int) : x ≤ great x y ∧ y ≤ great x y ∧ (great x y = x ∨ great x y = y) := by unfold great; split <;> omega
theorem less_le (x y : Int) : less x y ≤ x ∧ less x y ≤ y ∧ (less x y = x ∨ less x y = y) := by unfold less; split <;> omega
end Tm
namespace Go.Proofs.YtgblodnggeabjabDoor
open Go.RowKit

set_option maxRecDepth 100000 in
theorem right_any (l h m k : Int) (w : World) (b : Bool) (hb : b = decide ((Tm.addV l h m k).2 = 0)) :
    Calls Tryd.prog 38 #[.agg #[.int .i64 l, .int .i64 h], .agg #[.int .i64 m, .int .i64 k]] w fun e w' => e = .returned (.bool b) ∧ Below w.heap.size w w' := by
  have C := fun W => Lib.hid (rAdd_any l h m k W)
  generalize Tm.addV l h m k = r at *
  obtain ⟨⟨x, y⟩, z⟩ := r
  simp only [] at C hb
  have hB0 := w2_below w l h m k
  unfold W2 at *
  have HB := Lib.hid hb
  clear hb
  go_enter Tryd.func38, Tryd.ntmps38
  go_wp2_with fail
  refine ((C _).out).mono ?_
  rintro e w1 ⟨rfl, hb1⟩
  have hB1 := hB0.trans (hb1.mono hB0.size)
  go_wp2
  go_ret
  refine ⟨ret_bool ?_, hB1.alloc hB1.size _⟩
  rw [HB.out]
  rfl

end Go.Proofs.YtgblodnggeabjabDoor
