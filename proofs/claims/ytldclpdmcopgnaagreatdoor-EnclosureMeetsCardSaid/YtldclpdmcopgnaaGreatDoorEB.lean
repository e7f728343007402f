/- The examples of the chapter on enclosures, reckoned. -/
import Derived.Test.YtldclpdmcopgnaaGreatDoorEA
namespace Go.Proofs.YtldclpdmcopgnaaGreatDoor
theorem x_mulL : mulL ⟨#[45, 50]⟩ ⟨#[51]⟩ ⟨#[53]⟩ ⟨#[55]⟩ = ([45, 49, 52], 0) := by decide +kernel
theorem x_mulH : mulH ⟨#[45, 50]⟩ ⟨#[51]⟩ ⟨#[53]⟩ ⟨#[55]⟩ = ([50, 49], 0) := by decide +kernel
theorem x_chk : chk2 ⟨#[45, 50]⟩ ⟨#[51]⟩ ⟨#[53]⟩ ⟨#[55]⟩ = 0 := by decide +kernel
theorem x_div1 : divO ⟨#[55]⟩ = ([49, 47, 55], 0) := by decide +kernel
theorem x_div2 : divO ⟨#[53]⟩ = ([49, 47, 53], 0) := by decide +kernel
theorem x_chk2 : chk2 ⟨#[45, 50]⟩ ⟨#[51]⟩ ⟨#[49, 47, 55]⟩ ⟨#[49, 47, 53]⟩ = 0 := by decide +kernel
theorem x_divL : mulL ⟨#[45, 50]⟩ ⟨#[51]⟩ ⟨#[49, 47, 55]⟩ ⟨#[49, 47, 53]⟩ = ([45, 50, 47, 53], 0) := by decide +kernel
theorem x_divH : mulH ⟨#[45, 50]⟩ ⟨#[51]⟩ ⟨#[49, 47, 55]⟩ ⟨#[49, 47, 53]⟩ = ([51, 47, 53], 0) := by decide +kernel
theorem x_sq : Fr.chkE [45, 50] [51] = 0 := by decide +kernel
theorem x_near : mulO (nearB ⟨#[45, 50]⟩ ⟨#[51]⟩) (nearB ⟨#[45, 50]⟩ ⟨#[51]⟩) = ([48], 0) := by decide +kernel
theorem x_far : mulO (farB ⟨#[45, 50]⟩ ⟨#[51]⟩) (farB ⟨#[45, 50]⟩ ⟨#[51]⟩) = ([57], 0) := by decide +kernel
theorem x_great : greatB ⟨#[49, 47, 50]⟩ ⟨#[50, 47, 51]⟩ = ⟨#[50, 47, 51]⟩ := by decide +kernel
theorem x_least : leastB ⟨#[50, 47, 51]⟩ ⟨#[49]⟩ = ⟨#[50, 47, 51]⟩ := by decide +kernel
theorem x_chk3 : chk2 ⟨#[49, 47, 50]⟩ ⟨#[50, 47, 51]⟩ ⟨#[50, 47, 51]⟩ ⟨#[49]⟩ = 0 := by decide +kernel
theorem x_chk4 : chk2 ⟨#[49, 47, 50]⟩ ⟨#[50, 47, 51]⟩ ⟨#[51, 47, 52]⟩ ⟨#[49]⟩ = 0 := by decide +kernel
theorem x_cmp1 : cmpV ⟨#[49, 47, 50]⟩ ⟨#[50, 47, 51]⟩ ⟨#[51, 47, 52]⟩ ⟨#[49]⟩ = (-1, 0) := by decide +kernel
theorem x_cmp2 : cmpV ⟨#[49, 47, 50]⟩ ⟨#[50, 47, 51]⟩ ⟨#[50, 47, 51]⟩ ⟨#[49]⟩ = (0, 0) := by decide +kernel
open Go.RowKit
theorem x_mul (w : World) (hst : St w) : Calls Tryz.prog 34 #[.agg #[.string ⟨#[45, 50]⟩, .string ⟨#[51]⟩], .agg #[.string ⟨#[53]⟩, .string ⟨#[55]⟩]] w fun e w' => e = .returned (.tuple #[.agg #[.string ⟨#[45, 49, 52]⟩, .string ⟨#[50, 49]⟩], .int .i64 0]) ∧ Below w.heap.size w w' := by
  have h := eMul_any ⟨#[45, 50]⟩ ⟨#[51]⟩ ⟨#[53]⟩ ⟨#[55]⟩ w hst (by decide) (by decide) (by decide) (by decide)
  unfold EndsPost endsP endsE at h
  rw [x_chk, if_pos rfl, if_pos rfl, x_mulL, x_mulH] at h
  exact h
theorem x_div (w : World) (hst : St w) : Calls Tryz.prog 36 #[.agg #[.string ⟨#[45, 50]⟩, .string ⟨#[51]⟩], .agg #[.string ⟨#[53]⟩, .string ⟨#[55]⟩]] w fun e w' => e = .returned (.tuple #[.agg #[.string ⟨#[45, 50, 47, 53]⟩, .string ⟨#[51, 47, 53]⟩], .int .i64 0]) ∧ Below w.heap.size w w' := by
  have h := eDiv_pos ⟨#[45, 50]⟩ ⟨#[51]⟩ ⟨#[53]⟩ ⟨#[55]⟩ ⟨#[49, 47, 55]⟩ ⟨#[49, 47, 53]⟩ w hst (by decide) (by decide) (by decide) (by decide) x_chk (by decide +kernel) (by decide +kernel) (by rw [x_div1, x_div2]; rfl) (by rw [x_div1, x_div2]; rfl) (by decide) (by decide)
  unfold EndsPost endsP endsE at h
  rw [x_chk2, if_pos rfl, if_pos rfl, x_divL, x_divH] at h
  exact h
theorem x_square (w : World) (hst : St w) : Calls Tryz.prog 38 #[.agg #[.string ⟨#[45, 50]⟩, .string ⟨#[51]⟩]] w fun e w' => e = .returned (.tuple #[.agg #[.string ⟨#[48]⟩, .string ⟨#[57]⟩], .int .i64 0]) ∧ Below w.heap.size w w' := by
  have h := eSquare_any ⟨#[45, 50]⟩ ⟨#[51]⟩ w hst (by decide) (by decide)
  have h1 : Fr.chkE (⟨#[45, 50]⟩ : ByteArray).data.toList (⟨#[51]⟩ : ByteArray).data.toList = 0 := x_sq
  unfold EndsPost endsP endsE at h
  rw [h1, if_pos rfl, if_pos rfl, x_near, x_far] at h
  exact h
theorem x_less (w : World) (hst : St w) : Calls Tryz.prog 28 #[.agg #[.string ⟨#[49, 47, 50]⟩, .string ⟨#[50, 47, 51]⟩], .agg #[.string ⟨#[51, 47, 52]⟩, .string ⟨#[49]⟩]] w fun e w' => e = .returned (.tuple #[.int .i64 (-1), .int .i64 0]) ∧ Below w.heap.size w w' := by
  have h := eCompare_any ⟨#[49, 47, 50]⟩ ⟨#[50, 47, 51]⟩ ⟨#[51, 47, 52]⟩ ⟨#[49]⟩ w hst (by decide) (by decide) (by decide) (by decide)
  rw [x_cmp1] at h
  exact h
theorem x_unsure (w : World) (hst : St w) : Calls Tryz.prog 28 #[.agg #[.string ⟨#[49, 47, 50]⟩, .string ⟨#[50, 47, 51]⟩], .agg #[.string ⟨#[50, 47, 51]⟩, .string ⟨#[49]⟩]] w fun e w' => e = .returned (.tuple #[.int .i64 0, .int .i64 0]) ∧ Below w.heap.size w w' := by
  have h := eCompare_any ⟨#[49, 47, 50]⟩ ⟨#[50, 47, 51]⟩ ⟨#[50, 47, 51]⟩ ⟨#[49]⟩ w hst (by decide) (by decide) (by decide) (by decide)
  rw [x_cmp2] at h
  exact h
theorem x_meet (w : World) (hst : St w) : Calls Tryz.prog 22 #[.agg #[.string ⟨#[49, 47, 50]⟩, .string ⟨#[50, 47, 51]⟩], .agg #[.string ⟨#[50, 47, 51]⟩, .string ⟨#[49]⟩]] w fun e w' => e = .returned (.tuple #[.agg #[.string ⟨#[50, 47, 51]⟩, .string ⟨#[50, 47, 51]⟩], .bool true, .int .i64 0]) ∧ Below w.heap.size w w' := by
  have h := eMeet_any ⟨#[49, 47, 50]⟩ ⟨#[50, 47, 51]⟩ ⟨#[50, 47, 51]⟩ ⟨#[49]⟩ w hst (by decide) (by decide) (by decide) (by decide)
  unfold MeetPost at h
  have hn : (0 : Int) = 0 ∧ ¬ Fr.rat (⟨#[50, 47, 51]⟩ : ByteArray).data.toList < Fr.rat (⟨#[50, 47, 51]⟩ : ByteArray).data.toList := ⟨rfl, by decide +kernel⟩
  rw [x_chk3, x_great, x_least, if_pos hn, decide_eq_true hn] at h
  exact h
theorem of_any (l h : ByteArray) (w : World) : Calls Tryz.prog 48 #[.string l, .string h] w fun e w' => e = .returned (.agg #[.string l, .string h]) ∧ Below w.heap.size w w' := by
  go_enter Tryz.func48, Tryz.ntmps48
  go_wp2
  exact bodyPost_ret (v := .agg #[.string l, .string h]) (by simp [results, Tryz.results48, go_sem]) rfl ⟨rfl, (Below.refl _ _).alloc (Nat.le_refl _) _⟩
theorem pi_any (w : World) : Calls Tryz.prog 50 #[] w fun e w' => e = .returned (.agg #[.string ⟨#[50, 50, 51, 47, 55, 49]⟩, .string ⟨#[50, 50, 47, 55]⟩]) ∧ Below w.heap.size w w' := by
  go_enter Tryz.func50, Tryz.ntmps50
  go_wp2
  exact bodyPost_ret (v := .agg #[.string ⟨#[50, 50, 51, 47, 55, 49]⟩, .string ⟨#[50, 50, 47, 55]⟩]) (by simp [results, Tryz.results50, go_sem]) rfl ⟨rfl, (Below.refl _ _).alloc (Nat.le_refl _) _⟩
end Go.Proofs.YtldclpdmcopgnaaGreatDoor
