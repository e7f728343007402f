/- The examples of the chapter. -/
import Derived.Test.YtkemicfaiipidaaBF
import Derived.Test.YtkemicfaiipidaaBD
import Derived.Test.YtkemicfaiipidaaBB
namespace Bn
def Rx : List (List Int) := [[0, 500, 350], [-200, 0, -1099511627776], [-300, 100, 0]]
def Rc : List (List Int) := [[0, 500, 350], [-200, 0, -160], [-300, 100, 0]]
theorem ex_ext : extV 2 Rx 1 = (200, 450, 0) := by decide +kernel
theorem ex_wit : witV 2 Rx = ([200, 300], 0) := by decide +kernel
theorem ex_add : addV 2 Rx 1 2 (-160) = (2, Rc, 0) := by decide +kernel
theorem ex_ver : verV 2 Rc [1, 2] = (true, 0) := by decide +kernel
def Rs : List (List Int) := [[0, 150], [100, 0]]
theorem ex_shi : shiV 2 Rx 1 = (1, Rs, 0) := by decide +kernel
theorem ex_clo : closV 2 Rc = (0, [], false, 0) := by decide +kernel
end Bn
namespace Go.Proofs.Ytkemicfaiipidaa
open Go.RowKit
theorem SeeI.three (w : World) (x y z : Int) (T : TypeId) : SeeI (w.alloc (.cells #[.int .i64 x, .int .i64 y, .int .i64 z] T)) (.slice (some ⟨w.heap.size, 0, none⟩) 3 3) [x, y, z] :=
  ⟨_, 3, rfl, Nat.le_refl _, by omega, fun _ => ⟨w.heap.size, 0, rfl, by simp, fun i hi => by
    have h : i = 0 ∨ i = 1 ∨ i = 2 := by simp at hi; omega
    rcases h with rfl | rfl | rfl <;> simp⟩⟩
theorem SeesR.three (w : World) (s1 s2 s3 : Value) (l1 l2 l3 : List Int) (T : TypeId) (h1 : SeeI w s1 l1) (h2 : SeeI w s2 l2) (h3 : SeeI w s3 l3) : SeesR (w.alloc (.cells #[s1, s2, s3] T)) (.slice (some ⟨w.heap.size, 0, none⟩) 3 3) [l1, l2, l3] := by
  have L : Below w.heap.size w (w.alloc (.cells #[s1, s2, s3] T)) := (Below.refl _ _).alloc (Nat.le_refl _) _
  refine ⟨_, 3, rfl, Nat.le_refl _, by omega, fun _ => ⟨w.heap.size, 0, rfl, by simp, fun i hi => ?_⟩⟩
  have h : i = 0 ∨ i = 1 ∨ i = 2 := by simp at hi; omega
  rcases h with rfl | rfl | rfl
  · exact ⟨s1, by simp, h1.step L⟩
  · exact ⟨s2, by simp, h2.step L⟩
  · exact ⟨s3, by simp, h3.step L⟩
theorem SeesR.two (w : World) (s1 s2 : Value) (l1 l2 : List Int) (T : TypeId) (h1 : SeeI w s1 l1) (h2 : SeeI w s2 l2) : SeesR (w.alloc (.cells #[s1, s2] T)) (.slice (some ⟨w.heap.size, 0, none⟩) 2 2) [l1, l2] := by
  have L : Below w.heap.size w (w.alloc (.cells #[s1, s2] T)) := (Below.refl _ _).alloc (Nat.le_refl _) _
  refine ⟨_, 2, rfl, Nat.le_refl _, by omega, fun _ => ⟨w.heap.size, 0, rfl, by simp, fun i hi => ?_⟩⟩
  have h : i = 0 ∨ i = 1 := by simp at hi; omega
  rcases h with rfl | rfl
  · exact ⟨s1, by simp, h1.step L⟩
  · exact ⟨s2, by simp, h2.step L⟩
set_option maxHeartbeats 4000000 in
set_option maxRecDepth 100000 in
theorem pair_any (w : World) : Calls Try.prog 29 #[] w fun e w' => ∃ v, e = .returned v ∧ ValB w' v 2 Bn.Rx ∧ Below w.heap.size w w' := by
  go_enter Try.func29, Try.ntmps29
  go_wp2
  have R0 := resI_new w 2 (.slice (some ⟨w.heap.size + 1 + 1 + 1 + 1, 0, none⟩) 3 3) 24
  have L0 : Below w.heap.size w (w.alloc (.cells #[.int .i64 2, .slice (some ⟨w.heap.size + 1 + 1 + 1 + 1, 0, none⟩) 3 3] 24)) := (Below.refl _ _).alloc (Nat.le_refl _) _
  have e0 : (w.alloc (.cells #[.int .i64 2, .slice (some ⟨w.heap.size + 1 + 1 + 1 + 1, 0, none⟩) 3 3] 24)).heap.size = w.heap.size + 1 := by simp
  generalize w.alloc (.cells #[.int .i64 2, .slice (some ⟨w.heap.size + 1 + 1 + 1 + 1, 0, none⟩) 3 3] 24) = Y0 at *
  have S1 := SeeI.three Y0 0 500 350 3
  have L1 : Below Y0.heap.size Y0 (Y0.alloc (.cells #[.int .i64 0, .int .i64 500, .int .i64 350] 3)) := (Below.refl _ _).alloc (Nat.le_refl _) _
  have e1 : (Y0.alloc (.cells #[.int .i64 0, .int .i64 500, .int .i64 350] 3)).heap.size = w.heap.size + 1 + 1 := by simp [e0]
  rw [e0] at S1
  have R1 := R0.step L1
  have L01 := below_nxt L0 L1
  generalize Y0.alloc (.cells #[.int .i64 0, .int .i64 500, .int .i64 350] 3) = Y1 at *
  have S2 := SeeI.three Y1 (-200) 0 (-1099511627776) 3
  have L2 : Below Y1.heap.size Y1 (Y1.alloc (.cells #[.int .i64 (-200), .int .i64 0, .int .i64 (-1099511627776)] 3)) := (Below.refl _ _).alloc (Nat.le_refl _) _
  have e2 : (Y1.alloc (.cells #[.int .i64 (-200), .int .i64 0, .int .i64 (-1099511627776)] 3)).heap.size = w.heap.size + 1 + 1 + 1 := by simp [e1]
  rw [e1] at S2
  have R2 := R1.step L2
  have S12 := S1.step L2
  have L02 := below_nxt L01 L2
  generalize Y1.alloc (.cells #[.int .i64 (-200), .int .i64 0, .int .i64 (-1099511627776)] 3) = Y2 at *
  have S3 := SeeI.three Y2 (-300) 100 0 3
  have L3 : Below Y2.heap.size Y2 (Y2.alloc (.cells #[.int .i64 (-300), .int .i64 100, .int .i64 0] 3)) := (Below.refl _ _).alloc (Nat.le_refl _) _
  have e3 : (Y2.alloc (.cells #[.int .i64 (-300), .int .i64 100, .int .i64 0] 3)).heap.size = w.heap.size + 1 + 1 + 1 + 1 := by simp [e2]
  rw [e2] at S3
  have R3 := R2.step L3
  have S13 := S12.step L3
  have S23 := S2.step L3
  have L03 := below_nxt L02 L3
  generalize Y2.alloc (.cells #[.int .i64 (-300), .int .i64 100, .int .i64 0] 3) = Y3 at *
  have S4 := SeesR.three Y3 _ _ _ _ _ _ 42 S13 S23 S3
  have L4 : Below Y3.heap.size Y3 (Y3.alloc (.cells #[.slice (some ⟨w.heap.size + 1, 0, none⟩) 3 3, .slice (some ⟨w.heap.size + 1 + 1, 0, none⟩) 3 3, .slice (some ⟨w.heap.size + 1 + 1 + 1, 0, none⟩) 3 3] 42)) := (Below.refl _ _).alloc (Nat.le_refl _) _
  have R4 := R3.step L4
  have L04 := below_nxt L03 L4
  rw [e3] at S4
  generalize Y3.alloc (.cells #[.slice (some ⟨w.heap.size + 1, 0, none⟩) 3 3, .slice (some ⟨w.heap.size + 1 + 1, 0, none⟩) 3 3, .slice (some ⟨w.heap.size + 1 + 1 + 1, 0, none⟩) 3 3] 42) = Y4 at *
  obtain ⟨-, t1, t2, -, -⟩ := R4
  exact bodyPost_ret (v := .agg #[.int .i64 2, .slice (some ⟨w.heap.size + 1 + 1 + 1 + 1, 0, none⟩) 3 3]) (by simp [results, Try.results29, go_sem, t1, t2]) rfl ⟨_, rfl, ⟨_, rfl, S4⟩, L04⟩
end Go.Proofs.Ytkemicfaiipidaa

