/- Text of package implicant at the two cubes that the law's examples have. -/
import Derived.Test.YtabflijfbjdpgaaDoorIr
import Derived.Test.YtabflijfbjdpgaaDoorIb
import Derived.Laws.IdiomStrings
namespace Go.Proofs.YtabflijfbjdpgaaDoor
open Go.RowKit Go.Shelf
theorem one_0 : bits .and .u64 0 1 = 0 := by decide
theorem one_1 : bits .and .u64 1 1 = 1 := by decide
theorem one_3 : bits .and .u64 3 1 = 1 := by decide
theorem one_7 : bits .and .u64 7 1 = 1 := by decide
attribute [local go_sem] one_0 one_1 one_3 one_7

set_option linter.unusedSimpArgs false in
set_option maxHeartbeats 1000000 in
set_option maxRecDepth 100000 in
theorem iText_110 (w : World) : Calls Tryd.prog 24 #[.int .i64 3, .agg #[.int .u64 7, .int .u64 3]] w fun e w' => e = .returned (.tuple #[.string ⟨#[49, 49, 48]⟩, .int .i64 0]) ∧ Below w.heap.size w w' := by
  have CK := fun W => iCheck_any 3 7 3 W (by omega) (by omega)
  have hk : Ic.chk 3 7 3 = 0 := by decide
  rw [hk] at CK
  obtain ⟨P0, L0, z0⟩ := cub1_new w 7 3 24
  simp only [Int.cast_ofNat_Int, Int.natCast_one] at P0 L0 z0 CK
  generalize hX : w.alloc (.cells #[.int .u64 7, .int .u64 3] 24) = X at *
  obtain ⟨p0, p1, p2, p3, p4⟩ := id P0
  simp only [Int.cast_ofNat_Int, Int.natCast_one] at p1 p2
  go_enter Tryd.func24, Tryd.ntmps24
  go_wp2_with (first
    | (go_at_call 15; refine (CK _).mono ?_; rintro e w1 ⟨rfl, hB1⟩; have P1 := P0.step hB1; obtain ⟨q0, q1, q2, q3, q4⟩ := id P1)
    | (go_at_call 60; refine (tRepeat_any w1.heap.size 3 (w1.alloc (.cells #[.int .u8 45] 5)) (by omega) (by omega) (by simp) (by simp)).mono ?_; rintro e w3 ⟨rfl, Z3, B3⟩))
  have B3' : Below w1.heap.size w1 w3 := ((Below.refl w1.heap.size w1).alloc (Nat.le_refl _) _).trans (B3.mono (by simp))
  have ez : (w1.alloc (.cells #[.int .u8 45] 5)).heap.size = w1.heap.size + 1 := by simp
  rw [ez] at Z3
  obtain ⟨t0, t1, t2, t3, t4⟩ := P1.step B3'
  simp only [Int.cast_ofNat_Int, Int.natCast_one] at t1 t2
  have r0 := Z3.holds 0 (by omega)
  have r1 := Z3.holds 1 (by omega)
  have r2 := Z3.holds 2 (by omega)
  have f0 := Z3.free 0 (by omega)
  have f1 := Z3.free 1 (by omega)
  have f2 := Z3.free 2 (by omega)
  have hne : w.heap.size ≠ w1.heap.size + 1 := by omega
  have hne' : w1.heap.size + 1 ≠ w.heap.size := by omega
  have hBV : Below w.heap.size w (((w3.setCell ⟨w1.heap.size + 1, 0, none⟩ (.int .u8 49)).setCell ⟨w1.heap.size + 1, 1, none⟩ (.int .u8 49)).setCell ⟨w1.heap.size + 1, 2, none⟩ (.int .u8 48)) := by
    have b := L0.trans ((hB1.mono (show w.heap.size ≤ X.heap.size by omega)).trans (B3'.mono (show w.heap.size ≤ w1.heap.size by omega)))
    repeat' (first | exact b | refine Below.setCell ?_ (by show w.heap.size ≤ w1.heap.size + 1; omega) _)
  obtain ⟨V, hV⟩ : ∃ V, (((w3.setCell ⟨w1.heap.size + 1, 0, none⟩ (.int .u8 49)).setCell ⟨w1.heap.size + 1, 1, none⟩ (.int .u8 49)).setCell ⟨w1.heap.size + 1, 2, none⟩ (.int .u8 48)) = V := ⟨_, rfl⟩
  have hcv : (convert 98 9 (.slice (some ⟨w1.heap.size + 1, 0, none⟩) 3 3)).run Tryd.prog V = .ok (.string ⟨#[49, 49, 48]⟩) V := by
    have k0 : V.cell? ⟨w1.heap.size + 1, 0, none⟩ = some (.int .u8 49) := by rw [← hV]; simp [go_sem, r0, r1, r2]
    have k1 : V.cell? ⟨w1.heap.size + 1, 1, none⟩ = some (.int .u8 49) := by rw [← hV]; simp [go_sem, r0, r1, r2]
    have k2 : V.cell? ⟨w1.heap.size + 1, 2, none⟩ = some (.int .u8 48) := by rw [← hV]; simp [go_sem, r0, r1, r2]
    exact run_convert_bytes_back (P := Tryd.prog) V 98 9 5 ⟨w1.heap.size + 1, 0, none⟩ 3 [49, 49, 48] Tryd.underlying98 Tryd.underlying5 Tryd.underlying9 (fun j hj => by
      rw [show (⟨w1.heap.size + 1, 0, none⟩ : Addr).add j = ⟨w1.heap.size + 1, j, none⟩ by unfold Addr.add; split <;> simp_all]
      rcases j with _ | _ | _ | j
      · exact k0
      · exact k1
      · exact k2
      · simp at hj; omega)
  rw [← hV] at hcv
  have HBV := Lib.hid hBV
  clear hBV hV B3 B3' hB1 P0 P1 CK L0
  refine wp_loop_rounds 4 ?_
  rw [rounds_succ]
  go_wp2
  rw [rounds_succ]
  go_wp2
  rw [rounds_succ]
  go_wp2
  rw [rounds_succ]
  go_wp2
  exact bodyPost_ret (v := .tuple #[.string ⟨#[49, 49, 48]⟩, .int .i64 0]) (by simp [results, Tryd.results24, go_sem]) rfl ⟨rfl, HBV.out⟩

set_option linter.unusedSimpArgs false in
set_option maxHeartbeats 1000000 in
set_option maxRecDepth 100000 in
theorem iText_1 (w : World) : Calls Tryd.prog 24 #[.int .i64 3, .agg #[.int .u64 1, .int .u64 1]] w fun e w' => e = .returned (.tuple #[.string ⟨#[49, 45, 45]⟩, .int .i64 0]) ∧ Below w.heap.size w w' := by
  have CK := fun W => iCheck_any 3 1 1 W (by omega) (by omega)
  have hk : Ic.chk 3 1 1 = 0 := by decide
  rw [hk] at CK
  obtain ⟨P0, L0, z0⟩ := cub1_new w 1 1 24
  simp only [Int.cast_ofNat_Int, Int.natCast_one] at P0 L0 z0 CK
  generalize hX : w.alloc (.cells #[.int .u64 1, .int .u64 1] 24) = X at *
  obtain ⟨p0, p1, p2, p3, p4⟩ := id P0
  simp only [Int.cast_ofNat_Int, Int.natCast_one] at p1 p2
  go_enter Tryd.func24, Tryd.ntmps24
  go_wp2_with (first
    | (go_at_call 15; refine (CK _).mono ?_; rintro e w1 ⟨rfl, hB1⟩; have P1 := P0.step hB1; obtain ⟨q0, q1, q2, q3, q4⟩ := id P1)
    | (go_at_call 60; refine (tRepeat_any w1.heap.size 3 (w1.alloc (.cells #[.int .u8 45] 5)) (by omega) (by omega) (by simp) (by simp)).mono ?_; rintro e w3 ⟨rfl, Z3, B3⟩))
  have B3' : Below w1.heap.size w1 w3 := ((Below.refl w1.heap.size w1).alloc (Nat.le_refl _) _).trans (B3.mono (by simp))
  have ez : (w1.alloc (.cells #[.int .u8 45] 5)).heap.size = w1.heap.size + 1 := by simp
  rw [ez] at Z3
  obtain ⟨t0, t1, t2, t3, t4⟩ := P1.step B3'
  simp only [Int.cast_ofNat_Int, Int.natCast_one] at t1 t2
  have r0 := Z3.holds 0 (by omega)
  have r1 := Z3.holds 1 (by omega)
  have r2 := Z3.holds 2 (by omega)
  have f0 := Z3.free 0 (by omega)
  have f1 := Z3.free 1 (by omega)
  have f2 := Z3.free 2 (by omega)
  have hne : w.heap.size ≠ w1.heap.size + 1 := by omega
  have hne' : w1.heap.size + 1 ≠ w.heap.size := by omega
  have hBV : Below w.heap.size w (w3.setCell ⟨w1.heap.size + 1, 0, none⟩ (.int .u8 49)) := by
    have b := L0.trans ((hB1.mono (show w.heap.size ≤ X.heap.size by omega)).trans (B3'.mono (show w.heap.size ≤ w1.heap.size by omega)))
    repeat' (first | exact b | refine Below.setCell ?_ (by show w.heap.size ≤ w1.heap.size + 1; omega) _)
  obtain ⟨V, hV⟩ : ∃ V, (w3.setCell ⟨w1.heap.size + 1, 0, none⟩ (.int .u8 49)) = V := ⟨_, rfl⟩
  have hcv : (convert 98 9 (.slice (some ⟨w1.heap.size + 1, 0, none⟩) 3 3)).run Tryd.prog V = .ok (.string ⟨#[49, 45, 45]⟩) V := by
    have k0 : V.cell? ⟨w1.heap.size + 1, 0, none⟩ = some (.int .u8 49) := by rw [← hV]; simp [go_sem, r0, r1, r2]
    have k1 : V.cell? ⟨w1.heap.size + 1, 1, none⟩ = some (.int .u8 45) := by rw [← hV]; simp [go_sem, r0, r1, r2]
    have k2 : V.cell? ⟨w1.heap.size + 1, 2, none⟩ = some (.int .u8 45) := by rw [← hV]; simp [go_sem, r0, r1, r2]
    exact run_convert_bytes_back (P := Tryd.prog) V 98 9 5 ⟨w1.heap.size + 1, 0, none⟩ 3 [49, 45, 45] Tryd.underlying98 Tryd.underlying5 Tryd.underlying9 (fun j hj => by
      rw [show (⟨w1.heap.size + 1, 0, none⟩ : Addr).add j = ⟨w1.heap.size + 1, j, none⟩ by unfold Addr.add; split <;> simp_all]
      rcases j with _ | _ | _ | j
      · exact k0
      · exact k1
      · exact k2
      · simp at hj; omega)
  rw [← hV] at hcv
  have HBV := Lib.hid hBV
  clear hBV hV B3 B3' hB1 P0 P1 CK L0
  refine wp_loop_rounds 4 ?_
  rw [rounds_succ]
  go_wp2
  rw [rounds_succ]
  go_wp2
  rw [rounds_succ]
  go_wp2
  rw [rounds_succ]
  go_wp2
  exact bodyPost_ret (v := .tuple #[.string ⟨#[49, 45, 45]⟩, .int .i64 0]) (by simp [results, Tryd.results24, go_sem]) rfl ⟨rfl, HBV.out⟩
end Go.Proofs.YtabflijfbjdpgaaDoor
