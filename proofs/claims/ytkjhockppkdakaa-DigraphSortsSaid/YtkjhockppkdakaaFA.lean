/- Joined and Way of the reference. -/
import Derived.Test.YtkjhockppkdakaaDM
import Derived.Test.YtkjhockppkdakaaDX
namespace Go.Proofs.Ytkjhockppkdakaa
open Go.RowKit Go.Shelf

set_option maxHeartbeats 4000000 in
set_option maxRecDepth 100000 in
theorem rJoined_ok (m : Nat) (es : List (Nat × Nat)) (a b : Nat) (v : Value) (w : World) (hv : SeesE w v (Dg.cst es)) :
    Calls Try.prog 69 #[.agg #[.int .i64 m, v], .int .i64 a, .int .i64 b] w fun e w' => e = .returned (.bool (decide ((a, b) ∈ es))) ∧ Below w.heap.size w w' := by
  obtain ⟨ao, cap, rfl, hcap1, hcap2, hC⟩ := hv
  rw [Dg.cst_len] at *
  obtain ⟨P0, L0, z0⟩ := gph_new w m (.slice ao es.length cap) 24
  generalize hX : w.alloc (.cells #[.int .i64 m, .slice ao es.length cap] 24) = X at *
  obtain ⟨p0, p1, p2⟩ := id P0
  have HL := Lib.hid L0
  have HM := Lib.hid (fun i (hi : i < es.length) => Dg.getD_mem (d := ((0, 0) : Nat × Nat)) hi)
  clear L0 z0
  go_enter Try.func69, Try.ntmps69
  go_wp2
  go_loopw [7] (fun s7 wr => ∃ i : Nat, i ≤ es.length ∧ s7 = .int .i64 i ∧ Hid (Below X.heap.size X wr) ∧ Hid (∀ j, j < i → es.getD j (0, 0) ≠ (a, b))) (fun s7 _ => es.length - (intOf s7).toNat)
  case atStart => exact ⟨0, Nat.zero_le _, rfl, Lib.hid (Below.refl _ _), Lib.hid (fun j h => by omega)⟩
  case round =>
    obtain ⟨i, hi, rfl, HB, HN⟩ := hrel
    have HBw := Lib.hid (below_nxt HL.out HB.out)
    obtain ⟨-, g1, g2⟩ := P0.step HB.out
    clear p1 p2
    by_cases hil : i < es.length
    · obtain ⟨g, off, rfl, hg, c1, c2⟩ := hC.at HBw.out (i := i) (by rw [Dg.cst_len]; exact hil)
      rw [Dg.cst_at] at c1 c2
      have HMi := Lib.hid (HM.out i hil)
      have HQ : Hid (es.getD i (0, 0) ≠ (a, b) → ∀ j, j < i + 1 → es.getD j (0, 0) ≠ (a, b)) := Lib.hid (fun h j hj => by
        by_cases e : j = i
        · rw [e]; exact h
        · exact HN.out j (by omega))
      clear HN HM
      generalize es.getD i (0, 0) = y at *
      by_cases e1 : y.1 = a
      · have d1 : ((y.1 : Int) == (a : Int)) = true := by simp [e1]
        by_cases e2 : y.2 = b
        · have d2 : ((y.2 : Int) == (b : Int)) = true := by simp [e2]
          have HR : Hid (decide ((a, b) ∈ es) = true) := Lib.hid (by simp only [decide_eq_true_eq]; rw [← e1, ← e2]; exact HMi.out)
          clear e1 e2 HQ
          go_wp2
          go_ret
          exact ⟨ret_bool (by rw [HR.out]), HBw.out⟩
        · have d2 : ((y.2 : Int) == (b : Int)) = false := by simp; omega
          have HQ2 := Lib.hid (HQ.out (fun e => e2 (congrArg Prod.snd e)))
          clear e1 e2 HQ
          go_wp2
          exact ⟨⟨i + 1, by omega, by first | rfl | go_num, HB, HQ2⟩, by simp [intOf]; omega⟩
      · have d1 : ((y.1 : Int) == (a : Int)) = false := by simp; omega
        have HQ2 := Lib.hid (HQ.out (fun e => e1 (congrArg Prod.fst e)))
        clear e1 HQ
        go_wp2
        exact ⟨⟨i + 1, by omega, by first | rfl | go_num, HB, HQ2⟩, by simp [intOf]; omega⟩
    · obtain rfl : i = es.length := by omega
      have HR : Hid (decide ((a, b) ∈ es) = false) := Lib.hid (by
        simp only [decide_eq_false_iff_not]
        intro h
        obtain ⟨j, hj, e⟩ := Dg.mem_getD (0, 0) h
        exact HN.out j hj e)
      go_wp2
      go_ret
      exact ⟨ret_bool (by rw [HR.out]), HBw.out⟩
end Go.Proofs.Ytkjhockppkdakaa
