/- The examples of the law of package implicant: awake. -/
import Derived.Test.YtahjdmdgkkienaaGreatDoorIv
import Derived.Test.YtahjdmdgkkienaaGreatDoorUo
namespace Ic
theorem two_l : primesL 3 232 0 = [(6, 6), (5, 5), (3, 3)] := by decide +kernel
theorem two_l6 : primesL 3 232 6 = [(2, 2), (1, 1)] := by decide +kernel
theorem two_s : primesS 3 232 0 = [(3, 3), (5, 5), (6, 6)] := by
  unfold primesS; rw [two_l]; unfold sortL
  simp [List.mergeSort, ltOrd, List.MergeSort.Internal.splitInTwo]
theorem two_s6 : primesS 3 232 6 = [(1, 1), (2, 2)] := by
  unfold primesS; rw [two_l6]; unfold sortL
  simp [List.mergeSort, ltOrd, List.MergeSort.Internal.splitInTwo]
theorem two_e : essL 3 232 (primesS 3 232 0) = [0, 1, 2] := by rw [two_s]; decide +kernel
end Ic
namespace Go.Proofs.YtahjdmdgkkienaaGreatDoor
open Go.RowKit Go.Shelf

set_option maxHeartbeats 1000000 in
set_option maxRecDepth 100000 in
theorem rcSame_any (v u : Value) (l : List (Nat × Nat)) (w : World) (_ : l.length ≤ 1048576) (h1 : SeesC w v l) (h2 : SeesC w u l) :
    Calls Tryz.prog 20 #[v, u] w fun e w' => e = .returned (.bool true) ∧ Below w.heap.size w w' := by
  obtain ⟨a1, k1, rfl, b1, d1, c1⟩ := h1.opened
  obtain ⟨a2, k2, rfl, b2, d2, c2⟩ := h2.opened
  clear h1 h2
  go_enter Tryz.func20, Tryz.ntmps20
  go_wp2
  go_loopw [5] (fun s5 wr => ∃ i : Nat, i ≤ l.length ∧ s5 = .int .i64 i ∧ Hid (Below w.heap.size w wr)) (fun s5 _ => l.length - (intOf s5).toNat)
  case atStart => exact ⟨0, Nat.zero_le _, rfl, Lib.hid (Below.refl _ _)⟩
  case round =>
    obtain ⟨i, hi, rfl, HB⟩ := hrel
    by_cases hil : i < l.length
    · obtain ⟨g, rfl, hg, p1, p2⟩ := c1.at HB.out hil
      obtain ⟨f, rfl, hf, q1, q2⟩ := c2.at HB.out hil
      generalize (l.getD i (0, 0)) = x at *
      have hmix : Tryz.prog.follows .mixedOrders = true := by kernel_rfl
      go_wp2
      go_quiet (fail)
      go_wp2
      exact ⟨⟨i + 1, by omega, rfl, Lib.hid (HB.out.trans (below_drewN wr _))⟩, by simp [intOf]; omega⟩
    · obtain rfl : i = l.length := by omega
      go_wp2
      go_ret
      exact ⟨rfl, HB.out⟩

theorem seesC_new3 (w : World) (a b c d e f : Nat) : SeesC (w.alloc (.cells #[.int .u64 (a : Int), .int .u64 (b : Int), .int .u64 (c : Int), .int .u64 (d : Int), .int .u64 (e : Int), .int .u64 (f : Int)] 62)) (.slice (some ⟨w.heap.size, 0, none⟩) 3 3) [(a, b), (c, d), (e, f)] := by
  refine .inr ⟨w.heap.size, 3, rfl, by simp, by decide, by simp, fun i hi => ?_⟩
  rcases i with _ | _ | _ | i
  · simp
  · simp
  · simp
  · simp at hi; omega
theorem seesC_new2 (w : World) (a b c d : Nat) : SeesC (w.alloc (.cells #[.int .u64 (a : Int), .int .u64 (b : Int), .int .u64 (c : Int), .int .u64 (d : Int)] 62)) (.slice (some ⟨w.heap.size, 0, none⟩) 2 2) [(a, b), (c, d)] := by
  refine .inr ⟨w.heap.size, 2, rfl, by simp, by decide, by simp, fun i hi => ?_⟩
  rcases i with _ | _ | i
  · simp
  · simp
  · simp at hi; omega
theorem sees_new3 (w : World) (a b c : Nat) : Sees .i64 (w.alloc (.cells #[.int .i64 (a : Int), .int .i64 (b : Int), .int .i64 (c : Int)] 3)) (.slice (some ⟨w.heap.size, 0, none⟩) 3 3) [a, b, c] := by
  refine .inr ⟨w.heap.size, 0, 3, rfl, by simp, by decide, by simp, fun i hi => ?_⟩
  rcases i with _ | _ | _ | i
  · simp
  · simp
  · simp
  · simp at hi; omega
theorem cubI_box {w w' : World} {c v : Nat} {T : TypeId} (hb : Below (w.alloc (.cells #[.int .u64 (c : Int), .int .u64 (v : Int)] T)).heap.size (w.alloc (.cells #[.int .u64 (c : Int), .int .u64 (v : Int)] T)) w') : CubI w' w.heap.size c v :=
  (cubI_new w c v T).below (by simp) hb
theorem cPrim (W : World) (h : St W) : Calls Tryz.prog 62 #[.agg #[.int .i64 3, .int .u64 232, .int .i64 3, .int .u64 0]] W fun e w' => ∃ v, e = .returned (.tuple #[v, .int .i64 0]) ∧ SeesC w' v [(3, 3), (5, 5), (6, 6)] ∧ Below W.heap.size W w' := by
  have k := iPrimes_ok 3 232 3 0 W (by decide) (by decide) (by decide) h (by decide)
  rw [Ic.two_s] at k
  exact k
theorem cPrim6 (W : World) (h : St W) : Calls Tryz.prog 62 #[.agg #[.int .i64 3, .int .u64 232, .int .i64 3, .int .u64 6]] W fun e w' => ∃ v, e = .returned (.tuple #[v, .int .i64 0]) ∧ SeesC w' v [(1, 1), (2, 2)] ∧ Below W.heap.size W w' := by
  have k := iPrimes_ok 3 232 3 6 W (by decide) (by decide) (by decide) h (by decide)
  rw [Ic.two_s6] at k
  exact k
end Go.Proofs.YtahjdmdgkkienaaGreatDoor

