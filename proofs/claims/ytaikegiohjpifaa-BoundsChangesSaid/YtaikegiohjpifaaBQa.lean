/- New of both; the check of a span of both; With and Add of the reference. -/
import Derived.Test.YtaikegiohjpifaaBA
import Derived.Test.YtaikegiohjpifaaBU
import Derived.Test.YtaikegiohjpifaaBr
import Derived.Test.YtaikegiohjpifaaBi
import Derived.StillTailTactics
namespace Bn
def newV (n : Int) : Int × List (List Int) × Int := if idx 0 12 n then (n, rws n.toNat fre, 0) else (0, [], 2)
theorem bV_fre (N : Nat) : Go.Proofs.Ytaikegiohjpifaa.Bn.bV N fre = ((N : Int), rws N fre, 0) := by
  unfold Go.Proofs.Ytaikegiohjpifaa.Bn.bV
  rw [if_pos (allB_iff.2 fun i j _ _ => by unfold fre; split <;> rfl)]
def tms (x : Int) : Bool := decide (0 ≤ x) && decide (x ≤ 1000000)
/-- The error of a span. -/
def spE (a b : Int) : Int := if tms a && tms b then (if b < a then 9 else 0) else 2
theorem spE_ok {a b : Int} (h : spE a b = 0) : 0 ≤ a ∧ a ≤ b ∧ b ≤ 1000000 := by
  unfold spE tms at h
  split at h
  · rename_i g
    simp at g
    split at h <;> omega
  · omega
theorem num_isB {x : Int} (h : num x = true) : isB x = true := by unfold isB; rw [h, Bool.or_true]
theorem isB_mn {a b : Int} (ha : isB a = true) (hb : isB b = true) : isB (mn a b) = true := by
  unfold mn; split <;> first | exact ha | exact hb | (split <;> first | exact ha | exact hb | (split <;> first | exact ha | exact hb))
end Bn
namespace Go.Proofs.Ytaikegiohjpifaa
open Go.RowKit
theorem tIs_any (x : Int) (w : World) : Calls Try.prog 69 #[.int .i64 x] w fun e w' => e = .returned (.bool (Bn.tms x)) ∧ w' = w := by
  unfold Bn.tms
  rcases (show x < 0 ∨ (0 ≤ x ∧ x ≤ 1000000) ∨ (0 ≤ x ∧ 1000000 < x) by omega) with h | ⟨h, h2⟩ | ⟨h, h2⟩
  · have h1 : decide (0 ≤ x) = false := decide_eq_false (by omega)
    rw [h1, Bool.false_and]
    go_enter Try.func69, Try.ntmps69
    go_wp2
    go_ret
    exact ⟨rfl, rfl⟩
  · have h1 : decide (0 ≤ x) = true := decide_eq_true h
    have h3 : decide (x ≤ 1000000) = true := decide_eq_true h2
    rw [h1, h3, Bool.true_and]
    go_enter Try.func69, Try.ntmps69
    go_wp2
    go_ret
    exact ⟨rfl, rfl⟩
  · have h1 : decide (0 ≤ x) = true := decide_eq_true h
    have h3 : decide (x ≤ 1000000) = false := decide_eq_false (by omega)
    rw [h1, h3, Bool.true_and]
    go_enter Try.func69, Try.ntmps69
    go_wp2
    go_ret
    exact ⟨rfl, rfl⟩
theorem rTim_any (x : Int) (w : World) : Calls Try.prog 70 #[.int .i64 x] w fun e w' => e = .returned (.bool (Bn.tms x)) ∧ w' = w := by
  unfold Bn.tms
  rcases (show x < 0 ∨ (0 ≤ x ∧ x ≤ 1000000) ∨ (0 ≤ x ∧ 1000000 < x) by omega) with h | ⟨h, h2⟩ | ⟨h, h2⟩
  · have h1 : decide (0 ≤ x) = false := decide_eq_false (by omega)
    rw [h1, Bool.false_and]
    go_enter Try.func70, Try.ntmps70
    go_wp2
    go_ret
    exact ⟨rfl, rfl⟩
  · have h1 : decide (0 ≤ x) = true := decide_eq_true h
    have h3 : decide (x ≤ 1000000) = true := decide_eq_true h2
    rw [h1, h3, Bool.true_and]
    go_enter Try.func70, Try.ntmps70
    go_wp2
    go_ret
    exact ⟨rfl, rfl⟩
  · have h1 : decide (0 ≤ x) = true := decide_eq_true h
    have h3 : decide (x ≤ 1000000) = false := decide_eq_false (by omega)
    rw [h1, h3, Bool.true_and]
    go_enter Try.func70, Try.ntmps70
    go_wp2
    go_ret
    exact ⟨rfl, rfl⟩
theorem tChk_any (a b : Int) (w : World) : Calls Try.prog 44 #[.agg #[.int .i64 a, .int .i64 b]] w fun e w' => e = .returned (.int .i64 (Bn.spE a b)) ∧ Below w.heap.size w w' := by
  have CA := fun W => Lib.hid (tIs_any a W)
  have CB := fun W => Lib.hid (tIs_any b W)
  have L1 := Lib.hid ((Below.refl w.heap.size w).alloc (Nat.le_refl _) (.cells #[.int .i64 a, .int .i64 b] 26))
  unfold Bn.spE
  cases ha : Bn.tms a <;> rw [ha] at CA
  · rw [Bool.false_and, if_neg (by decide)]
    go_enter Try.func44, Try.ntmps44
    go_wp2_with (go_at_call 69; refine ((CA _).out).mono ?_; rintro e w9 ⟨rfl, h9⟩; rw [h9]; clear h9)
    go_ret
    exact ⟨rfl, L1.out⟩
  · cases hb : Bn.tms b <;> rw [hb] at CB
    · rw [Bool.and_false, if_neg (by decide)]
      go_enter Try.func44, Try.ntmps44
      go_wp2_with (first | (go_at_call 69; (with_reducible refine ((CA _).out).mono ?_); rintro e w9 ⟨rfl, h9⟩; rw [h9]; clear h9) | (go_at_call 69; (with_reducible refine ((CB _).out).mono ?_); rintro e w9 ⟨rfl, h9⟩; rw [h9]; clear h9))
      go_ret
      exact ⟨rfl, L1.out⟩
    · rw [Bool.and_true, if_pos rfl]
      by_cases h : b < a
      · rw [if_pos h]
        go_enter Try.func44, Try.ntmps44
        go_wp2_with (first | (go_at_call 69; (with_reducible refine ((CA _).out).mono ?_); rintro e w9 ⟨rfl, h9⟩; rw [h9]; clear h9) | (go_at_call 69; (with_reducible refine ((CB _).out).mono ?_); rintro e w9 ⟨rfl, h9⟩; rw [h9]; clear h9))
        go_ret
        exact ⟨rfl, L1.out⟩
      · rw [if_neg h]
        go_enter Try.func44, Try.ntmps44
        go_wp2_with (first | (go_at_call 69; (with_reducible refine ((CA _).out).mono ?_); rintro e w9 ⟨rfl, h9⟩; rw [h9]; clear h9) | (go_at_call 69; (with_reducible refine ((CB _).out).mono ?_); rintro e w9 ⟨rfl, h9⟩; rw [h9]; clear h9))
        go_ret
        exact ⟨rfl, L1.out⟩
theorem rCk3_any (a b : Int) (w : World) : Calls Try.prog 47 #[.agg #[.int .i64 a, .int .i64 b]] w fun e w' => e = .returned (.int .i64 (Bn.spE a b)) ∧ Below w.heap.size w w' := by
  have CA := fun W => Lib.hid (rTim_any a W)
  have CB := fun W => Lib.hid (rTim_any b W)
  have L1 := Lib.hid ((Below.refl w.heap.size w).alloc (Nat.le_refl _) (.cells #[.int .i64 a, .int .i64 b] 26))
  unfold Bn.spE
  cases ha : Bn.tms a <;> rw [ha] at CA
  · rw [Bool.false_and, if_neg (by decide)]
    go_enter Try.func47, Try.ntmps47
    go_wp2_with (go_at_call 70; refine ((CA _).out).mono ?_; rintro e w9 ⟨rfl, h9⟩; rw [h9]; clear h9)
    go_ret
    exact ⟨rfl, L1.out⟩
  · cases hb : Bn.tms b <;> rw [hb] at CB
    · rw [Bool.and_false, if_neg (by decide)]
      go_enter Try.func47, Try.ntmps47
      go_wp2_with (first | (go_at_call 70; (with_reducible refine ((CA _).out).mono ?_); rintro e w9 ⟨rfl, h9⟩; rw [h9]; clear h9) | (go_at_call 70; (with_reducible refine ((CB _).out).mono ?_); rintro e w9 ⟨rfl, h9⟩; rw [h9]; clear h9))
      go_ret
      exact ⟨rfl, L1.out⟩
    · rw [Bool.and_true, if_pos rfl]
      by_cases h : b < a
      · rw [if_pos h]
        go_enter Try.func47, Try.ntmps47
        go_wp2_with (first | (go_at_call 70; (with_reducible refine ((CA _).out).mono ?_); rintro e w9 ⟨rfl, h9⟩; rw [h9]; clear h9) | (go_at_call 70; (with_reducible refine ((CB _).out).mono ?_); rintro e w9 ⟨rfl, h9⟩; rw [h9]; clear h9))
        go_ret
        exact ⟨rfl, L1.out⟩
      · rw [if_neg h]
        go_enter Try.func47, Try.ntmps47
        go_wp2_with (first | (go_at_call 70; (with_reducible refine ((CA _).out).mono ?_); rintro e w9 ⟨rfl, h9⟩; rw [h9]; clear h9) | (go_at_call 70; (with_reducible refine ((CB _).out).mono ?_); rintro e w9 ⟨rfl, h9⟩; rw [h9]; clear h9))
        go_ret
        exact ⟨rfl, L1.out⟩
set_option maxHeartbeats 4000000 in
set_option maxRecDepth 100000 in
theorem bNew_any (n : Int) (w : World) : Calls Try.prog 9 #[.int .i64 n] w (RetB (Bn.newV n) w) := by
  have CS := fun W => Lib.hid (bSize_any n W)
  have HR0 := Lib.hid (resI_new w 0 (.slice none 0 0) 24)
  have HB0 := Lib.hid ((Below.refl w.heap.size w).alloc (Nat.le_refl _) (.cells #[.int .i64 0, .slice none 0 0] 24))
  obtain ⟨r0, r1, r2, r3, r4⟩ := HR0.out
  unfold Bn.newV
  cases h : Bn.idx 0 12 n <;> rw [h] at CS
  · rw [if_neg (by decide)]
    go_enter Try.func9, Try.ntmps9
    go_wp2_with (go_at_call 32; refine ((CS _).out).mono ?_; rintro e w9 ⟨rfl, h9⟩; rw [h9]; clear h9)
    exact bodyPost_ret (v := .tuple #[.agg #[.int .i64 0, .slice none 0 0], .int .i64 2]) (by simp [results, Try.results9, go_sem]) rfl ⟨_, rfl, ValB.nil _, HB0.out⟩
  · rw [if_pos rfl]
    obtain ⟨h1, h2⟩ := Bn.idx_iff.1 h
    obtain ⟨N, rfl⟩ := Int.eq_ofNat_of_zero_le h1
    rw [Int.toNat_natCast]
    have hN : N ≤ 12 := by omega
    have CF := fun W => Lib.hid (bFree_any N W hN)
    have CBo := fun W g (hM : MtxI W g N (Bn.sq N Bn.fre Bn.zer)) => Lib.hid (show Calls Try.prog 34 #[.pointer (some ⟨g, 0, none⟩)] W fun e w' => ∃ v, e = .returned (.tuple #[v, .int .i64 0]) ∧ ValF W.heap.size w' v N (Bn.rws N Bn.fre) ∧ Below W.heap.size W w' by
      have := bBnds_any N g _ W hN hM
      rw [Bn.bV_congr (m' := Bn.fre) (fun i j hi hj => Bn.sq_in hi hj), Bn.bV_fre] at this
      exact this)
    clear h h1 h2
    go_enter Try.func9, Try.ntmps9
    go_wp2_with (first
      | (go_at_call 32; refine ((CS _).out).mono ?_; rintro e w9 ⟨rfl, h9⟩; rw [h9]; clear h9)
      | (go_at_call 33; refine ((CF _).out).mono ?_; rintro e w2 ⟨g, rfl, hg1, hg2, hb2⟩; have HB2 := Lib.hid (below_nxt HB0.out hb2); have HG2 := Lib.hid hg2; have HR2 := Lib.hid (HR0.out.step hb2); clear hb2 hg2))
    refine ((CBo w2 g HG2.out).out).mono ?_
    rintro e w4 ⟨v4, rfl, hV4, hb4⟩
    obtain ⟨ao4, cap4, rfl⟩ := hV4.form
    have HB4 := Lib.hid (below_nxt HB2.out hb4)
    have HR4 := Lib.hid (HR2.out.step hb4)
    have hz3 := HR2.out.1
    have HF4 := Lib.hid hV4
    obtain ⟨k0, k1, k2, k3, k4⟩ := HR4.out
    clear hb4 hV4 CF CBo r0 r1 r2 r3 r4
    generalize Bn.rws N Bn.fre = q at *
    go_wp2
    obtain ⟨RW, BW, VW⟩ := fin_valG HR4.out HB4.out (Nat.le_refl _) HF4.out hz3
    generalize ((w4.setCell ⟨w.heap.size, 0, none⟩ (.int .i64 (N : Int))).setCell ⟨w.heap.size, 1, none⟩ (.slice ao4 q.length cap4)) = W2 at *
    obtain ⟨-, t1, t2, -, -⟩ := RW
    exact bodyPost_ret (v := .tuple #[.agg #[.int .i64 (N : Int), .slice ao4 q.length cap4], .int .i64 0]) (by simp [results, Try.results9, go_sem, t1, t2]) rfl ⟨_, rfl, VW, BW⟩
set_option maxHeartbeats 4000000 in
set_option maxRecDepth 100000 in
theorem rNew_any (n : Int) (w : World) : Calls Try.prog 10 #[.int .i64 n] w (RetB (Bn.newV n) w) := by
  have HR0 := Lib.hid (resI_new w 0 (.slice none 0 0) 24)
  have HB0 := Lib.hid ((Below.refl w.heap.size w).alloc (Nat.le_refl _) (.cells #[.int .i64 0, .slice none 0 0] 24))
  obtain ⟨r0, r1, r2, r3, r4⟩ := HR0.out
  unfold Bn.newV
  rcases (show n < 0 ∨ (0 ≤ n ∧ 12 < n) ∨ (0 ≤ n ∧ n ≤ 12) by omega) with h | ⟨h, h2⟩ | ⟨h, h2⟩
  · rw [if_neg (fun e => by have := Bn.idx_iff.1 e; omega)]
    have h1 : decide (n < 0) = true := decide_eq_true h
    go_enter Try.func10, Try.ntmps10
    go_wp2
    exact bodyPost_ret (v := .tuple #[.agg #[.int .i64 0, .slice none 0 0], .int .i64 2]) (by simp [results, Try.results10, go_sem]) rfl ⟨_, rfl, ValB.nil _, HB0.out⟩
  · rw [if_neg (fun e => by have := Bn.idx_iff.1 e; omega)]
    have h1 : decide (n < 0) = false := decide_eq_false (by omega)
    have h3 : decide (12 < n) = true := decide_eq_true h2
    go_enter Try.func10, Try.ntmps10
    go_wp2
    exact bodyPost_ret (v := .tuple #[.agg #[.int .i64 0, .slice none 0 0], .int .i64 2]) (by simp [results, Try.results10, go_sem]) rfl ⟨_, rfl, ValB.nil _, HB0.out⟩
  · rw [if_pos (Bn.idx_iff.2 ⟨h, h2⟩)]
    obtain ⟨N, rfl⟩ := Int.eq_ofNat_of_zero_le h
    rw [Int.toNat_natCast]
    have h1 : decide ((N : Int) < 0) = false := decide_eq_false (by omega)
    have h3 : decide (12 < (N : Int)) = false := decide_eq_false (by omega)
    have CF := fun W => Lib.hid (rFree_any N W (by omega))
    go_enter Try.func10, Try.ntmps10
    go_wp2_with fail
    refine ((CF _).out).mono ?_
    rintro e w4 ⟨v4, rfl, ⟨A, cp, f, c, rfl, hcp1, hcp2, hG⟩, hb4⟩
    have HF4 := Lib.hid ((show ValF (w.alloc (.cells #[.int .i64 0, .slice none 0 0] 24)).heap.size w4 (.agg #[.int .i64 (N : Int), .slice (some ⟨A, 0, none⟩) (N + 1) cp]) N (Bn.rws N Bn.fre) from hG.valF hcp1 hcp2).mono (B' := w.heap.size + 1) (by simp))
    have HB4 := Lib.hid (below_nxt HB0.out hb4)
    have HR4 := Lib.hid (HR0.out.step hb4)
    clear hb4 hG r0 r1 r2 r3 r4
    obtain ⟨k0, k1, k2, k3, k4⟩ := HR4.out
    go_wp2
    obtain ⟨RW, BW, VW⟩ := fin_valG HR4.out HB4.out (Nat.le_refl _) HF4.out (by omega)
    generalize ((w4.setCell ⟨w.heap.size, 0, none⟩ (.int .i64 (N : Int))).setCell ⟨w.heap.size, 1, none⟩ (.slice (some ⟨A, 0, none⟩) (N + 1) cp)) = W2 at *
    obtain ⟨-, t1, t2, -, -⟩ := RW
    exact bodyPost_ret (v := .tuple #[.agg #[.int .i64 (N : Int), .slice (some ⟨A, 0, none⟩) (N + 1) cp], .int .i64 0]) (by simp [results, Try.results10, go_sem, t1, t2]) rfl ⟨_, rfl, VW, BW⟩
end Go.Proofs.Ytaikegiohjpifaa
