/- Grow$1 of package bounds, the values of Grow. -/
import Derived.Test.YtaikegiohjpifaaBQa
import Derived.Test.YtaikegiohjpifaaBs
namespace Bn
/-- The bounds with one more time, whose span is a, b. -/
def grM (R : List (List Int)) (N : Nat) (a b : Int) : Mx := up (up (sq N (mx R) fre) 0 (N + 1) b) (N + 1) 0 (-a)
def growV (n : Int) (R : List (List Int)) (a b : Int) : Int × List (List Int) × Int :=
  if chk n R = 0 then (if n = 12 then (0, [], 5) else (if spE a b = 0 then (n + 1, rws (n + 1).toNat (grM R n.toNat a b), 0) else (0, [], spE a b))) else (0, [], chk n R)
theorem fre_isB (x y : Nat) : isB (fre x y) = true := by unfold fre; split <;> rfl
theorem grM_allB {N : Nat} {R : List (List Int)} {a b : Int} (hR : Rt N (mx R)) (h : spE a b = 0) : allB (N + 1) (grM R N a b) = true := allB_iff.2 fun x y _ _ => by
  obtain ⟨h1, h2, h3⟩ := spE_ok h
  unfold grM up
  split
  · exact num_isB (by unfold num; rw [decide_eq_true (show -64000000 ≤ -a by omega), decide_eq_true (show -a ≤ 64000000 by omega)]; rfl)
  · split
    · exact num_isB (by unfold num; rw [decide_eq_true (show -64000000 ≤ b by omega), decide_eq_true (show b ≤ 64000000 by omega)]; rfl)
    · unfold sq
      split
      · rename_i g
        rcases hR.bd x y g.1 g.2 with h | h
        · rw [h]; rfl
        · exact num_isB (by unfold num; rw [decide_eq_true h.1, decide_eq_true h.2]; rfl)
      · exact fre_isB x y
theorem bV_grM {N : Nat} {R : List (List Int)} {a b : Int} (hR : Rt N (mx R)) (h : spE a b = 0) : Go.Proofs.Ytaikegiohjpifaa.Bn.bV (N + 1) (grM R N a b) = ((N : Int) + 1, rws (N + 1) (grM R N a b), 0) := by
  unfold Go.Proofs.Ytaikegiohjpifaa.Bn.bV
  rw [if_pos (grM_allB hR h)]
  rfl
/-- What the program's own matrix holds at the end. -/
def grP (R : List (List Int)) (N : Nat) (a b : Int) : Mx :=
  let u := sq N (sq N (mx R) zer) (sq (N + 1) fre zer)
  up (up u 0 (N + 1) (mn (u 0 (N + 1)) b)) (N + 1) 0 (mn (up u 0 (N + 1) (mn (u 0 (N + 1)) b) (N + 1) 0) (-a))
theorem mn_none (b : Int) : mn (-1099511627776) b = b := by unfold mn; grind
theorem grP_eq {R : List (List Int)} {N : Nat} {a b : Int} {i j : Nat} (hi : i ≤ N + 1) (hj : j ≤ N + 1) : grP R N a b i j = grM R N a b i j := by
  have e1 : sq N (sq N (mx R) zer) (sq (N + 1) fre zer) 0 (N + 1) = -1099511627776 := by
    unfold sq fre
    rw [if_neg (by omega), if_pos (by omega), if_neg (by omega)]
  have e2 : sq N (sq N (mx R) zer) (sq (N + 1) fre zer) (N + 1) 0 = -1099511627776 := by
    unfold sq fre
    rw [if_neg (by omega), if_pos (by omega), if_neg (by omega)]
  unfold grP grM
  rw [e1, mn_none]
  unfold up
  rw [if_neg (show ¬ (N + 1 = 0 ∧ 0 = N + 1) by omega), e2, mn_none]
  split
  · rfl
  · split
    · rfl
    · unfold sq
      split
      · rfl
      · rw [if_pos ⟨hi, hj⟩]
end Bn
namespace Go.Proofs.Ytaikegiohjpifaa
open Go.RowKit
set_option maxHeartbeats 2000000 in
set_option maxRecDepth 100000 in
theorem bGrw1_any (i j g g2 mb gb : Nat) (n k : Int) (m u : Bn.Mx) (W : World) (hi : i < 13) (hj : j < 13) (hM : MtxI W g n m) (hU : MtxI W g2 k u) (hm : BoxV W mb (.pointer (some ⟨g, 0, none⟩))) (hb : BoxV W gb (.pointer (some ⟨g2, 0, none⟩))) :
    Calls Try.prog 46 #[.int .i64 i, .int .i64 j, .pointer (some ⟨mb, 0, none⟩), .pointer (some ⟨gb, 0, none⟩)] W fun e w' => e = .returned (.tuple #[]) ∧ W.grownBy w' (some g2) ∧ MtxI w' g2 k (Bn.up u i j (m i j)) := by
  have HU := Lib.hid hU
  obtain ⟨u0, u1, u2⟩ := hU
  obtain ⟨u3, u4⟩ := u2 i j hi hj
  have y3 := hM.at hi hj
  obtain ⟨v0, v1⟩ := hm
  obtain ⟨v2, v3⟩ := hb
  clear u2 hM
  generalize m i j = x at *
  go_enter Try.func46, Try.ntmps46
  go_region
  go_end0
  exact ⟨rfl, grown_drew (grown_set (grown_refl _ _)), HU.out.put hi hj x⟩
/-- The loop over all pairs. -/
theorem grow_each (N g g2 mb gb : Nat) (k : Int) (m u : Bn.Mx) (X : World) (hN : N ≤ 12) (hM : MtxI X g N m) (hU : MtxI X g2 k u) (hm : BoxV X mb (.pointer (some ⟨g, 0, none⟩))) (hg : BoxV X gb (.pointer (some ⟨g2, 0, none⟩))) (h1 : g ≠ g2) (h2 : mb ≠ g2) (h3 : gb ≠ g2) :
    Calls Try.prog 45 #[.pointer (some ⟨g, 0, none⟩), .func (.func 46) #[] #[.pointer (some ⟨mb, 0, none⟩), .pointer (some ⟨gb, 0, none⟩)]] X fun e w' => e = .returned (.tuple #[]) ∧ MtxI w' g2 k (Bn.sq N m u) ∧ X.grownBy w' (some g2) := by
  refine (each_grow (.pointer (some ⟨mb, 0, none⟩)) (.pointer (some ⟨gb, 0, none⟩)) g N (fun i j W => MtxI W g2 k (Bn.fil (Bn.sq N m u) u i j) ∧ X.grownBy W (some g2)) X hN
    ⟨hU.congr (fun a b _ _ => (Bn.fil_zero _ _ a b).symm), grown_refl _ _⟩ (fun i j Y h => (hM.grown h.2 h1).2.1) ?_ ?_).mono ?_
  · rintro i j Y hi hj ⟨p1, p2⟩
    refine (bGrw1_any i j g g2 mb gb N k m _ Y (by omega) (by omega) (hM.grown p2 h1) p1 (hm.grown p2 h2) (hg.grown p2 h3)).mono ?_
    rintro e w1 ⟨rfl, hg1, hm1⟩
    refine ⟨rfl, hm1.congr (fun b c _ _ => ?_), grown_trans p2 hg1⟩
    have := Bn.fil_next (Bn.sq N m u) u i j b c
    rw [Bn.sq_in hi hj] at this
    exact this
  · rintro i Y hi ⟨p1, p2⟩
    exact ⟨p1.congr (fun b c _ _ => Bn.fil_row Bn.sq_col b c), p2⟩
  · rintro e w1 ⟨rfl, p1, p2⟩
    exact ⟨rfl, p1.congr (fun b c _ _ => Bn.fil_end Bn.sq_row b c), p2⟩
end Go.Proofs.Ytaikegiohjpifaa
