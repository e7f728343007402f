/- Paths of the reference. -/
import Derived.Test.YtkemicfaiipidaaBr
import Derived.StillTailTactics
namespace Bn
theorem up_fil0 (F G : Mx) (i j a b : Nat) : fil F G i j a b = up (fil F G i j) i j (G i j) a b := by unfold up fil; grind
theorem up_filE {F G : Mx} {i j : Nat} {x : Int} (h : F i j = x) (a b : Nat) : up (fil F G i j) i j x a b = fil F G i (j + 1) a b := by
  subst h; exact fil_next F G i j a b
theorem up_up (m : Mx) (i j : Nat) (x y : Int) (a b : Nat) : up (up m i j x) i j y a b = up m i j y a b := by unfold up; grind
theorem fil_rowN {F G : Mx} {n i a b : Nat} (hb : b ≤ n) : fil F G i (n + 1) a b = fil F G (i + 1) 0 a b := by unfold fil; grind
theorem fil_endN {F G : Mx} {n a b : Nat} (ha : a ≤ n) : fil F G (n + 1) 0 a b = F a b := by unfold fil; grind
section
variable {n : Nat} {b : Mx} (hR : Rt n b)
include hR
theorem bd_b {i j : Nat} (hi : i ≤ n) (hj : j ≤ n) : -4000000000000 ≤ b i j ∧ b i j ≤ 4000000000000 := by
  have := hR.bd i j hi hj; omega
theorem bd_pr {r i j : Nat} (hr : r ≤ 14) (hi : i ≤ n) (hj : j ≤ n) : -4000000000000 ≤ pr n b r i j ∧ pr n b r i j ≤ 4000000000000 := by
  by_cases e : pr n b r i j = -1099511627776
  · omega
  · have := pr_bd hR hi hj hr e; omega
end
end Bn
namespace Go.Proofs.Ytkemicfaiipidaa
open Go.RowKit

theorem Grd.at {B A k : Nat} {W : World} {f c : Nat → Nat} {m : Bn.Mx} (h : Grd B W A k k f c m) {i j : Nat} (hi : i < k) (hj : j < k) :
    W.cell? ⟨A, i, none⟩ = some (.slice (some ⟨f i, 0, none⟩) k (c i)) ∧ W.cell? ⟨f i, j, none⟩ = some (.int .i64 (m i j)) ∧ W.frozen? ⟨f i, j, none⟩ = false := by
  have h1 := (h.cell i hi).1
  rw [if_pos hi] at h1
  exact ⟨h1, h.row i j hi hj⟩

end Go.Proofs.Ytkemicfaiipidaa

