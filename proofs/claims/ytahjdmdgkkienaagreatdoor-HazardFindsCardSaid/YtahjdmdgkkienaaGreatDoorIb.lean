/- The contracts of package implicant and of its reference on pairs of cubes. -/
import Derived.Test.YtahjdmdgkkienaaGreatDoorIa
namespace Go.Proofs.YtahjdmdgkkienaaGreatDoor
open Go.RowKit Go.Shelf

theorem ret_agg2 {a b a' b' : Int} {T : IntKind} (h1 : a = a') (h2 : b = b') : Ending.returned (.agg #[.int T a, .int T b]) = Ending.returned (.agg #[.int T a', .int T b']) := by rw [h1, h2]
set_option maxRecDepth 100000 in
theorem iJoin_any (c v d u : Nat) (w : World) (hc : c < 2 ^ 64) (hv : v < 2 ^ 64) (hd : d < 2 ^ 64) (hu : u < 2 ^ 64) :
    Calls Tryz.prog 94 #[.agg #[.int .u64 c, .int .u64 v], .agg #[.int .u64 d, .int .u64 u]] w fun e w' => e = .returned (.agg #[.int .u64 ((c ||| d : Nat) : Int), .int .u64 ((v ||| u : Nat) : Int)]) ∧ Below w.heap.size w w' := by
  obtain ⟨P0, P1, P2, L0, z0⟩ := cub3_new w c v d u 0 0 62
  have e1 := u64_or_nat c d (by simpa using hc) (by simpa using hd)
  have e2 := u64_or_nat v u (by simpa using hv) (by simpa using hu)
  generalize c ||| d = x at *
  generalize v ||| u = y at *
  generalize hX : ((w.alloc (.cells #[.int .u64 (c : Int), .int .u64 (v : Int)] 62)).alloc (.cells #[.int .u64 (d : Int), .int .u64 (u : Int)] 62)).alloc (.cells #[.int .u64 ((0 : Nat) : Int), .int .u64 ((0 : Nat) : Int)] 62) = X at *
  change ((w.alloc (.cells #[.int .u64 (c : Int), .int .u64 (v : Int)] 62)).alloc (.cells #[.int .u64 (d : Int), .int .u64 (u : Int)] 62)).alloc (.cells #[.int .u64 0, .int .u64 0] 62) = X at hX
  obtain ⟨p0, p1, p2, p3, p4⟩ := id P0
  obtain ⟨q0, q1, q2, q3, q4⟩ := id P1
  obtain ⟨r0, r1, r2, r3, r4⟩ := id P2
  clear hc hv hd hu
  go_enter Tryz.func94, Tryz.ntmps94
  go_wp2
  exact bodyPost_ret (v := .agg #[.int .u64 x, .int .u64 y]) (by simp [results, Tryz.results94, go_sem, r1, r2]) rfl ⟨rfl, by (repeat' (first | exact L0 | refine Below.alloc ?_ (by simp; omega) _ | refine Below.setCell ?_ (by first | exact Nat.le_refl _ | (dsimp only; omega) | (simp; omega)) _ | refine Below.drew ?_))⟩
set_option maxRecDepth 100000 in
theorem iWithout_any (c v x : Nat) (w : World) (hc : c < 2 ^ 64) (hv : v < 2 ^ 64) (hx : x < 2 ^ 64) :
    Calls Tryz.prog 96 #[.agg #[.int .u64 c, .int .u64 v], .int .u64 x] w fun e w' => e = .returned (.agg #[.int .u64 ((c &&& (18446744073709551615 - x) : Nat) : Int), .int .u64 ((v &&& (18446744073709551615 - x) : Nat) : Int)]) ∧ Below w.heap.size w w' := by
  obtain ⟨P0, P2, L0, z0⟩ := cub2_new w c v 0 0 62
  have e1 := and_not hc hx
  have e2 := and_not hv hx
  generalize c &&& (18446744073709551615 - x) = y at *
  generalize v &&& (18446744073709551615 - x) = z at *
  generalize hX : (w.alloc (.cells #[.int .u64 (c : Int), .int .u64 (v : Int)] 62)).alloc (.cells #[.int .u64 ((0 : Nat) : Int), .int .u64 ((0 : Nat) : Int)] 62) = X at *
  change (w.alloc (.cells #[.int .u64 (c : Int), .int .u64 (v : Int)] 62)).alloc (.cells #[.int .u64 0, .int .u64 0] 62) = X at hX
  obtain ⟨p0, p1, p2, p3, p4⟩ := id P0
  obtain ⟨r0, r1, r2, r3, r4⟩ := id P2
  clear hc hv hx
  go_enter Tryz.func96, Tryz.ntmps96
  go_wp2
  exact bodyPost_ret (v := .agg #[.int .u64 y, .int .u64 z]) (by simp [results, Tryz.results96, go_sem, r1, r2]) rfl ⟨rfl, by (repeat' (first | exact L0 | refine Below.alloc ?_ (by simp; omega) _ | refine Below.setCell ?_ (by first | exact Nat.le_refl _ | (dsimp only; omega) | (simp; omega)) _ | refine Below.drew ?_))⟩
end Go.Proofs.YtahjdmdgkkienaaGreatDoor

