/- The contracts of package implicant and of its reference on cubes: Check, of one and of two; what is opposed, joined, left out. -/
import Derived.Test.YtahjdmdgkkienaaGreatDoorIp
import Derived.Test.YtahjdmdgkkienaaGreatDoorUx
import Derived.Test.YtahjdmdgkkienaaGreatDoorUl
namespace Go.Proofs.YtahjdmdgkkienaaGreatDoor
open Go.RowKit Go.Shelf

/-- A variable of a cube. -/
def CubI (W : World) (g : Nat) (c v : Nat) : Prop :=
  g < W.heap.size ∧ W.cell? ⟨g, 0, none⟩ = some (.int .u64 (c : Int)) ∧ W.cell? ⟨g, 1, none⟩ = some (.int .u64 (v : Int)) ∧ W.frozen? ⟨g, 0, none⟩ = false ∧ W.frozen? ⟨g, 1, none⟩ = false
theorem CubI.below {W W' : World} {g c v : Nat} (h : CubI W g c v) {B : Nat} (hB : g < B) (hb : Below B W W') : CubI W' g c v := by
  obtain ⟨h0, h1, h2, h3, h4⟩ := h
  exact ⟨Nat.lt_of_lt_of_le h0 hb.size, (hb.cell (p := ⟨g, 0, none⟩) hB).trans h1, (hb.cell (p := ⟨g, 1, none⟩) hB).trans h2, (hb.frozen (p := ⟨g, 0, none⟩) hB).trans h3, (hb.frozen (p := ⟨g, 1, none⟩) hB).trans h4⟩
theorem below_nxt {w0 w w' : World} (h : Below w0.heap.size w0 w) (hb : Below w.heap.size w w') : Below w0.heap.size w0 w' := h.trans (hb.mono h.size)
theorem CubI.step {w w' : World} {g c v : Nat} (h : CubI w g c v) (hb : Below w.heap.size w w') : CubI w' g c v := h.below h.1 hb
theorem CubI.drew {w : World} {g c v : Nat} (h : CubI w g c v) : CubI w.drew g c v := h
theorem CubI.box {w w' : World} {g c v : Nat} {o : Obj} (h : CubI w g c v) (hb : Below (w.alloc o).heap.size (w.alloc o) w') : CubI w' g c v :=
  (h.below h.1 ((Below.refl _ _).alloc (Nat.le_refl _) o)).below (by simp; have := h.1; omega) hb
theorem cubI_new (w : World) (c v : Nat) (T : TypeId) : CubI (w.alloc (.cells #[.int .u64 (c : Int), .int .u64 (v : Int)] T)) w.heap.size c v := by
  unfold CubI
  simp
theorem cub1_new (w : World) (c v : Nat) (T : TypeId) : CubI (w.alloc (.cells #[.int .u64 (c : Int), .int .u64 (v : Int)] T)) w.heap.size c v ∧ Below w.heap.size w (w.alloc (.cells #[.int .u64 (c : Int), .int .u64 (v : Int)] T)) ∧ (w.alloc (.cells #[.int .u64 (c : Int), .int .u64 (v : Int)] T)).heap.size = w.heap.size + 1 :=
  ⟨cubI_new w c v T, (Below.refl _ w).alloc (Nat.le_refl _) _, by simp⟩
theorem cub2_new (w : World) (c v d u : Nat) (T : TypeId) :
    CubI ((w.alloc (.cells #[.int .u64 (c : Int), .int .u64 (v : Int)] T)).alloc (.cells #[.int .u64 (d : Int), .int .u64 (u : Int)] T)) w.heap.size c v ∧
    CubI ((w.alloc (.cells #[.int .u64 (c : Int), .int .u64 (v : Int)] T)).alloc (.cells #[.int .u64 (d : Int), .int .u64 (u : Int)] T)) (w.heap.size + 1) d u ∧
    Below w.heap.size w ((w.alloc (.cells #[.int .u64 (c : Int), .int .u64 (v : Int)] T)).alloc (.cells #[.int .u64 (d : Int), .int .u64 (u : Int)] T)) ∧
    ((w.alloc (.cells #[.int .u64 (c : Int), .int .u64 (v : Int)] T)).alloc (.cells #[.int .u64 (d : Int), .int .u64 (u : Int)] T)).heap.size = w.heap.size + 2 := by
  obtain ⟨a1, a2, a3⟩ := cub1_new w c v T
  obtain ⟨b1, b2, b3⟩ := cub1_new (w.alloc (.cells #[.int .u64 (c : Int), .int .u64 (v : Int)] T)) d u T
  rw [a3] at b1 b2 b3
  exact ⟨a1.below (by omega) b2, b1, a2.trans (b2.mono (by omega)), b3⟩
theorem cub3_new (w : World) (c v d u p q : Nat) (T : TypeId) :
    CubI (((w.alloc (.cells #[.int .u64 (c : Int), .int .u64 (v : Int)] T)).alloc (.cells #[.int .u64 (d : Int), .int .u64 (u : Int)] T)).alloc (.cells #[.int .u64 (p : Int), .int .u64 (q : Int)] T)) w.heap.size c v ∧
    CubI (((w.alloc (.cells #[.int .u64 (c : Int), .int .u64 (v : Int)] T)).alloc (.cells #[.int .u64 (d : Int), .int .u64 (u : Int)] T)).alloc (.cells #[.int .u64 (p : Int), .int .u64 (q : Int)] T)) (w.heap.size + 1) d u ∧
    CubI (((w.alloc (.cells #[.int .u64 (c : Int), .int .u64 (v : Int)] T)).alloc (.cells #[.int .u64 (d : Int), .int .u64 (u : Int)] T)).alloc (.cells #[.int .u64 (p : Int), .int .u64 (q : Int)] T)) (w.heap.size + 2) p q ∧
    Below w.heap.size w (((w.alloc (.cells #[.int .u64 (c : Int), .int .u64 (v : Int)] T)).alloc (.cells #[.int .u64 (d : Int), .int .u64 (u : Int)] T)).alloc (.cells #[.int .u64 (p : Int), .int .u64 (q : Int)] T)) ∧
    (((w.alloc (.cells #[.int .u64 (c : Int), .int .u64 (v : Int)] T)).alloc (.cells #[.int .u64 (d : Int), .int .u64 (u : Int)] T)).alloc (.cells #[.int .u64 (p : Int), .int .u64 (q : Int)] T)).heap.size = w.heap.size + 3 := by
  obtain ⟨a1, a2, a3, a4⟩ := cub2_new w c v d u T
  obtain ⟨b1, b2, b3⟩ := cub1_new ((w.alloc (.cells #[.int .u64 (c : Int), .int .u64 (v : Int)] T)).alloc (.cells #[.int .u64 (d : Int), .int .u64 (u : Int)] T)) p q T
  rw [a4] at b1 b2 b3
  exact ⟨a1.below (by omega) b2, a2.below (by omega) b2, b1, a3.trans (b2.mono (by omega)), b3⟩

set_option maxRecDepth 100000 in
theorem iCheck_any (n : Int) (c v : Nat) (w : World) (hc : c < 2 ^ 64) (hv : v < 2 ^ 64) :
    Calls Tryz.prog 53 #[.int .i64 n, .agg #[.int .u64 c, .int .u64 v]] w fun e w' => e = .returned (.int .i64 (Ic.chk n c v)) ∧ Below w.heap.size w w' := by
  obtain ⟨P0, L0, z0⟩ := cub1_new w c v 62
  obtain ⟨p0, p1, p2, p3, p4⟩ := id P0
  by_cases hn : 0 ≤ n ∧ n ≤ 6
  · have e1 := and_not hv hc
    have HW : Ic.chk n c v = if 2 ^ n.toNat ≤ c ∨ v &&& (18446744073709551615 - c) ≠ 0 then 3 else 0 := if_neg (by omega)
    generalize (v &&& (18446744073709551615 - c)) = y at *
    generalize hX : w.alloc (.cells #[.int .u64 (c : Int), .int .u64 (v : Int)] 62) = X at *
    rcases seven hn.1 hn.2 with rfl | rfl | rfl | rfl | rfl | rfl | rfl
    all_goals
      have HW := Lib.hid HW
      clear hn
      go_enter Tryz.func53, Tryz.ntmps53
      go_wp2
      all_goals (go_ret; refine ⟨ret_int ?_, L0⟩; rw [HW.out]; clear HW; go_light; grind)
  · have hc : Ic.chk n c v = 2 := by unfold Ic.chk; rw [if_pos (by omega)]
    rw [hc]
    generalize hX : w.alloc (.cells #[.int .u64 (c : Int), .int .u64 (v : Int)] 62) = X at *
    clear hc hv
    go_enter Tryz.func53, Tryz.ntmps53
    go_wp2
    all_goals (first | (exfalso; omega) | (go_ret; exact ⟨rfl, L0⟩))
set_option maxRecDepth 100000 in
theorem rcCheck_any (n : Int) (c v : Nat) (w : World) (hc : c < 2 ^ 64) (hv : v < 2 ^ 64) :
    Calls Tryz.prog 56 #[.int .i64 n, .agg #[.int .u64 c, .int .u64 v]] w fun e w' => e = .returned (.int .i64 (Ic.chk n c v)) ∧ Below w.heap.size w w' := by
  obtain ⟨P0, L0, z0⟩ := cub1_new w c v 62
  obtain ⟨p0, p1, p2, p3, p4⟩ := id P0
  by_cases hn : 0 ≤ n ∧ n ≤ 6
  · have e1 := and_not hv hc
    have HW : Ic.chk n c v = if 2 ^ n.toNat ≤ c ∨ v &&& (18446744073709551615 - c) ≠ 0 then 3 else 0 := if_neg (by omega)
    generalize (v &&& (18446744073709551615 - c)) = y at *
    generalize hX : w.alloc (.cells #[.int .u64 (c : Int), .int .u64 (v : Int)] 62) = X at *
    have HW := Lib.hid HW
    obtain ⟨k, rfl⟩ := Int.eq_ofNat_of_zero_le hn.1
    have hk6 : k ≤ 6 := by omega
    clear hn
    rw [Int.toNat_natCast] at HW
    have hw : IntKind.u64.wrap (2 ^ k) = ((2 ^ k : Nat) : Int) := by
      rw [IntKind.wrap_u64]
      rcases (show k = 0 ∨ k = 1 ∨ k = 2 ∨ k = 3 ∨ k = 4 ∨ k = 5 ∨ k = 6 by omega) with rfl | rfl | rfl | rfl | rfl | rfl | rfl <;> rfl
    by_cases hk : 2 ^ k ≤ c
    all_goals
      first
        | (have hd : decide (IntKind.u64.wrap (2 ^ k) ≤ (c : Int)) = true := decide_eq_true (by rw [hw]; omega))
        | (have hd : decide (IntKind.u64.wrap (2 ^ k) ≤ (c : Int)) = false := decide_eq_false (by rw [hw]; omega))
      have HK := Lib.hid hk
      clear hk hw
      go_enter Tryz.func56, Tryz.ntmps56
      go_wp2
      go_quiet (fail)
      go_wp2
      all_goals (go_ret; refine ⟨ret_int ?_, L0.trans (below_drewN _ _)⟩; rw [HW.out]; have hk := HK.out; clear HW HK; go_light; grind)
  · have hc : Ic.chk n c v = 2 := by unfold Ic.chk; rw [if_pos (by omega)]
    rw [hc]
    generalize hX : w.alloc (.cells #[.int .u64 (c : Int), .int .u64 (v : Int)] 62) = X at *
    clear hc hv
    go_enter Tryz.func56, Tryz.ntmps56
    go_wp2
    all_goals (first | (exfalso; omega) | (go_ret; exact ⟨rfl, L0⟩))
end Go.Proofs.YtahjdmdgkkienaaGreatDoor

