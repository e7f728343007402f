/- Changes: checkChange, Between and Logic of package hazard. What Between and Logic return. Words of small numbers. -/
import Derived.Test.YtahjdmdgkkienaaGreatDoorHB
namespace Hz
/-- What checkChange returns. -/
def chg (n : Int) (l : List (Nat × Nat)) (a b : Int) : Int := if chk n l ≠ 0 then chk n l else if a < 0 ∨ 2 ^ n.toNat ≤ a ∨ b < 0 ∨ 2 ^ n.toNat ≤ b then 2 else 0
end Hz
namespace Go.Proofs.YtahjdmdgkkienaaGreatDoor
open Go.RowKit Go.Shelf

set_option maxHeartbeats 4000000 in
set_option maxRecDepth 100000 in
theorem hChg_any (n : Int) (l : List (Nat × Nat)) (sv : Value) (a b : Int) (w : World) (hw : Hz.W64 l) (hs : SeesO w sv l) :
    Calls Tryz.prog 24 #[.int .i64 n, sv, .agg #[.int .i64 a, .int .i64 b]] w fun e w' => e = .returned (.int .i64 (Hz.chg n l a b)) ∧ Below w.heap.size w w' := by
  have CK := fun W h => Lib.hid (hCheck_any n l sv W hw h)
  have HSE := Lib.hid hs
  have i0 : ∀ w, (Instr.index 56 (.agg #[.int .i64 a, .int .i64 b]) (.int .i64 0)).run Tryz.prog w = .ok (.int .i64 a) w := fun _ => by kernel_rfl
  have i1 : ∀ w, (Instr.index 56 (.agg #[.int .i64 a, .int .i64 b]) (.int .i64 1)).run Tryz.prog w = .ok (.int .i64 b) w := fun _ => by kernel_rfl
  obtain ⟨P1, L1, z1⟩ := chI_new w a b 24
  generalize hY : w.alloc (.cells #[.int .i64 a, .int .i64 b] 24) = Y at *
  have L0 := Lib.hid L1
  by_cases hk : Hz.chk n l = 0
  · obtain ⟨m, rfl, hm, -, -⟩ := Hz.chk_ok (fun p hp => (hw p hp).2) hk
    rw [hk] at CK
    unfold Hz.chg
    rw [hk, if_neg (by simp), Int.toNat_natCast]
    clear hw hs L1 z1 hk
    obtain ⟨N, hN⟩ : ∃ N : Int, (2 : Int) ^ m = N := ⟨_, rfl⟩
    rw [hN]
    by_cases hA : a < 0 ∨ N ≤ a
    · rw [if_pos (by omega)]
      rcases (show m = 0 ∨ m = 1 ∨ m = 2 ∨ m = 3 ∨ m = 4 ∨ m = 5 ∨ m = 6 by omega) with rfl | rfl | rfl | rfl | rfl | rfl | rfl
      all_goals
        simp only [Int.reducePow] at hN
        subst hN
        go_enter Tryz.func24, Tryz.ntmps24
        go_wp2_with (go_at_call 13; refine ((CK _ (HSE.out.step L0.out)).out).mono ?_; rintro e w1 ⟨rfl, hb⟩; obtain ⟨q0, q1, q2⟩ := P1.step hb; have HB := Lib.hid (below_nxt L0.out hb); clear hb)
        go_loopw [21] (fun s21 wr => s21 = .int .i64 0 ∧ wr = w1) (fun s21 _ => 2 - (intOf s21).toNat)
        case atStart => exact ⟨rfl, rfl⟩
        case round =>
          obtain ⟨rfl, rfl⟩ := hrel
          go_wp2
          all_goals first | omega | exact bodyPost_ret (v := .int .i64 2) (by simp [results, Tryz.results24, go_sem]) rfl ⟨rfl, HB.out⟩
    · by_cases hB : b < 0 ∨ N ≤ b
      · rw [if_pos (by omega)]
        rcases (show m = 0 ∨ m = 1 ∨ m = 2 ∨ m = 3 ∨ m = 4 ∨ m = 5 ∨ m = 6 by omega) with rfl | rfl | rfl | rfl | rfl | rfl | rfl
        all_goals
          simp only [Int.reducePow] at hN
          subst hN
          go_enter Tryz.func24, Tryz.ntmps24
          go_wp2_with (go_at_call 13; refine ((CK _ (HSE.out.step L0.out)).out).mono ?_; rintro e w1 ⟨rfl, hb⟩; obtain ⟨q0, q1, q2⟩ := P1.step hb; have HB := Lib.hid (below_nxt L0.out hb); clear hb)
          go_loopw [21] (fun s21 wr => ∃ i : Nat, i ≤ 1 ∧ s21 = .int .i64 i ∧ wr = w1) (fun s21 _ => 2 - (intOf s21).toNat)
          case atStart => exact ⟨0, by omega, rfl, rfl⟩
          case round =>
            obtain ⟨i, hi, rfl, rfl⟩ := hrel
            rcases (show i = 0 ∨ i = 1 by omega) with rfl | rfl
            · go_wp2
              all_goals first | omega | exact ⟨⟨1, by omega, rfl, by first | rfl | trivial⟩, by simp [intOf]⟩
            · go_wp2
              all_goals first | omega | exact bodyPost_ret (v := .int .i64 2) (by simp [results, Tryz.results24, go_sem]) rfl ⟨rfl, HB.out⟩
      · rw [if_neg (by omega)]
        rcases (show m = 0 ∨ m = 1 ∨ m = 2 ∨ m = 3 ∨ m = 4 ∨ m = 5 ∨ m = 6 by omega) with rfl | rfl | rfl | rfl | rfl | rfl | rfl
        all_goals
          simp only [Int.reducePow] at hN
          subst hN
          go_enter Tryz.func24, Tryz.ntmps24
          go_wp2_with (go_at_call 13; refine ((CK _ (HSE.out.step L0.out)).out).mono ?_; rintro e w1 ⟨rfl, hb⟩; obtain ⟨q0, q1, q2⟩ := P1.step hb; have HB := Lib.hid (below_nxt L0.out hb); clear hb)
          go_loopw [21] (fun s21 wr => ∃ i : Nat, i ≤ 2 ∧ s21 = .int .i64 i ∧ wr = w1) (fun s21 _ => 2 - (intOf s21).toNat)
          case atStart => exact ⟨0, by omega, rfl, rfl⟩
          case round =>
            obtain ⟨i, hi, rfl, rfl⟩ := hrel
            rcases (show i = 0 ∨ i = 1 ∨ i = 2 by omega) with rfl | rfl | rfl
            · go_wp2
              all_goals first | omega | exact ⟨⟨1, by omega, rfl, by first | rfl | trivial⟩, by simp [intOf]⟩
            · go_wp2
              all_goals first | omega | exact ⟨⟨2, by omega, rfl, by first | rfl | trivial⟩, by simp [intOf]⟩
            · go_wp2
              exact bodyPost_ret (v := .int .i64 0) (by simp [results, Tryz.results24, go_sem]) rfl ⟨rfl, HB.out⟩
  · unfold Hz.chg
    rw [if_pos hk]
    have hne : (Hz.chk n l != 0) = true := by simp [hk]
    generalize Hz.chk n l = k at *
    clear hw hs
    go_enter Tryz.func24, Tryz.ntmps24
    go_wp2_with (go_at_call 13; refine ((CK _ (HSE.out.step L0.out)).out).mono ?_; rintro e w1 ⟨rfl, hb⟩; have HB := Lib.hid (below_nxt L0.out hb); clear hb)
    exact bodyPost_ret (v := .int .i64 k) (by simp [results, Tryz.results24, go_sem]) rfl ⟨rfl, HB.out⟩
end Go.Proofs.YtahjdmdgkkienaaGreatDoor

namespace Hz
theorem chg_ok {n : Int} {l : List (Nat × Nat)} {a b : Int} (hv : ∀ p ∈ l, p.2 < 2 ^ 64) (h : chg n l a b = 0) : ∃ m x y : Nat, n = m ∧ a = x ∧ b = y ∧ m ≤ 6 ∧ x < 2 ^ m ∧ y < 2 ^ m ∧ l.length ≤ 256 ∧ Ok m l := by
  unfold chg at h
  by_cases h1 : chk n l = 0
  · rw [h1, if_neg (by simp)] at h
    obtain ⟨m, rfl, hm, hl, ho⟩ := chk_ok hv h1
    rw [Int.toNat_natCast] at h
    by_cases h2 : a < 0 ∨ 2 ^ m ≤ a ∨ b < 0 ∨ 2 ^ m ≤ b
    · rw [if_pos h2] at h; cases h
    · have e : ((2 : Int) ^ m) = ((2 ^ m : Nat) : Int) := by simp
      rw [e] at h2
      obtain ⟨x, rfl⟩ := Int.eq_ofNat_of_zero_le (show 0 ≤ a by omega)
      obtain ⟨y, rfl⟩ := Int.eq_ofNat_of_zero_le (show 0 ≤ b by omega)
      exact ⟨m, x, y, rfl, rfl, rfl, hm, by omega, by omega, hl, ho⟩
  · rw [if_pos h1] at h; exact absurd h h1
/-- What Between returns. -/
def betV (n : Int) (l : List (Nat × Nat)) (a b : Int) : Nat × Int := if chg n l a b = 0 then (sm n.toNat a.toNat b.toNat l, 0) else (0, chg n l a b)
/-- The bits of the variables that do not change. -/
def still (n a b : Nat) : Nat := (2 ^ n - 1) &&& (18446744073709551615 - (a ^^^ b))
/-- The points on the way, as the program makes them. -/
def wayT (n a b : Nat) : Nat := made n [(still n a b, a &&& still n a b)]
def logB (n : Nat) (l : List (Nat × Nat)) (a b : Nat) : Bool := (wayT n a b &&& made n l == 0 || wayT n a b &&& made n l == wayT n a b) && sm n a b l == 2
/-- What Logic returns. -/
def logV (n : Int) (l : List (Nat × Nat)) (a b : Int) : Bool × Int := if chg n l a b = 0 then (logB n.toNat l a.toNat b.toNat, 0) else (false, chg n l a b)
theorem still_lt (n a b : Nat) : still n a b < 2 ^ n := by
  unfold still
  exact Nat.lt_of_le_of_lt Nat.and_le_left (Nat.sub_lt (Nat.pow_pos (by omega)) (by omega))
theorem still_ok (n a b : Nat) : Ok n [(still n a b, a &&& still n a b)] := by
  intro p hp
  rw [List.mem_singleton] at hp
  subst hp
  refine ⟨still_lt n a b, fun i hi => ?_⟩
  rw [Nat.testBit_and, Bool.and_eq_true] at hi
  exact hi.2
end Hz

namespace Go.Proofs.YtahjdmdgkkienaaGreatDoor
open Go.RowKit Go.Shelf
theorem i64_xor_small : ∀ x, x < 64 → ∀ y, y < 64 → bits .xor .i64 ((x : Nat) : Int) ((y : Nat) : Int) = ((x ^^^ y : Nat) : Int) := by decide +kernel
theorem wrap_nat (k : Nat) (h : k < 2 ^ 64) : IntKind.u64.wrap (k : Int) = k := by
  have e : (2 : Int) ^ IntKind.u64.bits = 18446744073709551616 := by decide
  simp only [IntKind.wrap, e]
  have h2 : IntKind.u64.signed = false := rfl
  simp only [h2]
  simp
  omega
theorem still_word (m x y : Nat) (hm : m ≤ 6) (hx : x < 64) (hy : y < 64) : bits .andNot .u64 (IntKind.u64.wrap (IntKind.u64.wrap (2 ^ m) - 1)) (IntKind.u64.wrap (bits .xor .i64 (x : Int) (y : Int))) = ((((2 ^ m - 1) &&& (18446744073709551615 - (x ^^^ y)) : Nat)) : Int) := by
  have h6 : 2 ^ m ≤ 64 := Nat.pow_le_pow_right (n := 2) (by omega) hm
  have h0 : 0 < 2 ^ m := Nat.pow_pos (by omega)
  have hxy : x ^^^ y < 2 ^ 6 := Nat.xor_lt_two_pow hx hy
  rw [i64_xor_small x hx y hy, wrap_nat _ (by omega), show ((2 : Int) ^ m) = ((2 ^ m : Nat) : Int) by simp, wrap_nat _ (by omega), show ((2 ^ m : Nat) : Int) - 1 = ((2 ^ m - 1 : Nat) : Int) by omega, wrap_nat _ (by omega)]
  exact u64_andNot_nat _ _ (by omega) (by omega)
theorem and_word (x s : Nat) (hx : x < 64) (hs : s < 64) : bits .and .u64 (IntKind.u64.wrap (x : Int)) (s : Int) = ((x &&& s : Nat) : Int) := by
  rw [wrap_nat _ (by omega)]
  exact u64_and_nat _ _ (by omega) (by omega)
end Go.Proofs.YtahjdmdgkkienaaGreatDoor

