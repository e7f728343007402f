/- What package truth and its reference return, in the same words. -/
import Derived.Test.YtahjdmdgkkienaaGreatDoorUx
import Derived.Test.YtahjdmdgkkienaaGreatDoorUl
import Derived.Test.YtahjdmdgkkienaaGreatDoorShelf
namespace Tt
def notV (n : Int) (b : Nat) : (Int × Nat) × Int := if chk n b = 0 then ((n, full n.toNat &&& (18446744073709551615 - b)), 0) else ((0, 0), chk n b)
def andV (n : Int) (b : Nat) (m : Int) (c : Nat) : (Int × Nat) × Int := if giv n b m c = 0 then ((n, b &&& c), 0) else ((0, 0), giv n b m c)
def orV (n : Int) (b : Nat) (m : Int) (c : Nat) : (Int × Nat) × Int := if giv n b m c = 0 then ((n, b ||| c), 0) else ((0, 0), giv n b m c)
def xorV (n : Int) (b : Nat) (m : Int) (c : Nat) : (Int × Nat) × Int := if giv n b m c = 0 then ((n, b ^^^ c), 0) else ((0, 0), giv n b m c)
end Tt
namespace Go.Proofs.YtahjdmdgkkienaaGreatDoor
open Go.RowKit Go.Shelf

theorem chk_nat {n : Int} {b : Nat} (h : Tt.chk n b = 0) : ∃ m : Nat, n = m ∧ m ≤ 6 ∧ b < 2 ^ 2 ^ m := by
  obtain ⟨h0, h6, hb⟩ := Tt.chk_zero.1 h
  obtain ⟨m, rfl⟩ := Int.eq_ofNat_of_zero_le h0
  exact ⟨m, rfl, by omega, by simpa using hb⟩
theorem tNot_any (n : Int) (b : Nat) (w : World) (hb : b < 2 ^ 64) : Calls Tryz.prog 89 #[.agg #[.int .i64 n, .int .u64 b]] w fun e w' => e = .returned (.tuple #[.agg #[.int .i64 (Tt.notV n b).1.1, .int .u64 ((Tt.notV n b).1.2 : Nat)], .int .i64 (Tt.notV n b).2]) ∧ Below w.heap.size w w' := by
  unfold Tt.notV
  by_cases h : Tt.chk n b = 0
  · obtain ⟨m, rfl, hm, hb2⟩ := chk_nat h
    rw [if_pos h]
    exact tNot_ok m b w hm (Tt.w64 hm hb2) h
  · rw [if_neg h]
    exact tNot_bad n b w hb h
theorem tAnd_any (n : Int) (b : Nat) (m : Int) (c : Nat) (w : World) (hb : b < 2 ^ 64) (hc : c < 2 ^ 64) : Calls Tryz.prog 28 #[.agg #[.int .i64 n, .int .u64 b], .agg #[.int .i64 m, .int .u64 c]] w fun e w' => e = .returned (.tuple #[.agg #[.int .i64 (Tt.andV n b m c).1.1, .int .u64 ((Tt.andV n b m c).1.2 : Nat)], .int .i64 (Tt.andV n b m c).2]) ∧ Below w.heap.size w w' := by
  unfold Tt.andV
  by_cases h : Tt.giv n b m c = 0
  · obtain ⟨g1, g2, rfl⟩ := Tt.giv_zero.1 h
    obtain ⟨k, rfl, hm, hb2⟩ := chk_nat g1
    rw [if_pos h]
    exact tAnd_ok k b c w hb hc g1 g2
  · rw [if_neg h]
    exact tAnd_bad n b m c w hb hc h
theorem tOr_any (n : Int) (b : Nat) (m : Int) (c : Nat) (w : World) (hb : b < 2 ^ 64) (hc : c < 2 ^ 64) : Calls Tryz.prog 43 #[.agg #[.int .i64 n, .int .u64 b], .agg #[.int .i64 m, .int .u64 c]] w fun e w' => e = .returned (.tuple #[.agg #[.int .i64 (Tt.orV n b m c).1.1, .int .u64 ((Tt.orV n b m c).1.2 : Nat)], .int .i64 (Tt.orV n b m c).2]) ∧ Below w.heap.size w w' := by
  unfold Tt.orV
  by_cases h : Tt.giv n b m c = 0
  · obtain ⟨g1, g2, rfl⟩ := Tt.giv_zero.1 h
    obtain ⟨k, rfl, hm, hb2⟩ := chk_nat g1
    rw [if_pos h]
    exact tOr_ok k b c w hb hc g1 g2
  · rw [if_neg h]
    exact tOr_bad n b m c w hb hc h
theorem TabI.box {w w' : World} {g : Nat} {x : Int} {y : Nat} {o : Obj} (h : TabI w g x y) (hb : Below (w.alloc o).heap.size (w.alloc o) w') : TabI w' g x y :=
  (h.below h.1 ((Below.refl _ _).alloc (Nat.le_refl _) o)).below (by simp; have := h.1; omega) hb
theorem tabI_box {w w' : World} {x : Int} {y : Nat} {T : TypeId} (hb : Below (w.alloc (.cells #[.int .i64 x, .int .u64 y] T)).heap.size (w.alloc (.cells #[.int .i64 x, .int .u64 y] T)) w') : TabI w' w.heap.size x y :=
  (tabI_new w x y T).below (by simp) hb
theorem below_nxtb {w0 w w' : World} {o : Obj} (h : Below w0.heap.size w0 w) (hb : Below (w.alloc o).heap.size (w.alloc o) w') : Below w0.heap.size w0 w' :=
  (h.alloc h.size o).trans (hb.mono (by have := h.size; simp; omega))

end Go.Proofs.YtahjdmdgkkienaaGreatDoor

