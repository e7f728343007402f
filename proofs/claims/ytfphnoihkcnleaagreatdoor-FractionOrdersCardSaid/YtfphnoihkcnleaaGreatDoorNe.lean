/- The contract of the estimate of a limb of a quotient in package fraction. -/
import Derived.Test.YtfphnoihkcnleaaGreatDoorNd
namespace Go.Proofs.YtfphnoihkcnleaaGreatDoor
open Go.RowKit

def Est (w : World) (q : Nat) (e : Ending) (w' : World) : Prop := ∃ x n : Nat, e = .returned (.int .u32 x) ∧ w' = w.drewN n ∧ x < 1000000000 ∧ q ≤ x

set_option maxRecDepth 100000 in
set_option maxHeartbeats 1000000 in
theorem estimate_any (u v : Value) (a b : List Nat) (w : World) (sa : Sees .u32 w u a) (sb : Sees .u32 w v b) (na : Limb.small 1000000000 a) (nb : Limb.norm 1000000000 b) (hb : 0 < b.length) (hl : a.length ≤ b.length + 1)
    (hlt : Limb.val 1000000000 a < Limb.val 1000000000 b * 1000000000) :
    Calls Tryz.prog 125 #[u, v] w (Est w (Limb.val 1000000000 a / Limb.val 1000000000 b)) := by
  obtain ⟨bo, cb, rfl, b1, b2, _⟩ := sb.opened
  have hest := Limb.estimate_ge (by omega) a b b.length hb hl na (nb.2 hb)
  have hd0 := nb.2 hb
  have hd1 := Limb.small_getD (by omega) nb.1 (b.length - 1)
  have hx0 := Limb.small_getD (by omega) na b.length
  have hy0 := Limb.small_getD (by omega) na (b.length - 1)
  have hq : Limb.val 1000000000 a / Limb.val 1000000000 b < 1000000000 := (Nat.div_lt_iff_lt_mul (by have := (Limb.norm_pos (by omega) nb).2 hb; exact this)).2 (by rw [Nat.mul_comm]; exact hlt)
  obtain ⟨d, hd⟩ : ∃ d, b.getD (b.length - 1) 0 = d := ⟨_, rfl⟩
  obtain ⟨x, hx⟩ : ∃ x, a.getD b.length 0 = x := ⟨_, rfl⟩
  obtain ⟨y, hy⟩ : ∃ y, a.getD (b.length - 1) 0 = y := ⟨_, rfl⟩
  have C2 := Lib.hid (at_lim w sa na hx)
  have C3 := fun (i : Int) (h : i = ((b.length - 1 : Nat) : Int)) => Lib.hid (show Calls Tryz.prog 124 #[u, .int .i64 i] w fun e w' => e = .returned (.int .u64 y) ∧ w = w' by rw [h]; exact at_lim w sa na hy)
  have C4 := fun (i : Int) (h : i = ((b.length - 1 : Nat) : Int)) (n : Nat) => Lib.hid (show Calls Tryz.prog 124 #[.slice bo b.length cb, .int .i64 i] (w.drewN n) fun e w' => e = .returned (.int .u64 d) ∧ w.drewN n = w' by rw [h]; exact at_lim _ (sb.drewN n) nb.1 hd)
  rw [hd] at hest hd0 hd1
  rw [hx] at hest hx0
  rw [hy] at hest hy0
  obtain ⟨t, ht⟩ : ∃ t, (x * 1000000000 + y) / d = t := ⟨_, rfl⟩
  rw [ht] at hest
  have hti : ((x : Int) * 1000000000 + (y : Int)) / (d : Int) = (t : Int) := by rw [← ht]; simp
  have HTI := Lib.hid hti
  clear hd hx hy ht hti sa sb nb na hlt hl
  generalize Limb.val 1000000000 a / Limb.val 1000000000 b = q at *
  go_enter Tryz.func125, Tryz.ntmps125
  go_wp2_with (first
    | (go_at_call 123; refine (base_any _).mono ?_; rintro e w' ⟨rfl, rfl⟩)
    | (go_at_call 124; (with_reducible refine (C2.out).mono ?_); rintro e w' ⟨rfl, rfl⟩)
    | (go_at_call 124; refine ((C3 _ (by omega)).out).mono ?_; rintro e w' ⟨rfl, rfl⟩))
  go_quiet ((first | (go_at_call 124; exact quiet_one (C4 _ (by omega) _).out) | (go_at_call 123; exact quiet_one (base_any _))))
  go_wp2
  · go_ret
    exact ⟨999999999, nq, rfl, rfl, by omega, by omega⟩
  · have hle : ((x : Int) * 1000000000 + (y : Int)) / (d : Int) ≤ 999999999 := by assumption
    rw [HTI.out] at hle
    go_ret
    exact ⟨t, nq, ret_int (by rw [HTI.out]; omega), rfl, by omega, hest⟩

end Go.Proofs.YtfphnoihkcnleaaGreatDoor
