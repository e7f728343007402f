/- The contracts of the functions of package fraction on natural numbers: base, width, at, trimmed, order. -/
import Derived.Test.YtfphnoihkcnleaaGreatDoorProg
import Derived.Test.YtfphnoihkcnleaaGreatDoorView
import Derived.BigQuiet
import Derived.Deep.QuietTactic
namespace Go.Proofs.YtfphnoihkcnleaaGreatDoor
open Go.RowKit

def pow10 (x : Int) : Prop := x = 10 ∨ x = 100 ∨ x = 1000 ∨ x = 10000 ∨ x = 100000 ∨ x = 1000000 ∨ x = 10000000 ∨ x = 100000000 ∨ x = 1000000000

set_option maxRecDepth 100000 in
theorem base_any (w : World) : Calls Tryz.prog 123 #[] w fun e w' => e = .returned (.int .u64 1000000000) ∧ w = w' := by
  have hx : IntKind.u64.wrap (bits .xor .u32 (if IntKind.u32.signed = true then -1 else 4294967295) 0) = 4294967295 := by kernel_rfl
  have HX := Lib.hid hx
  clear hx
  go_enter Tryz.func123, Tryz.ntmps123
  go_wp2
  go_loop [1] (fun t => ∃ x : Int, 10 ≤ x ∧ x ≤ 1000000000 ∧ t = .int .u64 x ∧ pow10 x) (fun t => 1000000001 - (intOf t).toNat)
  case atStart => exact ⟨10, by omega, by omega, rfl, .inl rfl⟩
  case round =>
    obtain ⟨x, hx2, hx3, rfl, hp⟩ := hrel
    go_wp2
    · go_round
      case rel =>
        have hq : x * 10 ≤ IntKind.u64.wrap (bits .xor .u32 (if IntKind.u32.signed = true then -1 else 4294967295) 0) := by assumption
        rw [HX.out] at hq
        refine ⟨x * 10, by omega, ?_, rfl, ?_⟩
        · unfold pow10 at hp; omega
        · unfold pow10 at hp ⊢; omega
      case measure => simp [intOf]; omega
    · go_ret
      refine ⟨?_, rfl⟩
      have hn : IntKind.u64.wrap (bits .xor .u32 (if IntKind.u32.signed = true then -1 else 4294967295) 0) < x * 10 := by assumption
      rw [HX.out] at hn
      have hq : x = 1000000000 := by unfold pow10 at hp; omega
      rw [hq]
      rfl

theorem width_any (w : World) : Calls Tryz.prog 111 #[] w fun e w' => e = .returned (.int .i64 9) ∧ w = w' := by
  go_enter Tryz.func111, Tryz.ntmps111
  go_wp2_with (go_at_call 123; refine (base_any _).mono ?_; rintro e w' ⟨rfl, rfl⟩)
  go_loop [1, 2] (fun n t => (n = .int .i64 0 ∧ t = .int .u64 1000000000) ∨ (n = .int .i64 1 ∧ t = .int .u64 100000000) ∨ (n = .int .i64 2 ∧ t = .int .u64 10000000) ∨ (n = .int .i64 3 ∧ t = .int .u64 1000000) ∨ (n = .int .i64 4 ∧ t = .int .u64 100000) ∨ (n = .int .i64 5 ∧ t = .int .u64 10000) ∨ (n = .int .i64 6 ∧ t = .int .u64 1000) ∨ (n = .int .i64 7 ∧ t = .int .u64 100) ∨ (n = .int .i64 8 ∧ t = .int .u64 10) ∨ (n = .int .i64 9 ∧ t = .int .u64 1)) (fun n _ => 10 - (intOf n).toNat)
  case atStart => exact .inl ⟨rfl, rfl⟩
  case round =>
    rcases hrel with ⟨rfl, rfl⟩ | ⟨rfl, rfl⟩ | ⟨rfl, rfl⟩ | ⟨rfl, rfl⟩ | ⟨rfl, rfl⟩ | ⟨rfl, rfl⟩ | ⟨rfl, rfl⟩ | ⟨rfl, rfl⟩ | ⟨rfl, rfl⟩ | ⟨rfl, rfl⟩
    all_goals go_wp2
    all_goals first
      | (go_ret; exact ⟨rfl, rfl⟩)
      | (go_round
         case rel => simp
         case measure => simp [intOf])

theorem at_any (v : Value) (l : List Nat) (i : Int) (h0 : 0 ≤ i) (w : World) (hv : Sees .u32 w v l) (hs : Limb.small 1000000000 l) :
    Calls Tryz.prog 124 #[v, .int .i64 i] w fun e w' => e = .returned (.int .u64 (l.getD i.toNat 0 : Nat)) ∧ w = w' := by
  obtain ⟨n, rfl⟩ := Int.eq_ofNat_of_zero_le h0
  rw [Int.toNat_natCast]
  rcases hv with ⟨rfl, rfl⟩ | ⟨b, off, cap, rfl, h1, h2, h3, h4⟩
  · go_enter Tryz.func124, Tryz.ntmps124
    go_wp2
    go_ret
    exact ⟨rfl, rfl⟩
  · unfold maxLen at h2
    by_cases hi : n < l.length
    · have hc := h4 n hi
      have hb := Limb.small_getD (by omega) hs n
      clear h4 hs
      generalize l.getD n 0 = x at *
      go_enter Tryz.func124, Tryz.ntmps124
      go_wp2
      go_ret
      exact ⟨rfl, rfl⟩
    · have hz : l.getD n 0 = 0 := by rw [List.getD_eq_getElem?_getD, List.getElem?_eq_none (by omega)]; rfl
      have HZ := Lib.hid hz
      clear hz h4
      go_enter Tryz.func124, Tryz.ntmps124
      go_wp2
      go_ret
      exact ⟨by rw [HZ.out]; rfl, rfl⟩

end Go.Proofs.YtfphnoihkcnleaaGreatDoor
