/- The contracts of the functions of package fraction on natural numbers: base, width, at, trimmed, order. The contracts of the functions of package fraction on natural numbers: trimmed, order. The contracts of the functions of package fraction on natural numbers: plus, minus. The contract of the product of natural numbers in package fraction. The contract of the estimate of a limb of a quotient in package fraction. -/
import Derived.Test.YtldclpdmcopgnaaGreatDoorProg
import Derived.Test.YtldclpdmcopgnaaGreatDoorView
import Derived.BigQuiet
import Derived.Deep.QuietTactic
namespace Go.Proofs.YtldclpdmcopgnaaGreatDoor
open Go.RowKit

def pow10 (x : Int) : Prop := x = 10 ∨ x = 100 ∨ x = 1000 ∨ x = 10000 ∨ x = 100000 ∨ x = 1000000 ∨ x = 10000000 ∨ x = 100000000 ∨ x = 1000000000

set_option maxRecDepth 100000 in
theorem base_any (w : World) : Calls Tryz.prog 156 #[] w fun e w' => e = .returned (.int .u64 1000000000) ∧ w = w' := by
  have hx : IntKind.u64.wrap (bits .xor .u32 (if IntKind.u32.signed = true then -1 else 4294967295) 0) = 4294967295 := by kernel_rfl
  have HX := Lib.hid hx
  clear hx
  go_enter Tryz.func156, Tryz.ntmps156
  go_wp2
  go_loop [1] (fun t => ∃ x : Int, 10 ≤ x ∧ x ≤ 1000000000 ∧ t = .int .u64 x ∧ pow10 x) (fun t => 1000000001 - (intOf t).toNat)
  case atStart => exact ⟨10, by omega, by omega, rfl, .inl rfl⟩
  case round =>
    obtain ⟨x, hx2, hx3, rfl, hp⟩ := hrel
    go_wp2
    · go_round
      case rel =>
        have hq : x * 10 ≤ IntKind.u64.wrap (bits .xor .u32 (if IntKind.u32.signed = true then -1 else 4294967295) 0) := by assumption
        rw [HX.out] at hq
        refine ⟨x * 10, by omega, ?_, rfl, ?_⟩
        · unfold pow10 at hp; omega
        · unfold pow10 at hp ⊢; omega
      case measure => simp [intOf]; omega
    · go_ret
      refine ⟨?_, rfl⟩
      have hn : IntKind.u64.wrap (bits .xor .u32 (if IntKind.u32.signed = true then -1 else 4294967295) 0) < x * 10 := by assumption
      rw [HX.out] at hn
      have hq : x = 1000000000 := by unfold pow10 at hp; omega
      rw [hq]
      rfl

theorem width_any (w : World) : Calls Tryz.prog 146 #[] w fun e w' => e = .returned (.int .i64 9) ∧ w = w' := by
  go_enter Tryz.func146, Tryz.ntmps146
  go_wp2_with (go_at_call 156; refine (base_any _).mono ?_; rintro e w' ⟨rfl, rfl⟩)
  go_loop [1, 2] (fun n t => (n = .int .i64 0 ∧ t = .int .u64 1000000000) ∨ (n = .int .i64 1 ∧ t = .int .u64 100000000) ∨ (n = .int .i64 2 ∧ t = .int .u64 10000000) ∨ (n = .int .i64 3 ∧ t = .int .u64 1000000) ∨ (n = .int .i64 4 ∧ t = .int .u64 100000) ∨ (n = .int .i64 5 ∧ t = .int .u64 10000) ∨ (n = .int .i64 6 ∧ t = .int .u64 1000) ∨ (n = .int .i64 7 ∧ t = .int .u64 100) ∨ (n = .int .i64 8 ∧ t = .int .u64 10) ∨ (n = .int .i64 9 ∧ t = .int .u64 1)) (fun n _ => 10 - (intOf n).toNat)
  case atStart => exact .inl ⟨rfl, rfl⟩
  case round =>
    rcases hrel with ⟨rfl, rfl⟩ | ⟨rfl, rfl⟩ | ⟨rfl, rfl⟩ | ⟨rfl, rfl⟩ | ⟨rfl, rfl⟩ | ⟨rfl, rfl⟩ | ⟨rfl, rfl⟩ | ⟨rfl, rfl⟩ | ⟨rfl, rfl⟩ | ⟨rfl, rfl⟩
    all_goals go_wp2
    all_goals first
      | (go_ret; exact ⟨rfl, rfl⟩)
      | (go_round
         case rel => simp
         case measure => simp [intOf])

theorem at_any (v : Value) (l : List Nat) (i : Int) (h0 : 0 ≤ i) (w : World) (hv : Sees .u32 w v l) (hs : Limb.small 1000000000 l) :
    Calls Tryz.prog 157 #[v, .int .i64 i] w fun e w' => e = .returned (.int .u64 (l.getD i.toNat 0 : Nat)) ∧ w = w' := by
  obtain ⟨n, rfl⟩ := Int.eq_ofNat_of_zero_le h0
  rw [Int.toNat_natCast]
  rcases hv with ⟨rfl, rfl⟩ | ⟨b, off, cap, rfl, h1, h2, h3, h4⟩
  · go_enter Tryz.func157, Tryz.ntmps157
    go_wp2
    go_ret
    exact ⟨rfl, rfl⟩
  · unfold maxLen at h2
    by_cases hi : n < l.length
    · have hc := h4 n hi
      have hb := Limb.small_getD (by omega) hs n
      clear h4 hs
      generalize l.getD n 0 = x at *
      go_enter Tryz.func157, Tryz.ntmps157
      go_wp2
      go_ret
      exact ⟨rfl, rfl⟩
    · have hz : l.getD n 0 = 0 := by rw [List.getD_eq_getElem?_getD, List.getElem?_eq_none (by omega)]; rfl
      have HZ := Lib.hid hz
      clear hz h4
      go_enter Tryz.func157, Tryz.ntmps157
      go_wp2
      go_ret
      exact ⟨by rw [HZ.out]; rfl, rfl⟩

end Go.Proofs.YtldclpdmcopgnaaGreatDoor

namespace Go.Proofs.YtldclpdmcopgnaaGreatDoor
open Go.RowKit

theorem trimmed_own (v : Value) (l : List Nat) (w : World) (hv : Sees .u32 w v l) (hs : Limb.small 1000000000 l) :
    Calls Tryz.prog 147 #[v] w fun e w' => ∃ u, e = .returned u ∧ w = w' ∧ IsNat .u32 1000000000 w u (Limb.val 1000000000 l) l.length ∧ u.ownBlock = v.ownBlock := by
  rcases Nat.eq_zero_or_pos l.length with h0 | h0
  · obtain ⟨ao, cap, rfl, h1, h2⟩ := hv.form
    unfold maxLen at h2
    have hn : l = [] := List.eq_nil_of_length_eq_zero h0
    have HV := Lib.hid hv
    subst hn
    clear hv hs h0
    rw [List.length_nil] at *
    go_enter Tryz.func147, Tryz.ntmps147
    go_wp2
    refine wp_loop_rounds 1 ?_
    rw [rounds_succ]
    go_wp2
    go_ret
    exact ⟨_, rfl, rfl, ⟨[], HV.out, Limb.norm_nil _, rfl, Nat.le_refl _⟩, rfl⟩
  · obtain ⟨b, off, cap, rfl, h1, h2, h3, h4⟩ := hv.pos h0
    unfold maxLen at h2
    go_enter Tryz.func147, Tryz.ntmps147
    go_wp2
    go_loop [3] (fun t => ∃ k : Nat, k ≤ l.length ∧ t = .int .i64 k ∧ Hid (Limb.val 1000000000 (l.drop k) = 0)) (fun t => (intOf t).toNat)
    case atStart => exact ⟨l.length, Nat.le_refl _, rfl, Limb.trim_start _ _⟩
    case round =>
      obtain ⟨k, hk, rfl, HD⟩ := hrel
      by_cases hk0 : 0 < k
      · have hc := h4 (k - 1) (by omega)
        obtain ⟨x, hx⟩ : ∃ x, x = l.getD (k - 1) 0 := ⟨_, rfl⟩
        rw [← hx] at hc
        have HX := Lib.hid hx
        clear hx h4
        by_cases hz : x = 0
        · have hb : ((x : Int) == 0) = true := by simp [hz]
          have HZ := Lib.hid hz
          clear hz
          go_wp2
          go_round
          case rel => exact ⟨k - 1, by omega, by go_num, Limb.trim_step hk0 HD.out (by rw [← HX.out]; exact HZ.out)⟩
          case measure => simp [intOf]; omega
        · have hb : ((x : Int) == 0) = false := by simp; omega
          have HZ := Lib.hid hz
          have HV := Lib.hid hv
          clear hz hv
          go_wp2
          go_ret
          exact ⟨_, rfl, rfl, ⟨l.take k, HV.out.take k hk, Limb.trim_norm hs hk (.inr (by rw [← HX.out]; exact HZ.out)), Limb.trim_val HD.out, by rw [List.length_take]; omega⟩, rfl⟩
      · have hk1 : k = 0 := by omega
        subst hk1
        have HV := Lib.hid hv
        clear hv h4
        go_wp2
        go_ret
        exact ⟨_, rfl, rfl, ⟨l.take 0, HV.out.take 0 hk, Limb.trim_norm hs hk (.inl rfl), Limb.trim_val HD.out, by rw [List.length_take]; omega⟩, rfl⟩

theorem trimmed_any (v : Value) (l : List Nat) (w : World) (hv : Sees .u32 w v l) (hs : Limb.small 1000000000 l) :
    Calls Tryz.prog 147 #[v] w fun e w' => ∃ u, e = .returned u ∧ w = w' ∧ IsNat .u32 1000000000 w u (Limb.val 1000000000 l) l.length :=
  (trimmed_own v l w hv hs).mono fun _ _ ⟨u, h1, h2, h3, _⟩ => ⟨u, h1, h2, h3⟩

theorem cmp_int (a b : Int) (w : World) : Calls Tryz.prog 132 #[.int .i64 a, .int .i64 b] w fun e w' => e = .returned (.int .i64 (if a < b then -1 else if b < a then 1 else 0)) ∧ w = w' := by
  by_cases h1 : a < b
  · rw [if_pos h1]
    go_enter Tryz.func132, Tryz.ntmps132
    go_wp2
    go_ret
    exact ⟨rfl, rfl⟩
  · rw [if_neg h1]
    by_cases h2 : b < a
    · rw [if_pos h2]
      go_enter Tryz.func132, Tryz.ntmps132
      go_wp2
      go_ret
      exact ⟨rfl, rfl⟩
    · rw [if_neg h2]
      go_enter Tryz.func132, Tryz.ntmps132
      go_wp2
      go_ret
      exact ⟨rfl, rfl⟩

theorem cmp_int_of (a b r : Int) (h : Hid (r = (if a < b then -1 else if b < a then 1 else 0))) (w : World) : Calls Tryz.prog 132 #[.int .i64 a, .int .i64 b] w fun e w' => e = .returned (.int .i64 r) ∧ w = w' := by
  rw [h.out]
  exact cmp_int a b w

theorem cmp_u32_lt (a b : Int) (h1 : a < b) (w : World) : Calls Tryz.prog 148 #[.int .u32 a, .int .u32 b] w fun e w' => e = .returned (.int .i64 (-1)) ∧ w = w' := by
  go_enter Tryz.func148, Tryz.ntmps148
  go_wp2
  go_ret
  exact ⟨rfl, rfl⟩
theorem cmp_u32_gt (a b : Int) (h1 : b < a) (w : World) : Calls Tryz.prog 148 #[.int .u32 a, .int .u32 b] w fun e w' => e = .returned (.int .i64 1) ∧ w = w' := by
  go_enter Tryz.func148, Tryz.ntmps148
  go_wp2
  go_ret
  exact ⟨rfl, rfl⟩

theorem order_any (u v : Value) (l m : List Nat) (w : World) (hu : Sees .u32 w u l) (hv : Sees .u32 w v m) (hl : Limb.norm 1000000000 l) (hm : Limb.norm 1000000000 m) :
    Calls Tryz.prog 118 #[u, v] w fun e w' => e = .returned (.int .i64 (Limb.cmpN (Limb.val 1000000000 l) (Limb.val 1000000000 m))) ∧ ∃ n, w' = w.drewN n := by
  by_cases hlen : l.length = m.length
  · rcases Nat.eq_zero_or_pos l.length with h0 | h0
    · obtain ⟨ao, cap, rfl, h1, h2⟩ := hu.form
      obtain ⟨bo, cbp, rfl, g1, g2⟩ := hv.form
      have e1 : l = [] := List.eq_nil_of_length_eq_zero h0
      have e2 : m = [] := List.eq_nil_of_length_eq_zero (by omega)
      subst e1
      subst e2
      clear hu hv hl hm hlen h0
      rw [List.length_nil] at *
      go_enter Tryz.func118, Tryz.ntmps118
      go_wp2
      refine wp_loop_rounds 1 ?_
      rw [rounds_succ]
      go_wp2
      go_ret
      exact ⟨rfl, 0, rfl⟩
    · obtain ⟨b, off, cap, rfl, h1, h2, h3, h4⟩ := hu.pos h0
      obtain ⟨b', off', cap', rfl, g1, g2, g3, g4⟩ := hv.pos (by omega)
      unfold maxLen at h2 g2
      have hb : ((l.length : Int) != (m.length : Int)) = false := by simp [hlen]
      have HL := Lib.hid hlen
      have hle : l.length ≤ m.length := by omega
      clear hlen hu hv
      go_enter Tryz.func118, Tryz.ntmps118
      go_wp2
      go_loopw [5] (fun t wr => ∃ k n : Nat, k ≤ l.length ∧ t = .int .i64 ((k : Int) - 1) ∧ Hid (Limb.val 1000000000 (l.drop k) = Limb.val 1000000000 (m.drop k)) ∧ wr = w.drewN n) (fun t _ => (intOf t + 1).toNat)
      case atStart => exact ⟨l.length, 0, Nat.le_refl _, rfl, by unfold Hid; rw [List.drop_eq_nil_of_le (Nat.le_refl _), List.drop_eq_nil_of_le (by have := HL.out; omega)], rfl⟩
      case round =>
        obtain ⟨k, n, hk, rfl, HD, rfl⟩ := hrel
        by_cases hk0 : 0 < k
        · have hc := h4 (k - 1) (by omega)
          have gc := g4 (k - 1) (by omega)
          obtain ⟨x, hx⟩ : ∃ x, x = l.getD (k - 1) 0 := ⟨_, rfl⟩
          obtain ⟨y, hy⟩ : ∃ y, y = m.getD (k - 1) 0 := ⟨_, rfl⟩
          rw [← hx] at hc
          rw [← hy] at gc
          have HX := Lib.hid hx
          have HY := Lib.hid hy
          clear hx hy h4 g4
          have i1 : (0 : Int) ≤ (k : Int) - 1 := by omega
          have i2 : ((k : Int) - 1) < (l.length : Int) := by omega
          have i3 : ((k : Int) - 1) < (m.length : Int) := by omega
          by_cases hz : x = y
          · have hb2 : ((x : Int) != (y : Int)) = false := by simp [hz]
            have HZ := Lib.hid hz
            clear hz
            go_wp2
            go_quiet (fail)
            go_wp2
            go_roundw
            case rel => exact ⟨k - 1, _, by omega, by go_num, Limb.order_step (k - 1) (by rw [show k - 1 + 1 = k by omega]; exact HD.out) (by rw [← HX.out, ← HY.out]; exact HZ.out), rfl⟩
            case measure => simp [intOf]; omega
          · have hb2 : ((x : Int) != (y : Int)) = true := by simp; omega
            have hz2 : x < y ∨ y < x := by omega
            clear hz
            rcases hz2 with hz2 | hz2
            · go_wp2
              go_quiet (fail)
              go_wp2
              go_quiet ((go_at_call 148; exact quiet_more (cmp_u32_lt _ _ (by omega) _)))
              go_wp2
              go_ret
              have ev : Limb.cmpN (Limb.val 1000000000 l) (Limb.val 1000000000 m) = -1 := Limb.cmp_lt (Limb.order_at hl.1 (k - 1) (by omega) (by rw [show k - 1 + 1 = k by omega]; exact HD.out) (by rw [← HX.out, ← HY.out]; exact hz2))
              exact ⟨ret_int ev.symm, by first | exact ⟨_, rfl⟩ | (simp only [World.drewN_drewN]; exact ⟨_, rfl⟩)⟩
            · go_wp2
              go_quiet (fail)
              go_wp2
              go_quiet ((go_at_call 148; exact quiet_more (cmp_u32_gt _ _ (by omega) _)))
              go_wp2
              go_ret
              have ev : Limb.cmpN (Limb.val 1000000000 l) (Limb.val 1000000000 m) = 1 := Limb.cmp_gt (Limb.order_at hm.1 (k - 1) (by omega) (by rw [show k - 1 + 1 = k by omega]; exact HD.out.symm) (by rw [← HX.out, ← HY.out]; exact hz2))
              exact ⟨ret_int ev.symm, by first | exact ⟨_, rfl⟩ | (simp only [World.drewN_drewN]; exact ⟨_, rfl⟩)⟩
        · have hk1 : k = 0 := by omega
          subst hk1
          clear h4 g4
          go_wp2
          go_ret
          have ev : Limb.cmpN (Limb.val 1000000000 l) (Limb.val 1000000000 m) = 0 := Limb.cmp_eq HD.out
          exact ⟨ret_int ev.symm, by first | exact ⟨_, rfl⟩ | (simp only [World.drewN_drewN]; exact ⟨_, rfl⟩)⟩
  · obtain ⟨ao, cap, rfl, h1, h2⟩ := hu.form
    obtain ⟨bo, cbp, rfl, g1, g2⟩ := hv.form
    have hb : ((l.length : Int) != (m.length : Int)) = true := by simp; omega
    have ev : Limb.cmpN (Limb.val 1000000000 l) (Limb.val 1000000000 m) = (if (l.length : Int) < (m.length : Int) then -1 else if (m.length : Int) < (l.length : Int) then 1 else 0) := by
      by_cases h : l.length < m.length
      · rw [if_pos (by omega)]; exact Limb.cmp_lt (Limb.order_len (by omega) hl hm h)
      · rw [if_neg (by omega), if_pos (by omega)]; exact Limb.cmp_gt (Limb.order_len (by omega) hm hl (by omega))
    have EV := Lib.hid ev
    clear ev hu hv
    unfold maxLen at h2 g2
    go_enter Tryz.func118, Tryz.ntmps118
    go_wp2_with (go_at_call 132; refine (cmp_int_of _ _ _ EV _).mono ?_; rintro e w' ⟨rfl, rfl⟩)
    go_ret
    exact ⟨rfl, 0, rfl⟩

end Go.Proofs.YtldclpdmcopgnaaGreatDoor

namespace Go.Proofs.YtldclpdmcopgnaaGreatDoor
open Go.RowKit

theorem Tryz.infoU32 : (Tryz.prog.info? 142).map (fun i => (i.zero, i.size, i.bytes)) = some (some (.int .u32 0), 1, 4) := by kernel_rfl

theorem at_lim {v : Value} {l : List Nat} {i x : Nat} (w : World) (hv : Sees .u32 w v l) (hs : Limb.small 1000000000 l) (hx : l.getD i 0 = x) :
    Calls Tryz.prog 157 #[v, .int .i64 i] w fun e w' => e = .returned (.int .u64 x) ∧ w = w' := by
  have := at_any v l i (by omega) w hv hs
  rw [Int.toNat_natCast, hx] at this
  exact this

set_option maxRecDepth 100000 in
set_option maxHeartbeats 400000 in
theorem plus_own (u v : Value) (m n p q : Nat) (w : World) (hu : IsNat .u32 1000000000 w u m p) (hv : IsNat .u32 1000000000 w v n q) (hp : p ≤ 1000) (hq : q ≤ 1000) :
    Calls Tryz.prog 154 #[u, v] w fun e w' => ∃ r, e = .returned r ∧ Below w.heap.size w w' ∧ IsNat .u32 1000000000 w' r (m + n) (max p q + 1) ∧ r.ownBlock = some w.heap.size := by
  obtain ⟨a, sa, na, ea, la⟩ := hu
  obtain ⟨b, sb, nb, eb, lb⟩ := hv
  obtain ⟨ao, ca, rfl, a1, a2⟩ := sa.form
  obtain ⟨bo, cb, rfl, b1, b2⟩ := sb.form
  unfold maxLen at a2 b2
  obtain ⟨N, hN⟩ : ∃ N, N = max a.length b.length + 1 := ⟨_, rfl⟩
  have n1 : a.length < N := by omega
  have n2 : b.length < N := by omega
  have n3 : N ≤ max p q + 1 := by omega
  have HN := Lib.hid hN
  have HA := Lib.hid ea
  have HB := Lib.hid eb
  have SA := Lib.hid sa
  have SB := Lib.hid sb
  clear hN ea eb sa sb
  obtain ⟨i0, hi, hz0, hz1, hz2⟩ := info_parts Tryz.infoU32
  rcases Nat.lt_or_ge a.length b.length with hab | hab
  all_goals
    go_enter Tryz.func154, Tryz.ntmps154
    go_wp2_with (first
      | (at_make; refine wpList_make_nat _ rfl _ _ 103 rfl 142 i0 .u32 4 Tryz.underlying103 hi hz0 hz1 hz2 (by omega) _ _ _ _ N rfl rfl (by have := HN.out; omega) (by have := HN.out; omega) (by omega) ?_; intro w1 hown1 hb1)
      | (go_at_call 156; refine (base_any _).mono ?_; rintro e w' ⟨rfl, rfl⟩))
    go_loopw [7, 19] (fun u7 u19 wr => ∃ (i c : Nat) (s : List Nat), i ≤ N ∧ c ≤ 2 ∧ u19 = .int .i64 i ∧ u7 = .int .u64 c ∧ Below w.heap.size w wr ∧ Own .u32 142 wr w.heap.size s ∧ Hid (s.length = N) ∧
        Limb.small 1000000000 s ∧ Hid (Limb.val 1000000000 (s.take i) + 1000000000 ^ i * c = Limb.val 1000000000 (a.take i) + Limb.val 1000000000 (b.take i))) (fun _ u19 _ => N - (intOf u19).toNat)
    case atStart => exact ⟨0, 0, _, Nat.zero_le _, by omega, rfl, rfl, hb1, hown1, Lib.hid List.length_replicate, Limb.small_replicate _ (by omega), by unfold Hid; simp⟩
    case round =>
      obtain ⟨i, c, s, hi1, hc1, rfl, rfl, hbel, hown, HSL, hsm, HI⟩ := hrel
      have hLx := hown.1
      by_cases hlt : i < N
      · have hx0 := Limb.small_getD (by omega) na.1 i
        have hy0 := Limb.small_getD (by omega) nb.1 i
        obtain ⟨x, hx⟩ : ∃ x, a.getD i 0 = x := ⟨_, rfl⟩
        obtain ⟨y, hy⟩ : ∃ y, b.getD i 0 = y := ⟨_, rfl⟩
        rw [hx] at hx0
        rw [hy] at hy0
        have CA := Lib.hid (at_lim wr (SA.out.below hbel (Nat.le_refl _)) na.1 hx)
        have CB := Lib.hid (at_lim wr (SB.out.below hbel (Nat.le_refl _)) nb.1 hy)
        have HX := Lib.hid hx
        have HY := Lib.hid hy
        have hcell := hown.cell (i := i) (by rw [HSL.out]; exact hlt)
        have hfree := hown.free i
        generalize s.getD i 0 = z at hcell
        clear hx hy
        go_wp2_with (first
          | (go_at_call 157; (with_reducible refine (CA.out).mono ?_); rintro e w' ⟨rfl, rfl⟩)
          | (go_at_call 157; (with_reducible refine (CB.out).mono ?_); rintro e w' ⟨rfl, rfl⟩))
        go_roundw
        case rel =>
          refine ⟨i + 1, (c + (x + y)) / 1000000000, s.set i ((c + (x + y)) % 1000000000), by omega, by omega, by go_num, by go_num, hbel.setCell (Nat.le_refl _) _, ?_, ?_, ?_, ?_⟩
          · exact hown.put i _ _ (by omega)
          · unfold Hid; rw [List.length_set]; exact HSL.out
          · exact Limb.small_set hsm _ _ (Nat.mod_lt _ (by omega))
          · exact Limb.plus_round a b s i c x y HX.out HY.out (by rw [HSL.out]; exact hlt) HI.out
        case measure => simp [intOf]; omega
      · have hiN : i = N := by omega
        have hs2 : Sees .u32 wr (.slice (some ⟨w.heap.size, 0, none⟩) N N) s := by have := hown.sees; rw [HSL.out] at this; exact this
        have CT := Lib.hid (trimmed_own _ s wr hs2 hsm)
        have hv : Limb.val 1000000000 s = m + n := by
          have := HI.out
          rw [hiN] at this
          rw [← HA.out, ← HB.out]
          exact Limb.plus_end (by omega) na.1 nb.1 n1 n2 HSL.out this
        have HV := Lib.hid hv
        have hsl : s.length ≤ max p q + 1 := by rw [HSL.out]; exact n3
        clear hv hs2 hiN
        go_wp2_with (go_at_call 147; refine (CT.out).mono ?_; rintro e w' ⟨r, rfl, rfl, hr, hrb⟩)
        go_ret
        rw [HV.out] at hr
        exact ⟨r, rfl, hbel, hr.up hsl, hrb⟩

theorem plus_any (u v : Value) (m n p q : Nat) (w : World) (hu : IsNat .u32 1000000000 w u m p) (hv : IsNat .u32 1000000000 w v n q) (hp : p ≤ 1000) (hq : q ≤ 1000) :
    Calls Tryz.prog 154 #[u, v] w fun e w' => ∃ r, e = .returned r ∧ Below w.heap.size w w' ∧ IsNat .u32 1000000000 w' r (m + n) (max p q + 1) :=
  (plus_own u v m n p q w hu hv hp hq).mono fun _ _ ⟨r, h1, h2, h3, _⟩ => ⟨r, h1, h2, h3⟩

set_option maxRecDepth 100000 in
set_option maxHeartbeats 400000 in
theorem minus_own (u v : Value) (m n p q : Nat) (w : World) (hu : IsNat .u32 1000000000 w u m p) (hv : IsNat .u32 1000000000 w v n q) (hp : p ≤ 1000) (hnm : n ≤ m) :
    Calls Tryz.prog 155 #[u, v] w fun e w' => ∃ r, e = .returned r ∧ Below w.heap.size w w' ∧ IsNat .u32 1000000000 w' r (m - n) p ∧ r.ownBlock = some w.heap.size := by
  obtain ⟨a, sa, na, ea, la⟩ := hu
  obtain ⟨b, sb, nb, eb, lb⟩ := hv
  have hba : b.length ≤ a.length := by
    rcases Nat.lt_or_ge a.length b.length with h | h
    · have := Limb.order_len (by omega) na nb h
      omega
    · exact h
  have HA := Lib.hid ea
  have HB := Lib.hid eb
  have SB := Lib.hid sb
  have SA := Lib.hid sa
  obtain ⟨i0, hi, hz0, hz1, hz2⟩ := info_parts Tryz.infoU32
  obtain ⟨N, hN⟩ : ∃ N, N = a.length := ⟨_, rfl⟩
  have HN := Lib.hid hN
  have n1 : N ≤ a.length := by omega
  have n2 : a.length ≤ N := by omega
  clear hN ea eb sb
  obtain ⟨ao, ca, rfl, a1, a2⟩ := sa.form
  obtain ⟨bo, cb, rfl, b1, b2⟩ := SB.out.form
  unfold maxLen at a2 b2
  have hcells : 0 < a.length → ∃ b0 off, ao = some ⟨b0, off, none⟩ ∧ b0 < w.heap.size ∧ ∀ i, i < a.length → w.cell? ⟨b0, off + i, none⟩ = some (.int .u32 ((a.getD i 0 : Nat) : Int)) := by
    intro h0
    obtain ⟨b0, off, cap, he, h1, h2, h3, h4⟩ := sa.pos h0
    cases he
    exact ⟨b0, off, rfl, h3, h4⟩
  have HC := Lib.hid hcells
  clear hcells sa
  go_enter Tryz.func155, Tryz.ntmps155
  go_wp2_with (first
    | (at_make; refine wpList_make_nat _ rfl _ _ 103 rfl 142 i0 .u32 4 Tryz.underlying103 hi hz0 hz1 hz2 (by omega) _ _ _ _ N rfl rfl (by omega) (by omega) (by omega) ?_; intro w1 hown1 hb1)
    | (go_at_call 156; refine (base_any _).mono ?_; rintro e w' ⟨rfl, rfl⟩))
  go_loopw [7, 18] (fun u7 u18 wr => ∃ (i c : Nat) (s : List Nat), i ≤ N ∧ c ≤ 1 ∧ u18 = .int .i64 i ∧ u7 = .int .u64 c ∧ Below w.heap.size w wr ∧ Own .u32 142 wr w.heap.size s ∧ Hid (s.length = N) ∧
      Limb.small 1000000000 s ∧ Hid (Limb.val 1000000000 (s.take i) + Limb.val 1000000000 (b.take i) = Limb.val 1000000000 (a.take i) + 1000000000 ^ i * c)) (fun _ u18 _ => N - (intOf u18).toNat)
  case atStart => exact ⟨0, 0, _, Nat.zero_le _, by omega, rfl, rfl, hb1, hown1, Lib.hid List.length_replicate, Limb.small_replicate _ (by omega), by unfold Hid; simp⟩
  case round =>
    obtain ⟨i, c, s, hi1, hc1, rfl, rfl, hbel, hown, HSL, hsm, HI⟩ := hrel
    have hLx := hown.1
    by_cases hlt : i < N
    · have hx0 := Limb.small_getD (by omega) na.1 i
      have hy0 := Limb.small_getD (by omega) nb.1 i
      obtain ⟨b0, off, rfl, hb0, h4⟩ := HC.out (by omega)
      have hca : wr.cell? ⟨b0, off + i, none⟩ = some (.int .u32 ((a.getD i 0 : Nat) : Int)) := (hbel.cell (p := ⟨b0, off + i, none⟩) hb0).trans (h4 i (by omega))
      obtain ⟨x, hx⟩ : ∃ x, a.getD i 0 = x := ⟨_, rfl⟩
      obtain ⟨y, hy⟩ : ∃ y, b.getD i 0 = y := ⟨_, rfl⟩
      rw [hx] at hx0 hca
      rw [hy] at hy0
      have CB := Lib.hid (at_lim wr (SB.out.below hbel (Nat.le_refl _)) nb.1 hy)
      have HX := Lib.hid hx
      have HY := Lib.hid hy
      have hcell := hown.cell (i := i) (by rw [HSL.out]; exact hlt)
      have hfree := hown.free i
      generalize s.getD i 0 = z at hcell
      have hlta : i < a.length := by omega
      clear hx hy h4 HC
      by_cases hge : y + c ≤ x
      · have hge2 : (y : Int) + (c : Int) ≤ (x : Int) := by omega
        go_wp2_with (go_at_call 157; (with_reducible refine (CB.out).mono ?_); rintro e w' ⟨rfl, rfl⟩)
        go_roundw
        case rel =>
          refine ⟨i + 1, 0, s.set i (x - (y + c)), by omega, by omega, by go_num, by go_num, hbel.setCell (Nat.le_refl _) _, hown.put i _ _ (by omega), ?_, Limb.small_set hsm _ _ (by omega), ?_⟩
          · unfold Hid; rw [List.length_set]; exact HSL.out
          · exact Limb.minus_round a b s i c x y HX.out HY.out (by rw [HSL.out]; exact hlt) HI.out hge
        case measure => simp [intOf]; omega
      · have hge2 : (x : Int) < (y : Int) + (c : Int) := by omega
        go_wp2_with (go_at_call 157; (with_reducible refine (CB.out).mono ?_); rintro e w' ⟨rfl, rfl⟩)
        go_roundw
        case rel =>
          refine ⟨i + 1, 1, s.set i (x + 1000000000 - (y + c)), by omega, by omega, by go_num, by go_num, hbel.setCell (Nat.le_refl _) _, hown.put i _ _ (by omega), ?_, Limb.small_set hsm _ _ (by omega), ?_⟩
          · unfold Hid; rw [List.length_set]; exact HSL.out
          · exact Limb.minus_round' a b s i c x y HX.out HY.out (by rw [HSL.out]; exact hlt) HI.out (by omega)
        case measure => simp [intOf]; omega
    · have hiN : i = a.length := by have := HN.out; omega
      have hs2 : Sees .u32 wr (.slice (some ⟨w.heap.size, 0, none⟩) N N) s := by have := hown.sees; rw [HSL.out] at this; exact this
      have CT := Lib.hid (trimmed_own _ s wr hs2 hsm)
      have hv : Limb.val 1000000000 s = m - n := by
        have := HI.out
        rw [hiN] at this
        rw [← HA.out, ← HB.out]
        exact Limb.minus_end hsm (by rw [HSL.out, HN.out]) hba (by rw [HA.out, HB.out]; exact hnm) this
      have HV := Lib.hid hv
      have hsl : s.length ≤ p := by rw [HSL.out, HN.out]; exact la
      clear hv hs2 hiN
      go_wp2_with (go_at_call 147; refine (CT.out).mono ?_; rintro e w' ⟨r, rfl, rfl, hr, hrb⟩)
      go_ret
      rw [HV.out] at hr
      exact ⟨r, rfl, hbel, hr.up hsl, hrb⟩

theorem minus_any (u v : Value) (m n p q : Nat) (w : World) (hu : IsNat .u32 1000000000 w u m p) (hv : IsNat .u32 1000000000 w v n q) (hp : p ≤ 1000) (hnm : n ≤ m) :
    Calls Tryz.prog 155 #[u, v] w fun e w' => ∃ r, e = .returned r ∧ Below w.heap.size w w' ∧ IsNat .u32 1000000000 w' r (m - n) p :=
  (minus_own u v m n p q w hu hv hp hnm).mono fun _ _ ⟨r, h1, h2, h3, _⟩ => ⟨r, h1, h2, h3⟩

end Go.Proofs.YtldclpdmcopgnaaGreatDoor

namespace Go.Proofs.YtldclpdmcopgnaaGreatDoor
open Go.RowKit

theorem mul_bound {x y B : Nat} (hx : x < B) (hy : y < B) : x * y ≤ (B - 1) * (B - 1) := Nat.mul_le_mul (by omega) (by omega)

set_option maxRecDepth 100000 in
set_option maxHeartbeats 1000000 in
theorem times_own (u v : Value) (a b : List Nat) (w : World) (sa : Sees .u32 w u a) (sb : Sees .u32 w v b) (na : Limb.small 1000000000 a) (nb : Limb.small 1000000000 b) (ha : a.length ≤ 1000) (hb : b.length ≤ 1000) :
    Calls Tryz.prog 153 #[u, v] w fun e w' => ∃ r, e = .returned r ∧ Below w.heap.size w w' ∧ IsNat .u32 1000000000 w' r (Limb.val 1000000000 a * Limb.val 1000000000 b) (a.length + b.length) ∧ r.ownBlock = some w.heap.size := by
  obtain ⟨ao, ca, rfl, a1, a2, CA⟩ := sa.opened
  obtain ⟨bo, cb, rfl, b1, b2, CB⟩ := sb.opened
  obtain ⟨i0, hi, hz0, hz1, hz2⟩ := info_parts Tryz.infoU32
  clear sa sb
  go_enter Tryz.func153, Tryz.ntmps153
  go_wp2_with (first
    | (at_make; refine wpList_make_nat _ rfl _ _ 103 rfl 142 i0 .u32 4 Tryz.underlying103 hi hz0 hz1 hz2 (by omega) _ _ _ _ (a.length + b.length) rfl rfl (by omega) (by omega) (by omega) ?_; intro w1 hown1 hb1)
    | (go_at_call 156; refine (base_any _).mono ?_; rintro e w' ⟨rfl, rfl⟩))
  go_loopw [21] (fun u21 wr => ∃ (i : Nat) (s : List Nat), i ≤ a.length ∧ u21 = .int .i64 i ∧ Below w.heap.size w wr ∧ Own .u32 142 wr w.heap.size s ∧ Hid (s.length = a.length + b.length) ∧
      Limb.small 1000000000 s ∧ Hid (Limb.val 1000000000 s = Limb.val 1000000000 (a.take i) * Limb.val 1000000000 b) ∧ Hid (∀ j, i + b.length ≤ j → s.getD j 0 = 0)) (fun u21 _ => a.length - (intOf u21).toNat)
  case atStart =>
    refine ⟨0, _, Nat.zero_le _, rfl, hb1, hown1, Lib.hid List.length_replicate, Limb.small_replicate _ (by omega), ?_, ?_⟩
    · unfold Hid; rw [Limb.val_replicate]; simp
    · intro j _; simp [List.getElem?_replicate]; split <;> rfl
  case round =>
    obtain ⟨i, s, hi1, rfl, hbel, hown, HSL, hsm, HI, HZ⟩ := hrel
    have hLx := hown.1
    by_cases hlt : i < a.length
    · have hx0 := Limb.small_getD (by omega) na i
      obtain ⟨b0, off, rfl, hb0, hca⟩ := CA.at hbel hlt
      obtain ⟨x, hx⟩ : ∃ x, a.getD i 0 = x := ⟨_, rfl⟩
      rw [hx] at hx0 hca
      have HX := Lib.hid hx
      clear hx
      go_wp2
      obtain ⟨wo, hwo⟩ : ∃ wo : World, wo = wr := ⟨_, rfl⟩
      have hbo := hbel
      rw [← hwo] at hbo
      clear hwo
      go_loopw [9, 28] (fun u9 u28 wr => ∃ (j c : Nat) (p : List Nat), j ≤ b.length ∧ c < 1000000000 ∧ u28 = .int .i64 j ∧ u9 = .int .u64 c ∧ Below w.heap.size w wr ∧ Own .u32 142 wr w.heap.size p ∧ Hid (p.length = a.length + b.length) ∧
          Limb.small 1000000000 p ∧ Hid (Limb.val 1000000000 p + 1000000000 ^ (i + j) * c = Limb.val 1000000000 (a.take i) * Limb.val 1000000000 b + 1000000000 ^ i * (x * Limb.val 1000000000 (b.take j))) ∧ Hid (∀ j, i + b.length ≤ j → p.getD j 0 = 0)) (fun _ u28 _ => b.length - (intOf u28).toNat)
      case atStart => exact ⟨0, 0, s, Nat.zero_le _, by omega, rfl, rfl, hbel, hown, HSL, hsm, by unfold Hid; rw [HI.out]; simp, HZ⟩
      case round =>
        obtain ⟨j, c, p, hj1, hc1, rfl, rfl, hbel2, hown2, HPL, hpm, HJ, HQ⟩ := hrel
        have hLp := hown2.1
        have hPL1 : p.length ≤ a.length + b.length := by rw [HPL.out]; exact Nat.le_refl _
        have hPL2 : a.length + b.length ≤ p.length := by rw [HPL.out]; exact Nat.le_refl _
        by_cases hjt : j < b.length
        · have hy0 := Limb.small_getD (by omega) nb j
          have hz0' := Limb.small_getD (by omega) hpm (i + j)
          obtain ⟨b2', off2, rfl, hb2, hcb⟩ := CB.at hbel2 hjt
          obtain ⟨y, hy⟩ : ∃ y, b.getD j 0 = y := ⟨_, rfl⟩
          obtain ⟨z, hz⟩ : ∃ z, p.getD (i + j) 0 = z := ⟨_, rfl⟩
          have hcell := hown2.cell (i := i + j) (by omega)
          have hfree := hown2.free (i + j)
          rw [hy] at hy0 hcb
          rw [hz] at hz0' hcell
          have HY := Lib.hid hy
          have HZ2 := Lib.hid hz
          have hxy := mul_bound hx0 hy0
          obtain ⟨t, ht⟩ : ∃ t, x * y = t := ⟨_, rfl⟩
          rw [ht] at hxy
          have hti : (x : Int) * (y : Int) = (t : Int) := by rw [← ht, Int.natCast_mul]
          have h1t : 0 ≤ (x : Int) * (y : Int) := by omega
          have h2t : (x : Int) * (y : Int) ≤ 999999998000000001 := by omega
          have HT := Lib.hid hti
          have HT2 := Lib.hid ht
          clear hy hz hti ht
          go_wp2
          go_roundw
          case rel =>
            refine ⟨j + 1, (c + (z + t)) / 1000000000, p.set (i + j) ((c + (z + t)) % 1000000000), by omega, by omega, by go_num, ?_, hbel2.setCell (Nat.le_refl _) _, hown2.put (i + j) _ _ (by rw [HT.out]; omega), ?_, Limb.small_set hpm _ _ (by omega), ?_, Limb.zero_set HQ.out (by omega)⟩
            · rw [HT.out]; go_num
            · unfold Hid; rw [List.length_set]; exact HPL.out
            · rw [← HT2.out]; exact Limb.times_round b p i j x y z c _ HZ2.out HY.out (by omega) HJ.out
          case measure => simp [intOf]; omega
        · have hj2 : j = b.length := by omega
          have hcell := hown2.cell (i := i + b.length) (by omega)
          have hfree := hown2.free (i + b.length)
          generalize p.getD (i + b.length) 0 = z at hcell
          have hfin : Limb.val 1000000000 (p.set (i + b.length) c) = Limb.val 1000000000 (a.take (i + 1)) * Limb.val 1000000000 b := by
            have h := HJ.out
            rw [hj2] at h
            exact Limb.times_out a b p _ i c (by omega) (HQ.out _ (Nat.le_refl _)) (by rw [HX.out]; exact h) rfl
          have HF := Lib.hid hfin
          clear hj2 hfin
          go_wp2
          go_roundw
          case rel =>
            refine ⟨i + 1, p.set (i + b.length) c, by omega, by go_num, hbel2.setCell (Nat.le_refl _) _, hown2.put (i + b.length) _ _ rfl, ?_, Limb.small_set hpm _ _ (by omega), HF, ?_⟩
            · unfold Hid; rw [List.length_set]; exact HPL.out
            · exact fun t ht => by rw [Limb.getD_set_ne _ _ _ _ (by omega)]; exact HQ.out t (by omega)
          case measure => simp [intOf]; omega
    · have hs2 : Sees .u32 wr (.slice (some ⟨w.heap.size, 0, none⟩) (a.length + b.length) (a.length + b.length)) s := by have := hown.sees; rw [HSL.out] at this; exact this
      have CT := Lib.hid (trimmed_own _ s wr hs2 hsm)
      have hv : Limb.val 1000000000 s = Limb.val 1000000000 a * Limb.val 1000000000 b := by
        have := HI.out
        rw [List.take_of_length_le (by omega)] at this
        exact this
      have HV := Lib.hid hv
      have hsl : s.length ≤ a.length + b.length := by rw [HSL.out]; exact Nat.le_refl _
      clear hv hs2
      go_wp2_with (go_at_call 147; refine (CT.out).mono ?_; rintro e w' ⟨r, rfl, rfl, hr, hrb⟩)
      go_ret
      rw [HV.out] at hr
      exact ⟨r, rfl, hbel, hr.up hsl, hrb⟩

theorem times_any (u v : Value) (a b : List Nat) (w : World) (sa : Sees .u32 w u a) (sb : Sees .u32 w v b) (na : Limb.small 1000000000 a) (nb : Limb.small 1000000000 b) (ha : a.length ≤ 1000) (hb : b.length ≤ 1000) :
    Calls Tryz.prog 153 #[u, v] w fun e w' => ∃ r, e = .returned r ∧ Below w.heap.size w w' ∧ IsNat .u32 1000000000 w' r (Limb.val 1000000000 a * Limb.val 1000000000 b) (a.length + b.length) :=
  (times_own u v a b w sa sb na nb ha hb).mono fun _ _ ⟨r, h1, h2, h3, _⟩ => ⟨r, h1, h2, h3⟩

end Go.Proofs.YtldclpdmcopgnaaGreatDoor

namespace Go.Proofs.YtldclpdmcopgnaaGreatDoor
open Go.RowKit

def Est (w : World) (q : Nat) (e : Ending) (w' : World) : Prop := ∃ x n : Nat, e = .returned (.int .u32 x) ∧ w' = w.drewN n ∧ x < 1000000000 ∧ q ≤ x

set_option maxRecDepth 100000 in
set_option maxHeartbeats 1000000 in
theorem estimate_any (u v : Value) (a b : List Nat) (w : World) (sa : Sees .u32 w u a) (sb : Sees .u32 w v b) (na : Limb.small 1000000000 a) (nb : Limb.norm 1000000000 b) (hb : 0 < b.length) (hl : a.length ≤ b.length + 1)
    (hlt : Limb.val 1000000000 a < Limb.val 1000000000 b * 1000000000) :
    Calls Tryz.prog 158 #[u, v] w (Est w (Limb.val 1000000000 a / Limb.val 1000000000 b)) := by
  obtain ⟨bo, cb, rfl, b1, b2, _⟩ := sb.opened
  have hest := Limb.estimate_ge (by omega) a b b.length hb hl na (nb.2 hb)
  have hd0 := nb.2 hb
  have hd1 := Limb.small_getD (by omega) nb.1 (b.length - 1)
  have hx0 := Limb.small_getD (by omega) na b.length
  have hy0 := Limb.small_getD (by omega) na (b.length - 1)
  have hq : Limb.val 1000000000 a / Limb.val 1000000000 b < 1000000000 := (Nat.div_lt_iff_lt_mul (by have := (Limb.norm_pos (by omega) nb).2 hb; exact this)).2 (by rw [Nat.mul_comm]; exact hlt)
  obtain ⟨d, hd⟩ : ∃ d, b.getD (b.length - 1) 0 = d := ⟨_, rfl⟩
  obtain ⟨x, hx⟩ : ∃ x, a.getD b.length 0 = x := ⟨_, rfl⟩
  obtain ⟨y, hy⟩ : ∃ y, a.getD (b.length - 1) 0 = y := ⟨_, rfl⟩
  have C2 := Lib.hid (at_lim w sa na hx)
  have C3 := fun (i : Int) (h : i = ((b.length - 1 : Nat) : Int)) => Lib.hid (show Calls Tryz.prog 157 #[u, .int .i64 i] w fun e w' => e = .returned (.int .u64 y) ∧ w = w' by rw [h]; exact at_lim w sa na hy)
  have C4 := fun (i : Int) (h : i = ((b.length - 1 : Nat) : Int)) (n : Nat) => Lib.hid (show Calls Tryz.prog 157 #[.slice bo b.length cb, .int .i64 i] (w.drewN n) fun e w' => e = .returned (.int .u64 d) ∧ w.drewN n = w' by rw [h]; exact at_lim _ (sb.drewN n) nb.1 hd)
  rw [hd] at hest hd0 hd1
  rw [hx] at hest hx0
  rw [hy] at hest hy0
  obtain ⟨t, ht⟩ : ∃ t, (x * 1000000000 + y) / d = t := ⟨_, rfl⟩
  rw [ht] at hest
  have hti : ((x : Int) * 1000000000 + (y : Int)) / (d : Int) = (t : Int) := by rw [← ht]; simp
  have HTI := Lib.hid hti
  clear hd hx hy ht hti sa sb nb na hlt hl
  generalize Limb.val 1000000000 a / Limb.val 1000000000 b = q at *
  go_enter Tryz.func158, Tryz.ntmps158
  go_wp2_with (first
    | (go_at_call 156; refine (base_any _).mono ?_; rintro e w' ⟨rfl, rfl⟩)
    | (go_at_call 157; (with_reducible refine (C2.out).mono ?_); rintro e w' ⟨rfl, rfl⟩)
    | (go_at_call 157; refine ((C3 _ (by omega)).out).mono ?_; rintro e w' ⟨rfl, rfl⟩))
  go_quiet ((first | (go_at_call 157; exact quiet_one (C4 _ (by omega) _).out) | (go_at_call 156; exact quiet_one (base_any _))))
  go_wp2
  · go_ret
    exact ⟨999999999, nq, rfl, rfl, by omega, by omega⟩
  · have hle : ((x : Int) * 1000000000 + (y : Int)) / (d : Int) ≤ 999999999 := by assumption
    rw [HTI.out] at hle
    go_ret
    exact ⟨t, nq, ret_int (by rw [HTI.out]; omega), rfl, by omega, hest⟩

end Go.Proofs.YtldclpdmcopgnaaGreatDoor

