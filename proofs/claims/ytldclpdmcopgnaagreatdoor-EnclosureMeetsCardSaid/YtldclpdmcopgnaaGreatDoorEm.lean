/- The contracts of the digits of package enclosure: trimmed, order. -/
import Derived.Test.YtldclpdmcopgnaaGreatDoorNd
import Derived.BigQuiet
import Derived.Deep.QuietTactic
namespace Go.Proofs.YtldclpdmcopgnaaGreatDoor
open Go.RowKit
theorem cmp_i64_lt (a b : Int) (h1 : a < b) (w : World) : Calls Tryz.prog 132 #[.int .i64 a, .int .i64 b] w fun e w' => e = .returned (.int .i64 (-1)) ∧ w = w' := by
  have := cmp_int a b w
  rw [if_pos h1] at this
  exact this
theorem cmp_i64_gt (a b : Int) (h1 : b < a) (w : World) : Calls Tryz.prog 132 #[.int .i64 a, .int .i64 b] w fun e w' => e = .returned (.int .i64 1) ∧ w = w' := by
  have := cmp_int a b w
  rw [if_neg (by omega), if_pos h1] at this
  exact this
theorem dTrim_own (v : Value) (l : List Nat) (w : World) (hv : Sees .i64 w v l) (hs : Limb.small 10 l) :
    Calls Tryz.prog 149 #[v] w fun e w' => ∃ u, e = .returned u ∧ w = w' ∧ IsNat .i64 10 w u (Limb.val 10 l) l.length ∧ u.ownBlock = v.ownBlock := by
  rcases Nat.eq_zero_or_pos l.length with h0 | h0
  · obtain ⟨ao, cap, rfl, h1, h2⟩ := hv.form
    unfold maxLen at h2
    have hn : l = [] := List.eq_nil_of_length_eq_zero h0
    have HV := Lib.hid hv
    subst hn
    clear hv hs h0
    rw [List.length_nil] at *
    go_enter Tryz.func149, Tryz.ntmps149
    go_wp2
    refine wp_loop_rounds 1 ?_
    rw [rounds_succ]
    go_wp2
    go_ret
    exact ⟨_, rfl, rfl, ⟨[], HV.out, Limb.norm_nil _, rfl, Nat.le_refl _⟩, rfl⟩
  · obtain ⟨b, off, cap, rfl, h1, h2, h3, h4⟩ := hv.pos h0
    unfold maxLen at h2
    go_enter Tryz.func149, Tryz.ntmps149
    go_wp2
    go_loop [3] (fun t => ∃ k : Nat, k ≤ l.length ∧ t = .int .i64 k ∧ Hid (Limb.val 10 (l.drop k) = 0)) (fun t => (intOf t).toNat)
    case atStart => exact ⟨l.length, Nat.le_refl _, rfl, Limb.trim_start _ _⟩
    case round =>
      obtain ⟨k, hk, rfl, HD⟩ := hrel
      by_cases hk0 : 0 < k
      · have hc := h4 (k - 1) (by omega)
        obtain ⟨x, hx⟩ : ∃ x, x = l.getD (k - 1) 0 := ⟨_, rfl⟩
        rw [← hx] at hc
        have HX := Lib.hid hx
        clear hx h4
        by_cases hz : x = 0
        · have hb : ((x : Int) == 0) = true := by simp [hz]
          have HZ := Lib.hid hz
          clear hz
          go_wp2
          go_round
          case rel => exact ⟨k - 1, by omega, by go_num, Limb.trim_step hk0 HD.out (by rw [← HX.out]; exact HZ.out)⟩
          case measure => simp [intOf]; omega
        · have hb : ((x : Int) == 0) = false := by simp; omega
          have HZ := Lib.hid hz
          have HV := Lib.hid hv
          clear hz hv
          go_wp2
          go_ret
          exact ⟨_, rfl, rfl, ⟨l.take k, HV.out.take k hk, Limb.trim_norm hs hk (.inr (by rw [← HX.out]; exact HZ.out)), Limb.trim_val HD.out, by rw [List.length_take]; omega⟩, rfl⟩
      · have hk1 : k = 0 := by omega
        subst hk1
        have HV := Lib.hid hv
        clear hv h4
        go_wp2
        go_ret
        exact ⟨_, rfl, rfl, ⟨l.take 0, HV.out.take 0 hk, Limb.trim_norm hs hk (.inl rfl), Limb.trim_val HD.out, by rw [List.length_take]; omega⟩, rfl⟩

theorem dOrder_any (u v : Value) (l m : List Nat) (w : World) (hu : Sees .i64 w u l) (hv : Sees .i64 w v m) (hl : Limb.norm 10 l) (hm : Limb.norm 10 m) :
    Calls Tryz.prog 133 #[u, v] w fun e w' => e = .returned (.int .i64 (Limb.cmpN (Limb.val 10 l) (Limb.val 10 m))) ∧ ∃ n, w' = w.drewN n := by
  by_cases hlen : l.length = m.length
  · rcases Nat.eq_zero_or_pos l.length with h0 | h0
    · obtain ⟨ao, cap, rfl, h1, h2⟩ := hu.form
      obtain ⟨bo, cbp, rfl, g1, g2⟩ := hv.form
      have e1 : l = [] := List.eq_nil_of_length_eq_zero h0
      have e2 : m = [] := List.eq_nil_of_length_eq_zero (by omega)
      subst e1
      subst e2
      clear hu hv hl hm hlen h0
      rw [List.length_nil] at *
      go_enter Tryz.func133, Tryz.ntmps133
      go_wp2
      refine wp_loop_rounds 1 ?_
      rw [rounds_succ]
      go_wp2
      go_ret
      exact ⟨rfl, 0, rfl⟩
    · obtain ⟨b, off, cap, rfl, h1, h2, h3, h4⟩ := hu.pos h0
      obtain ⟨b', off', cap', rfl, g1, g2, g3, g4⟩ := hv.pos (by omega)
      unfold maxLen at h2 g2
      have hb : ((l.length : Int) != (m.length : Int)) = false := by simp [hlen]
      have HL := Lib.hid hlen
      have hle : l.length ≤ m.length := by omega
      clear hlen hu hv
      go_enter Tryz.func133, Tryz.ntmps133
      go_wp2
      go_loopw [5] (fun t wr => ∃ k n : Nat, k ≤ l.length ∧ t = .int .i64 ((k : Int) - 1) ∧ Hid (Limb.val 10 (l.drop k) = Limb.val 10 (m.drop k)) ∧ wr = w.drewN n) (fun t _ => (intOf t + 1).toNat)
      case atStart => exact ⟨l.length, 0, Nat.le_refl _, rfl, by unfold Hid; rw [List.drop_eq_nil_of_le (Nat.le_refl _), List.drop_eq_nil_of_le (by have := HL.out; omega)], rfl⟩
      case round =>
        obtain ⟨k, n, hk, rfl, HD, rfl⟩ := hrel
        by_cases hk0 : 0 < k
        · have hc := h4 (k - 1) (by omega)
          have gc := g4 (k - 1) (by omega)
          obtain ⟨x, hx⟩ : ∃ x, x = l.getD (k - 1) 0 := ⟨_, rfl⟩
          obtain ⟨y, hy⟩ : ∃ y, y = m.getD (k - 1) 0 := ⟨_, rfl⟩
          rw [← hx] at hc
          rw [← hy] at gc
          have HX := Lib.hid hx
          have HY := Lib.hid hy
          clear hx hy h4 g4
          have i1 : (0 : Int) ≤ (k : Int) - 1 := by omega
          have i2 : ((k : Int) - 1) < (l.length : Int) := by omega
          have i3 : ((k : Int) - 1) < (m.length : Int) := by omega
          by_cases hz : x = y
          · have hb2 : ((x : Int) != (y : Int)) = false := by simp [hz]
            have HZ := Lib.hid hz
            clear hz
            go_wp2
            go_quiet (fail)
            go_wp2
            go_roundw
            case rel => exact ⟨k - 1, _, by omega, by go_num, Limb.order_step (k - 1) (by rw [show k - 1 + 1 = k by omega]; exact HD.out) (by rw [← HX.out, ← HY.out]; exact HZ.out), rfl⟩
            case measure => simp [intOf]; omega
          · have hb2 : ((x : Int) != (y : Int)) = true := by simp; omega
            have hz2 : x < y ∨ y < x := by omega
            clear hz
            rcases hz2 with hz2 | hz2
            · go_wp2
              go_quiet (fail)
              go_wp2
              go_quiet ((go_at_call 132; exact quiet_more (cmp_i64_lt _ _ (by omega) _)))
              go_wp2
              go_ret
              have ev : Limb.cmpN (Limb.val 10 l) (Limb.val 10 m) = -1 := Limb.cmp_lt (Limb.order_at hl.1 (k - 1) (by omega) (by rw [show k - 1 + 1 = k by omega]; exact HD.out) (by rw [← HX.out, ← HY.out]; exact hz2))
              exact ⟨ret_int ev.symm, by first | exact ⟨_, rfl⟩ | (simp only [World.drewN_drewN]; exact ⟨_, rfl⟩)⟩
            · go_wp2
              go_quiet (fail)
              go_wp2
              go_quiet ((go_at_call 132; exact quiet_more (cmp_i64_gt _ _ (by omega) _)))
              go_wp2
              go_ret
              have ev : Limb.cmpN (Limb.val 10 l) (Limb.val 10 m) = 1 := Limb.cmp_gt (Limb.order_at hm.1 (k - 1) (by omega) (by rw [show k - 1 + 1 = k by omega]; exact HD.out.symm) (by rw [← HX.out, ← HY.out]; exact hz2))
              exact ⟨ret_int ev.symm, by first | exact ⟨_, rfl⟩ | (simp only [World.drewN_drewN]; exact ⟨_, rfl⟩)⟩
        · have hk1 : k = 0 := by omega
          subst hk1
          clear h4 g4
          go_wp2
          go_ret
          have ev : Limb.cmpN (Limb.val 10 l) (Limb.val 10 m) = 0 := Limb.cmp_eq HD.out
          exact ⟨ret_int ev.symm, by first | exact ⟨_, rfl⟩ | (simp only [World.drewN_drewN]; exact ⟨_, rfl⟩)⟩
  · obtain ⟨ao, cap, rfl, h1, h2⟩ := hu.form
    obtain ⟨bo, cbp, rfl, g1, g2⟩ := hv.form
    have hb : ((l.length : Int) != (m.length : Int)) = true := by simp; omega
    have ev : Limb.cmpN (Limb.val 10 l) (Limb.val 10 m) = (if (l.length : Int) < (m.length : Int) then -1 else if (m.length : Int) < (l.length : Int) then 1 else 0) := by
      by_cases h : l.length < m.length
      · rw [if_pos (by omega)]; exact Limb.cmp_lt (Limb.order_len (by omega) hl hm h)
      · rw [if_neg (by omega), if_pos (by omega)]; exact Limb.cmp_gt (Limb.order_len (by omega) hm hl (by omega))
    have EV := Lib.hid ev
    clear ev hu hv
    unfold maxLen at h2 g2
    go_enter Tryz.func133, Tryz.ntmps133
    go_wp2_with (go_at_call 132; refine (cmp_int_of _ _ _ EV _).mono ?_; rintro e w' ⟨rfl, rfl⟩)
    go_ret
    exact ⟨rfl, 0, rfl⟩

end Go.Proofs.YtldclpdmcopgnaaGreatDoor
