/- The contracts of the functions of the reference on natural numbers: trim, order. The contracts of the functions of the reference on natural numbers: plus, less. The contract of the product of natural numbers in the reference. The contract of the quotient of natural numbers in the reference. -/
import Derived.Test.YtldclpdmcopgnaaGreatDoorNd
import Derived.Test.YtldclpdmcopgnaaGreatDoorNum
import Derived.Test.YtldclpdmcopgnaaGreatDoorNh
import Derived.Test.YtldclpdmcopgnaaGreatDoorPd
namespace Go.Proofs.YtldclpdmcopgnaaGreatDoor
open Go.RowKit

/-- The length of a slice value. -/
def lenOf : Value → Nat
  | .slice _ n _ => n
  | _ => 0

theorem rtrim_own (v : Value) (l : List Nat) (w : World) (hv : Sees .i64 w v l) (hs : Limb.small 1000000 l) :
    Calls Tryz.prog 122 #[v] w fun e w' => ∃ u, e = .returned u ∧ w = w' ∧ IsNat .i64 1000000 w u (Limb.val 1000000 l) l.length ∧ u.ownBlock = v.ownBlock := by
  rcases Nat.eq_zero_or_pos l.length with h0 | h0
  · obtain ⟨ao, cap, rfl, h1, h2⟩ := hv.form
    unfold maxLen at h2
    have hn : l = [] := List.eq_nil_of_length_eq_zero h0
    have HV := Lib.hid hv
    subst hn
    clear hv hs h0
    rw [List.length_nil] at *
    go_enter Tryz.func122, Tryz.ntmps122
    go_wp2
    refine wp_loop_rounds 1 ?_
    rw [rounds_succ]
    go_wp2
    go_ret
    exact ⟨_, rfl, rfl, ⟨[], HV.out, Limb.norm_nil _, rfl, Nat.le_refl _⟩, rfl⟩
  · obtain ⟨b, off, cap, rfl, h1, h2, h3, h4⟩ := hv.pos h0
    unfold maxLen at h2
    go_enter Tryz.func122, Tryz.ntmps122
    go_wp2
    go_loop [0] (fun t => ∃ k : Nat, k ≤ l.length ∧ t = .slice (some ⟨b, off, none⟩) k cap ∧ Hid (Limb.val 1000000 (l.drop k) = 0)) (fun t => lenOf t)
    case atStart => exact ⟨l.length, Nat.le_refl _, rfl, Limb.trim_start _ _⟩
    case round =>
      obtain ⟨k, hk, rfl, HD⟩ := hrel
      by_cases hk0 : 0 < k
      · have hc := h4 (k - 1) (by omega)
        obtain ⟨x, hx⟩ : ∃ x, x = l.getD (k - 1) 0 := ⟨_, rfl⟩
        rw [← hx] at hc
        have HX := Lib.hid hx
        clear hx h4
        by_cases hz : x = 0
        · have hb : ((x : Int) == 0) = true := by simp [hz]
          have HZ := Lib.hid hz
          clear hz
          go_wp2
          go_round
          case rel => exact ⟨k - 1, by omega, by go_num, Limb.trim_step hk0 HD.out (by rw [← HX.out]; exact HZ.out)⟩
          case measure => simp [lenOf]; omega
        · have hb : ((x : Int) == 0) = false := by simp; omega
          have HZ := Lib.hid hz
          have HV := Lib.hid hv
          clear hz hv
          go_wp2
          go_ret
          exact ⟨_, rfl, rfl, ⟨l.take k, HV.out.take k hk, Limb.trim_norm hs hk (.inr (by rw [← HX.out]; exact HZ.out)), Limb.trim_val HD.out, by rw [List.length_take]; omega⟩, rfl⟩
      · have hk1 : k = 0 := by omega
        subst hk1
        have HV := Lib.hid hv
        clear hv h4
        go_wp2
        go_ret
        exact ⟨_, rfl, rfl, ⟨l.take 0, HV.out.take 0 hk, Limb.trim_norm hs hk (.inl rfl), Limb.trim_val HD.out, by rw [List.length_take]; omega⟩, rfl⟩

theorem rorder_any (u v : Value) (l m : List Nat) (w : World) (hu : Sees .i64 w u l) (hv : Sees .i64 w v m) (hl : Limb.norm 1000000 l) (hm : Limb.norm 1000000 m) :
    Calls Tryz.prog 92 #[u, v] w fun e w' => e = .returned (.int .i64 (Limb.cmpN (Limb.val 1000000 l) (Limb.val 1000000 m))) ∧ ∃ n, w' = w.drewN n := by
  by_cases hlen : l.length = m.length
  · rcases Nat.eq_zero_or_pos l.length with h0 | h0
    · obtain ⟨ao, cap, rfl, h1, h2⟩ := hu.form
      obtain ⟨bo, cbp, rfl, g1, g2⟩ := hv.form
      have e1 : l = [] := List.eq_nil_of_length_eq_zero h0
      have e2 : m = [] := List.eq_nil_of_length_eq_zero (by omega)
      subst e1
      subst e2
      clear hu hv hl hm hlen h0
      rw [List.length_nil] at *
      go_enter Tryz.func92, Tryz.ntmps92
      go_wp2
      refine wp_loop_rounds 1 ?_
      rw [rounds_succ]
      go_wp2
      go_ret
      exact ⟨rfl, 0, rfl⟩
    · obtain ⟨b, off, cap, rfl, h1, h2, h3, h4⟩ := hu.pos h0
      obtain ⟨b', off', cap', rfl, g1, g2, g3, g4⟩ := hv.pos (by omega)
      unfold maxLen at h2 g2
      have hb : ((l.length : Int) != (m.length : Int)) = false := by simp [hlen]
      have HL := Lib.hid hlen
      have hle : l.length ≤ m.length := by omega
      clear hlen hu hv
      go_enter Tryz.func92, Tryz.ntmps92
      go_wp2
      go_loopw [5] (fun t wr => ∃ k n : Nat, k ≤ l.length ∧ t = .int .i64 ((k : Int) - 1) ∧ Hid (Limb.val 1000000 (l.drop k) = Limb.val 1000000 (m.drop k)) ∧ wr = w.drewN n) (fun t _ => (intOf t + 1).toNat)
      case atStart => exact ⟨l.length, 0, Nat.le_refl _, rfl, by unfold Hid; rw [List.drop_eq_nil_of_le (Nat.le_refl _), List.drop_eq_nil_of_le (by have := HL.out; omega)], rfl⟩
      case round =>
        obtain ⟨k, n, hk, rfl, HD, rfl⟩ := hrel
        by_cases hk0 : 0 < k
        · have hc := h4 (k - 1) (by omega)
          have gc := g4 (k - 1) (by omega)
          obtain ⟨x, hx⟩ : ∃ x, x = l.getD (k - 1) 0 := ⟨_, rfl⟩
          obtain ⟨y, hy⟩ : ∃ y, y = m.getD (k - 1) 0 := ⟨_, rfl⟩
          rw [← hx] at hc
          rw [← hy] at gc
          have HX := Lib.hid hx
          have HY := Lib.hid hy
          clear hx hy h4 g4
          have i1 : (0 : Int) ≤ (k : Int) - 1 := by omega
          have i2 : ((k : Int) - 1) < (l.length : Int) := by omega
          have i3 : ((k : Int) - 1) < (m.length : Int) := by omega
          rcases (show x = y ∨ x < y ∨ y < x by omega) with hz | hz | hz
          · have hb2 : ¬ (x : Int) < (y : Int) := by omega
            have hb3 : ¬ (y : Int) < (x : Int) := by omega
            have HZ := Lib.hid hz
            clear hz
            go_wp2
            go_quiet (fail)
            go_wp2
            go_quiet (fail)
            go_wp2
            go_roundw
            case rel => exact ⟨k - 1, _, by omega, by go_num, Limb.order_step (k - 1) (by rw [show k - 1 + 1 = k by omega]; exact HD.out) (by rw [← HX.out, ← HY.out]; exact HZ.out), by first | rfl | simp only [World.drewN_drewN]⟩
            case measure => simp [intOf]; omega
          · go_wp2
            go_quiet (fail)
            go_wp2
            go_ret
            have ev : Limb.cmpN (Limb.val 1000000 l) (Limb.val 1000000 m) = -1 := Limb.cmp_lt (Limb.order_at hl.1 (k - 1) (by omega) (by rw [show k - 1 + 1 = k by omega]; exact HD.out) (by rw [← HX.out, ← HY.out]; exact hz))
            exact ⟨ret_int ev.symm, by first | exact ⟨_, rfl⟩ | (simp only [World.drewN_drewN]; exact ⟨_, rfl⟩)⟩
          · have hb2 : ¬ (x : Int) < (y : Int) := by omega
            go_wp2
            go_quiet (fail)
            go_wp2
            go_quiet (fail)
            go_wp2
            go_ret
            have ev : Limb.cmpN (Limb.val 1000000 l) (Limb.val 1000000 m) = 1 := Limb.cmp_gt (Limb.order_at hm.1 (k - 1) (by omega) (by rw [show k - 1 + 1 = k by omega]; exact HD.out.symm) (by rw [← HX.out, ← HY.out]; exact hz))
            exact ⟨ret_int ev.symm, by first | exact ⟨_, rfl⟩ | (simp only [World.drewN_drewN]; exact ⟨_, rfl⟩)⟩
        · have hk1 : k = 0 := by omega
          subst hk1
          clear h4 g4
          go_wp2
          go_ret
          have ev : Limb.cmpN (Limb.val 1000000 l) (Limb.val 1000000 m) = 0 := Limb.cmp_eq HD.out
          exact ⟨ret_int ev.symm, by first | exact ⟨_, rfl⟩ | (simp only [World.drewN_drewN]; exact ⟨_, rfl⟩)⟩
  · obtain ⟨ao, cap, rfl, h1, h2⟩ := hu.form
    obtain ⟨bo, cbp, rfl, g1, g2⟩ := hv.form
    have hb : ((l.length : Int) != (m.length : Int)) = true := by simp; omega
    unfold maxLen at h2 g2
    by_cases hlt : l.length < m.length
    · have ev : Limb.cmpN (Limb.val 1000000 l) (Limb.val 1000000 m) = -1 := Limb.cmp_lt (Limb.order_len (by omega) hl hm hlt)
      clear hu hv
      go_enter Tryz.func92, Tryz.ntmps92
      go_wp2
      go_ret
      exact ⟨ret_int ev.symm, 0, rfl⟩
    · have ev : Limb.cmpN (Limb.val 1000000 l) (Limb.val 1000000 m) = 1 := Limb.cmp_gt (Limb.order_len (by omega) hm hl (by omega))
      clear hu hv
      go_enter Tryz.func92, Tryz.ntmps92
      go_wp2
      go_ret
      exact ⟨ret_int ev.symm, 0, rfl⟩

end Go.Proofs.YtldclpdmcopgnaaGreatDoor

namespace Go.Proofs.YtldclpdmcopgnaaGreatDoor
open Go.RowKit

theorem Tryz.infoI64 : (Tryz.prog.info? 3).map (fun i => (i.zero, i.size, i.bytes)) = some (some (.int .i64 0), 1, 8) := by kernel_rfl

set_option maxRecDepth 100000 in
set_option maxHeartbeats 2000000 in
theorem rplus_own (u v : Value) (a b : List Nat) (w : World) (hu : Sees .i64 w u a) (hv : Sees .i64 w v b) (ha : Limb.small 1000000 a) (hb : Limb.small 1000000 b) (hla : a.length ≤ 1000) (hlb : b.length ≤ 1000) :
    Calls Tryz.prog 125 #[u, v] w fun e w' => ∃ r, e = .returned r ∧ Below w.heap.size w w' ∧ IsNat .i64 1000000 w' r (Limb.val 1000000 a + Limb.val 1000000 b) (max a.length b.length + 1) ∧ ∀ g, g < w.heap.size → r.ownBlock ≠ some g := by
  obtain ⟨i0, hi, hz0, hz1, hz2⟩ := info_parts Tryz.infoI64
  obtain ⟨M, hM⟩ : ∃ M, M = max a.length b.length := ⟨_, rfl⟩
  rw [← hM]
  have m1 : a.length ≤ M := by omega
  have m2 : b.length ≤ M := by omega
  have m3 : M ≤ 1000 := by omega
  have HM := Lib.hid hM
  clear hM
  obtain ⟨ao, ca, rfl, a1, a2, a3⟩ := hu.opened
  obtain ⟨bo, cb, rfl, b1, b2, b3⟩ := hv.opened
  clear hu hv
  go_enter Tryz.func125, Tryz.ntmps125
  go_wp2
  go_loopw [5, 6, 7] (fun u5 u6 u7 wr => ∃ (i c : Nat) (s : List Nat), u7 = .int .i64 i ∧ u6 = .int .i64 c ∧ i ≤ M + 1 ∧ c ≤ 1 ∧ Hid (i = M + 1 → c = 0) ∧ Hid (s.length = i) ∧ Row w.heap.size .i64 3 wr u5 s ∧ Limb.small 1000000 s ∧ Below w.heap.size w wr ∧
      Hid (Limb.val 1000000 s + 1000000 ^ i * c = Limb.val 1000000 (a.take i) + Limb.val 1000000 (b.take i))) (fun _ _ u7 _ => M + 2 - (intOf u7).toNat)
  case atStart => exact ⟨0, 0, [], rfl, rfl, by omega, by omega, Lib.hid fun _ => rfl, Lib.hid rfl, Row.nil _ _ _ _, fun x hx => by simp at hx, Below.refl _ _, by unfold Hid; simp⟩
  case round =>
    obtain ⟨i, c, s, rfl, rfl, hi1, hc1, HE, HA, hrow, hsm, hbel, HV⟩ := hrel
    have hsl : s.length ≤ 1001 := by rw [HA.out]; omega
    obtain ⟨x, hx⟩ : ∃ x, a.getD i 0 = x := ⟨_, rfl⟩
    obtain ⟨y, hy⟩ : ∃ y, b.getD i 0 = y := ⟨_, rfl⟩
    have hx9 : x < 1000000 := by rw [← hx]; exact Limb.small_getD (by omega) ha i
    have hy9 : y < 1000000 := by rw [← hy]; exact Limb.small_getD (by omega) hb i
    have HS := Lib.hid (Limb.rplus_step HA.out hx hy HV.out)
    have HX := Lib.hid hx
    have HY := Lib.hid hy
    by_cases g1 : i < a.length
    · obtain ⟨ab, aoff, rfl, a4, a5⟩ := a3.at hbel g1
      rw [hx] at a5
      by_cases g2 : i < b.length
      · obtain ⟨bb, boff, rfl, b4, b5⟩ := b3.at hbel g2
        rw [hy] at b5
        clear hx hy a3 b3
        go_wp2_with (at_builtin; refine wpList_append_nat rfl _ _ 113 rfl 3 i0 .i64 8 Tryz.underlying113 hi hz0 hz1 hz2 (by omega) _ _ s [(c + x + y) % 1000000] rfl rfl w.heap.size (hrow.below ((Below.refl _ _).alloc (Nat.le_refl _) _) (Nat.le_refl _)) ((Row.one 0 _ _ _ (Nat.zero_le _) ((c + x + y) % 1000000) _ (by omega)).sees) (by simp; omega) (by have := hbel.size; simp; omega) ?_; intro v5 w5 hr5 hb5)
        go_roundw
        case rel =>
          refine ⟨i + 1, (c + x + y) / 1000000, s ++ [(c + x + y) % 1000000], by go_num, by refine congrArg _ ?_; omega, by omega, by omega, ?_, ?_, hr5, Limb.small_snoc hsm (by omega), (hbel.alloc hbel.size _).trans hb5, HS⟩
          · exact Lib.hid (fun h => by omega)
          · unfold Hid; rw [List.length_append, HA.out]; rfl
        case measure => simp [intOf]; omega
      · have hy0 : y ≤ 0 := by rw [← hy, Limb.getD_ge _ _ (by omega)]; exact Nat.le_refl _
        clear hx hy a3 b3
        go_wp2_with (at_builtin; refine wpList_append_nat rfl _ _ 113 rfl 3 i0 .i64 8 Tryz.underlying113 hi hz0 hz1 hz2 (by omega) _ _ s [(c + x + y) % 1000000] rfl rfl w.heap.size (hrow.below ((Below.refl _ _).alloc (Nat.le_refl _) _) (Nat.le_refl _)) ((Row.one 0 _ _ _ (Nat.zero_le _) ((c + x + y) % 1000000) _ (by omega)).sees) (by simp; omega) (by have := hbel.size; simp; omega) ?_; intro v5 w5 hr5 hb5)
        go_roundw
        case rel =>
          refine ⟨i + 1, (c + x + y) / 1000000, s ++ [(c + x + y) % 1000000], by go_num, by refine congrArg _ ?_; omega, by omega, by omega, ?_, ?_, hr5, Limb.small_snoc hsm (by omega), (hbel.alloc hbel.size _).trans hb5, HS⟩
          · exact Lib.hid (fun h => by omega)
          · unfold Hid; rw [List.length_append, HA.out]; rfl
        case measure => simp [intOf]; omega
    · have hx0 : x ≤ 0 := by rw [← hx, Limb.getD_ge _ _ (by omega)]; exact Nat.le_refl _
      by_cases g2 : i < b.length
      · obtain ⟨bb, boff, rfl, b4, b5⟩ := b3.at hbel g2
        rw [hy] at b5
        clear hx hy a3 b3
        go_wp2_with (at_builtin; refine wpList_append_nat rfl _ _ 113 rfl 3 i0 .i64 8 Tryz.underlying113 hi hz0 hz1 hz2 (by omega) _ _ s [(c + x + y) % 1000000] rfl rfl w.heap.size (hrow.below ((Below.refl _ _).alloc (Nat.le_refl _) _) (Nat.le_refl _)) ((Row.one 0 _ _ _ (Nat.zero_le _) ((c + x + y) % 1000000) _ (by omega)).sees) (by simp; omega) (by have := hbel.size; simp; omega) ?_; intro v5 w5 hr5 hb5)
        go_roundw
        case rel =>
          refine ⟨i + 1, (c + x + y) / 1000000, s ++ [(c + x + y) % 1000000], by go_num, by refine congrArg _ ?_; omega, by omega, by omega, ?_, ?_, hr5, Limb.small_snoc hsm (by omega), (hbel.alloc hbel.size _).trans hb5, HS⟩
          · exact Lib.hid (fun h => by omega)
          · unfold Hid; rw [List.length_append, HA.out]; rfl
        case measure => simp [intOf]; omega
      · have hy0 : y ≤ 0 := by rw [← hy, Limb.getD_ge _ _ (by omega)]; exact Nat.le_refl _
        clear hx hy a3 b3
        by_cases hc0 : 0 < c
        · have hiM : i ≤ M := by
            rcases Nat.lt_or_ge i (M + 1) with h | h
            · omega
            · exact absurd (HE.out (by omega)) (by omega)
          go_wp2_with (at_builtin; refine wpList_append_nat rfl _ _ 113 rfl 3 i0 .i64 8 Tryz.underlying113 hi hz0 hz1 hz2 (by omega) _ _ s [(c + x + y) % 1000000] rfl rfl w.heap.size (hrow.below ((Below.refl _ _).alloc (Nat.le_refl _) _) (Nat.le_refl _)) ((Row.one 0 _ _ _ (Nat.zero_le _) ((c + x + y) % 1000000) _ (by omega)).sees) (by simp; omega) (by have := hbel.size; simp; omega) ?_; intro v5 w5 hr5 hb5)
          go_roundw
          case rel =>
            refine ⟨i + 1, (c + x + y) / 1000000, s ++ [(c + x + y) % 1000000], by go_num, by refine congrArg _ ?_; omega, by omega, by omega, ?_, ?_, hr5, Limb.small_snoc hsm (by omega), (hbel.alloc hbel.size _).trans hb5, HS⟩
            · exact Lib.hid (fun h => by omega)
            · unfold Hid; rw [List.length_append, HA.out]; rfl
          case measure => simp [intOf]; omega
        · have HV2 := Lib.hid (Limb.rplus_end (by omega) (by omega) (by omega) HV.out)
          have HR := Lib.hid (World.ownsRow.lt hrow)
          have CT := Lib.hid (rtrim_own u5 s wr hrow.sees hsm)
          clear hsm ha hb
          go_wp2_with (go_at_call 122; refine (CT.out).mono ?_; rintro e w' ⟨r, rfl, rfl, hr, hro⟩)
          go_ret
          rw [HV2.out] at hr
          exact ⟨r, rfl, hbel, hr.up (by rw [HA.out]; omega), fun g hg e => by rw [hro] at e; have := (HR.out g e).1; omega⟩

set_option maxRecDepth 100000 in
set_option maxHeartbeats 2000000 in
theorem rless_own (u v : Value) (a b : List Nat) (w : World) (hu : Sees .i64 w u a) (hv : Sees .i64 w v b) (ha : Limb.norm 1000000 a) (hb : Limb.norm 1000000 b) (hla : a.length ≤ 1000) (hle : Limb.val 1000000 b ≤ Limb.val 1000000 a) :
    Calls Tryz.prog 126 #[u, v] w fun e w' => ∃ r, e = .returned r ∧ Below w.heap.size w w' ∧ IsNat .i64 1000000 w' r (Limb.val 1000000 a - Limb.val 1000000 b) a.length ∧ ∀ g, g < w.heap.size → r.ownBlock ≠ some g := by
  obtain ⟨i0, hi, hz0, hz1, hz2⟩ := info_parts Tryz.infoI64
  have hlb : b.length ≤ a.length := Limb.norm_len (by omega) ha hb hle
  obtain ⟨ao, ca, rfl, a1, a2, a3⟩ := hu.opened
  obtain ⟨bo, cb, rfl, b1, b2, b3⟩ := hv.opened
  have HLE := Lib.hid hle
  have has := ha.1
  have hbs := hb.1
  clear hu hv hle ha hb
  go_enter Tryz.func126, Tryz.ntmps126
  go_wp2
  go_loopw [5, 6, 7] (fun u5 u6 u7 wr => ∃ (i c : Nat) (s : List Nat), u7 = .int .i64 i ∧ u6 = .int .i64 c ∧ i ≤ a.length ∧ c ≤ 1 ∧ Hid (s.length = i) ∧ Row w.heap.size .i64 3 wr u5 s ∧ Limb.small 1000000 s ∧ Below w.heap.size w wr ∧
      Hid (Limb.val 1000000 s + Limb.val 1000000 (b.take i) = Limb.val 1000000 (a.take i) + 1000000 ^ i * c)) (fun _ _ u7 _ => a.length - (intOf u7).toNat)
  case atStart => exact ⟨0, 0, [], rfl, rfl, by omega, by omega, Lib.hid rfl, Row.nil _ _ _ _, fun x hx => by simp at hx, Below.refl _ _, by unfold Hid; simp⟩
  case round =>
    obtain ⟨i, c, s, rfl, rfl, hi1, hc1, HA, hrow, hsm, hbel, HV⟩ := hrel
    have hsl : s.length ≤ 1001 := by rw [HA.out]; omega
    by_cases g1 : i < a.length
    · obtain ⟨x, hx⟩ : ∃ x, a.getD i 0 = x := ⟨_, rfl⟩
      obtain ⟨y, hy⟩ : ∃ y, b.getD i 0 = y := ⟨_, rfl⟩
      have hx9 : x < 1000000 := by rw [← hx]; exact Limb.small_getD (by omega) has i
      have hy9 : y < 1000000 := by rw [← hy]; exact Limb.small_getD (by omega) hbs i
      have HX := Lib.hid hx
      have HY := Lib.hid hy
      obtain ⟨ab, aoff, rfl, a4, a5⟩ := a3.at hbel g1
      rw [hx] at a5
      by_cases g2 : i < b.length
      · obtain ⟨bb, boff, rfl, b4, b5⟩ := b3.at hbel g2
        rw [hy] at b5
        by_cases hlt : x < y + c
        · clear hx hy a3 b3
          go_wp2_with (at_builtin; refine wpList_append_nat rfl _ _ 113 rfl 3 i0 .i64 8 Tryz.underlying113 hi hz0 hz1 hz2 (by omega) _ _ s [x + 1000000 - (y + c)] rfl rfl w.heap.size (hrow.below ((Below.refl _ _).alloc (Nat.le_refl _) _) (Nat.le_refl _)) ((Row.one 0 _ _ _ (Nat.zero_le _) (x + 1000000 - (y + c)) _ (by omega)).sees) (by simp; omega) (by have := hbel.size; simp; omega) ?_; intro v5 w5 hr5 hb5)
          go_roundw
          case rel =>
            refine ⟨i + 1, 1, s ++ [x + 1000000 - (y + c)], by go_num, rfl, by omega, by omega, ?_, hr5, Limb.small_snoc hsm (by omega), (hbel.alloc hbel.size _).trans hb5, ?_⟩
            · unfold Hid; rw [List.length_append, HA.out]; rfl
            · exact Lib.hid (Limb.rminus_step HA.out HX.out HY.out HV.out (by omega))
          case measure => simp [intOf]; omega
        · clear hx hy a3 b3
          go_wp2_with (at_builtin; refine wpList_append_nat rfl _ _ 113 rfl 3 i0 .i64 8 Tryz.underlying113 hi hz0 hz1 hz2 (by omega) _ _ s [x - (y + c)] rfl rfl w.heap.size (hrow.below ((Below.refl _ _).alloc (Nat.le_refl _) _) (Nat.le_refl _)) ((Row.one 0 _ _ _ (Nat.zero_le _) (x - (y + c)) _ (by omega)).sees) (by simp; omega) (by have := hbel.size; simp; omega) ?_; intro v5 w5 hr5 hb5)
          go_roundw
          case rel =>
            refine ⟨i + 1, 0, s ++ [x - (y + c)], by go_num, rfl, by omega, by omega, ?_, hr5, Limb.small_snoc hsm (by omega), (hbel.alloc hbel.size _).trans hb5, ?_⟩
            · unfold Hid; rw [List.length_append, HA.out]; rfl
            · exact Lib.hid (Limb.rminus_step HA.out HX.out HY.out HV.out (by omega))
          case measure => simp [intOf]; omega
      · have hy0 : y ≤ 0 := by rw [← hy, Limb.getD_ge _ _ (by omega)]; exact Nat.le_refl _
        by_cases hlt : x < y + c
        · clear hx hy a3 b3
          go_wp2_with (at_builtin; refine wpList_append_nat rfl _ _ 113 rfl 3 i0 .i64 8 Tryz.underlying113 hi hz0 hz1 hz2 (by omega) _ _ s [x + 1000000 - (y + c)] rfl rfl w.heap.size (hrow.below ((Below.refl _ _).alloc (Nat.le_refl _) _) (Nat.le_refl _)) ((Row.one 0 _ _ _ (Nat.zero_le _) (x + 1000000 - (y + c)) _ (by omega)).sees) (by simp; omega) (by have := hbel.size; simp; omega) ?_; intro v5 w5 hr5 hb5)
          go_roundw
          case rel =>
            refine ⟨i + 1, 1, s ++ [x + 1000000 - (y + c)], by go_num, rfl, by omega, by omega, ?_, hr5, Limb.small_snoc hsm (by omega), (hbel.alloc hbel.size _).trans hb5, ?_⟩
            · unfold Hid; rw [List.length_append, HA.out]; rfl
            · exact Lib.hid (Limb.rminus_step HA.out HX.out HY.out HV.out (by omega))
          case measure => simp [intOf]; omega
        · clear hx hy a3 b3
          go_wp2_with (at_builtin; refine wpList_append_nat rfl _ _ 113 rfl 3 i0 .i64 8 Tryz.underlying113 hi hz0 hz1 hz2 (by omega) _ _ s [x - (y + c)] rfl rfl w.heap.size (hrow.below ((Below.refl _ _).alloc (Nat.le_refl _) _) (Nat.le_refl _)) ((Row.one 0 _ _ _ (Nat.zero_le _) (x - (y + c)) _ (by omega)).sees) (by simp; omega) (by have := hbel.size; simp; omega) ?_; intro v5 w5 hr5 hb5)
          go_roundw
          case rel =>
            refine ⟨i + 1, 0, s ++ [x - (y + c)], by go_num, rfl, by omega, by omega, ?_, hr5, Limb.small_snoc hsm (by omega), (hbel.alloc hbel.size _).trans hb5, ?_⟩
            · unfold Hid; rw [List.length_append, HA.out]; rfl
            · exact Lib.hid (Limb.rminus_step HA.out HX.out HY.out HV.out (by omega))
          case measure => simp [intOf]; omega
    · have HV2 := Lib.hid (Limb.rminus_end hsm HA.out (by omega) hlb HLE.out HV.out)
      have HR := Lib.hid (World.ownsRow.lt hrow)
      have CT := Lib.hid (rtrim_own u5 s wr hrow.sees hsm)
      clear hsm has hbs
      go_wp2_with (go_at_call 122; refine (CT.out).mono ?_; rintro e w' ⟨r, rfl, rfl, hr, hro⟩)
      go_ret
      rw [HV2.out] at hr
      exact ⟨r, rfl, hbel, hr.up (by rw [HA.out]; omega), fun g hg e => by rw [hro] at e; have := (HR.out g e).1; omega⟩

end Go.Proofs.YtldclpdmcopgnaaGreatDoor

namespace Go.Proofs.YtldclpdmcopgnaaGreatDoor
open Go.RowKit

set_option maxRecDepth 100000 in
set_option maxHeartbeats 2000000 in
theorem rtimes_own (u v : Value) (a b : List Nat) (w : World) (sa : Sees .i64 w u a) (sb : Sees .i64 w v b) (na : Limb.small 1000000 a) (nb : Limb.small 1000000 b) (ha : a.length ≤ 1000) (hb : b.length ≤ 1000) :
    Calls Tryz.prog 124 #[u, v] w fun e w' => ∃ r, e = .returned r ∧ Below w.heap.size w w' ∧ IsNat .i64 1000000 w' r (Limb.val 1000000 a * Limb.val 1000000 b) (a.length + b.length) ∧ r.ownBlock = some w.heap.size := by
  obtain ⟨ao, ca, rfl, a1, a2, CA⟩ := sa.opened
  obtain ⟨bo, cb, rfl, b1, b2, CB⟩ := sb.opened
  obtain ⟨i0, hi, hz0, hz1, hz2⟩ := info_parts Tryz.infoI64
  clear sa sb
  go_enter Tryz.func124, Tryz.ntmps124
  go_wp2_with ((at_make; refine wpList_make_nat _ rfl _ _ 113 rfl 3 i0 .i64 8 Tryz.underlying113 hi hz0 hz1 hz2 (by omega) _ _ _ _ (a.length + b.length) rfl rfl (by omega) (by omega) (by omega) ?_; intro w1 hown1 hb1))
  go_loopw [6] (fun u21 wr => ∃ (i : Nat) (s : List Nat), i ≤ a.length ∧ u21 = .int .i64 i ∧ Below w.heap.size w wr ∧ Own .i64 3 wr w.heap.size s ∧ Hid (s.length = a.length + b.length) ∧
      Limb.small 1000000 s ∧ Hid (Limb.val 1000000 s = Limb.val 1000000 (a.take i) * Limb.val 1000000 b) ∧ Hid (∀ j, i + b.length ≤ j → s.getD j 0 = 0)) (fun u21 _ => a.length - (intOf u21).toNat)
  case atStart =>
    refine ⟨0, _, Nat.zero_le _, rfl, hb1, hown1, Lib.hid List.length_replicate, Limb.small_replicate _ (by omega), ?_, ?_⟩
    · unfold Hid; rw [Limb.val_replicate]; simp
    · intro j _; simp [List.getElem?_replicate]; split <;> rfl
  case round =>
    obtain ⟨i, s, hi1, rfl, hbel, hown, HSL, hsm, HI, HZ⟩ := hrel
    have hLx := hown.1
    by_cases hlt : i < a.length
    · have hx0 := Limb.small_getD (by omega) na i
      obtain ⟨x, hx⟩ : ∃ x, a.getD i 0 = x := ⟨_, rfl⟩
      rw [hx] at hx0
      have HX := Lib.hid hx
      clear hx
      go_wp2
      obtain ⟨wo, hwo⟩ : ∃ wo : World, wo = wr := ⟨_, rfl⟩
      have hbo := hbel
      rw [← hwo] at hbo
      clear hwo
      go_loopw [7, 8] (fun u9 u28 wr => ∃ (j c : Nat) (p : List Nat), j ≤ b.length ∧ c < 1000000 ∧ u28 = .int .i64 j ∧ u9 = .int .i64 c ∧ Below w.heap.size w wr ∧ Own .i64 3 wr w.heap.size p ∧ Hid (p.length = a.length + b.length) ∧
          Limb.small 1000000 p ∧ Hid (Limb.val 1000000 p + 1000000 ^ (i + j) * c = Limb.val 1000000 (a.take i) * Limb.val 1000000 b + 1000000 ^ i * (x * Limb.val 1000000 (b.take j))) ∧ Hid (∀ j, i + b.length ≤ j → p.getD j 0 = 0)) (fun _ u28 _ => b.length - (intOf u28).toNat)
      case atStart => exact ⟨0, 0, s, Nat.zero_le _, by omega, rfl, rfl, hbel, hown, HSL, hsm, by unfold Hid; rw [HI.out]; simp, HZ⟩
      case round =>
        obtain ⟨j, c, p, hj1, hc1, rfl, rfl, hbel2, hown2, HPL, hpm, HJ, HQ⟩ := hrel
        have hLp := hown2.1
        have hPL1 : p.length ≤ a.length + b.length := by rw [HPL.out]; exact Nat.le_refl _
        have hPL2 : a.length + b.length ≤ p.length := by rw [HPL.out]; exact Nat.le_refl _
        by_cases hjt : j < b.length
        · have hy0 := Limb.small_getD (by omega) nb j
          have hz0' := Limb.small_getD (by omega) hpm (i + j)
          obtain ⟨b0, off, rfl, hb0, hca⟩ := CA.at hbel2 hlt
          rw [HX.out] at hca
          obtain ⟨b2', off2, rfl, hb2, hcb⟩ := CB.at hbel2 hjt
          obtain ⟨y, hy⟩ : ∃ y, b.getD j 0 = y := ⟨_, rfl⟩
          obtain ⟨z, hz⟩ : ∃ z, p.getD (i + j) 0 = z := ⟨_, rfl⟩
          have hcell := hown2.cell (i := i + j) (by omega)
          have hfree := hown2.free (i + j)
          rw [hy] at hy0 hcb
          rw [hz] at hz0' hcell
          have HY := Lib.hid hy
          have HZ2 := Lib.hid hz
          have hxy := mul_bound hx0 hy0
          obtain ⟨t, ht⟩ : ∃ t, x * y = t := ⟨_, rfl⟩
          rw [ht] at hxy
          have hti : (x : Int) * (y : Int) = (t : Int) := by rw [← ht, Int.natCast_mul]
          have h1t : 0 ≤ (x : Int) * (y : Int) := by omega
          have h2t : (x : Int) * (y : Int) ≤ 999998000001 := by omega
          have HT := Lib.hid hti
          have HT2 := Lib.hid ht
          clear hy hz hti ht
          go_wp2
          go_quiet (fail)
          go_wp2
          go_roundw
          case rel =>
            refine ⟨j + 1, (c + (z + t)) / 1000000, p.set (i + j) ((c + (z + t)) % 1000000), by omega, by omega, by go_num, ?_, (hbel2.trans (below_drewN _ _)).setCell (Nat.le_refl _) _, (hown2.drewN _).put (i + j) _ _ (by rw [HT.out]; omega), ?_, Limb.small_set hpm _ _ (by omega), ?_, Limb.zero_set HQ.out (by omega)⟩
            · rw [HT.out]; go_num
            · unfold Hid; rw [List.length_set]; exact HPL.out
            · rw [← HT2.out]; exact Limb.times_round b p i j x y z c _ HZ2.out HY.out (by omega) HJ.out
          case measure => simp [intOf]; omega
        · have hj2 : j = b.length := by omega
          have hcell := hown2.cell (i := i + b.length) (by omega)
          have hfree := hown2.free (i + b.length)
          generalize p.getD (i + b.length) 0 = z at hcell
          have hfin : Limb.val 1000000 (p.set (i + b.length) c) = Limb.val 1000000 (a.take (i + 1)) * Limb.val 1000000 b := by
            have h := HJ.out
            rw [hj2] at h
            exact Limb.times_out a b p _ i c (by omega) (HQ.out _ (Nat.le_refl _)) (by rw [HX.out]; exact h) rfl
          have HF := Lib.hid hfin
          clear hj2 hfin
          go_wp2
          go_roundw
          case rel =>
            refine ⟨i + 1, p.set (i + b.length) c, by omega, by go_num, hbel2.setCell (Nat.le_refl _) _, hown2.put (i + b.length) _ _ rfl, ?_, Limb.small_set hpm _ _ (by omega), HF, ?_⟩
            · unfold Hid; rw [List.length_set]; exact HPL.out
            · exact fun t ht => by rw [Limb.getD_set_ne _ _ _ _ (by omega)]; exact HQ.out t (by omega)
          case measure => simp [intOf]; omega
    · have hs2 : Sees .i64 wr (.slice (some ⟨w.heap.size, 0, none⟩) (a.length + b.length) (a.length + b.length)) s := by have := hown.sees; rw [HSL.out] at this; exact this
      have CT := Lib.hid (rtrim_own _ s wr hs2 hsm)
      have hv : Limb.val 1000000 s = Limb.val 1000000 a * Limb.val 1000000 b := by
        have := HI.out
        rw [List.take_of_length_le (by omega)] at this
        exact this
      have HV := Lib.hid hv
      have hsl : s.length ≤ a.length + b.length := by rw [HSL.out]; exact Nat.le_refl _
      clear hv hs2
      go_wp2_with (go_at_call 122; refine (CT.out).mono ?_; rintro e w' ⟨r, rfl, rfl, hr, hrb⟩)
      go_ret
      rw [HV.out] at hr
      exact ⟨r, rfl, hbel, hr.up hsl, hrb⟩


end Go.Proofs.YtldclpdmcopgnaaGreatDoor

namespace Go.Proofs.YtldclpdmcopgnaaGreatDoor
open Go.RowKit

theorem rorder_nat {u v : Value} {m n p q : Nat} {w : World} (hu : IsNat .i64 1000000 w u m p) (hv : IsNat .i64 1000000 w v n q) {c : Int} (hc : Limb.cmpN m n = c) :
    Calls Tryz.prog 92 #[u, v] w fun e w' => e = .returned (.int .i64 c) ∧ ∃ n, w' = w.drewN n := by
  obtain ⟨a, sa, na, ea, la⟩ := hu
  obtain ⟨b, sb, nb, eb, lb⟩ := hv
  have h := rorder_any u v a b w sa sb na nb
  rw [ea, eb, hc] at h
  exact h
theorem rtimes_one {u : Value} {n q : Nat} {w : World} (hu : IsNat .i64 1000000 w u n q) (hq : q ≤ 900) {v : Value} {x : Nat} (hv : Sees .i64 w v [x]) (hx : x < 1000000) :
    Calls Tryz.prog 124 #[u, v] w fun e w' => ∃ r, e = .returned r ∧ Below w.heap.size w w' ∧ IsNat .i64 1000000 w' r (n * x) (q + 1) := by
  obtain ⟨a, sa, na, ea, la⟩ := hu
  refine (rtimes_own u v a [x] w sa hv na.1 (fun z hz => by rw [List.mem_singleton.1 hz]; exact hx) (by omega) (by simp)).mono ?_
  rintro e w' ⟨r, h1, h2, h3, _⟩
  refine ⟨r, h1, h2, ?_⟩
  rw [ea, show Limb.val 1000000 [x] = x by simp [Limb.val]] at h3
  exact h3.up (by simp; omega)
theorem rtimes_nat {u v : Value} {m n p q : Nat} {w : World} (hu : IsNat .i64 1000000 w u m p) (hv : IsNat .i64 1000000 w v n q) (hp : p ≤ 900) (hq : q ≤ 900) :
    Calls Tryz.prog 124 #[u, v] w fun e w' => ∃ r, e = .returned r ∧ Below w.heap.size w w' ∧ IsNat .i64 1000000 w' r (m * n) (p + q) ∧ r.ownBlock = some w.heap.size := by
  obtain ⟨a, sa, na, ea, la⟩ := hu
  obtain ⟨b, sb, nb, eb, lb⟩ := hv
  have h := rtimes_own u v a b w sa sb na.1 nb.1 (by omega) (by omega)
  rw [ea, eb] at h
  exact h.mono fun e w' ⟨r, h1, h2, h3, h4⟩ => ⟨r, h1, h2, h3.up (by omega), h4⟩
theorem rless_nat {u v : Value} {m n p q : Nat} {w : World} (hu : IsNat .i64 1000000 w u m p) (hv : IsNat .i64 1000000 w v n q) (hp : p ≤ 900) (hle : n ≤ m) :
    Calls Tryz.prog 126 #[u, v] w fun e w' => ∃ r, e = .returned r ∧ Below w.heap.size w w' ∧ IsNat .i64 1000000 w' r (m - n) p ∧ ∀ g, g < w.heap.size → r.ownBlock ≠ some g := by
  obtain ⟨a, sa, na, ea, la⟩ := hu
  obtain ⟨b, sb, nb, eb, lb⟩ := hv
  have h := rless_own u v a b w sa sb na nb (by omega) (by rw [ea, eb]; exact hle)
  rw [ea, eb] at h
  exact h.mono fun e w' ⟨r, h1, h2, h3, h4⟩ => ⟨r, h1, h2, h3.up (by omega), h4⟩
theorem rplus_nat {u v : Value} {m n p q : Nat} {w : World} (hu : IsNat .i64 1000000 w u m p) (hv : IsNat .i64 1000000 w v n q) (hp : p ≤ 900) (hq : q ≤ 900) :
    Calls Tryz.prog 125 #[u, v] w fun e w' => ∃ r, e = .returned r ∧ Below w.heap.size w w' ∧ IsNat .i64 1000000 w' r (m + n) (p + q + 1) ∧ ∀ g, g < w.heap.size → r.ownBlock ≠ some g := by
  obtain ⟨a, sa, na, ea, la⟩ := hu
  obtain ⟨b, sb, nb, eb, lb⟩ := hv
  have h := rplus_own u v a b w sa sb na.1 nb.1 (by omega) (by omega)
  rw [ea, eb] at h
  exact h.mono fun e w' ⟨r, h1, h2, h3, h4⟩ => ⟨r, h1, h2, h3.up (by omega), h4⟩
theorem rtrim_one {v : Value} {x : Nat} {w : World} (hv : Sees .i64 w v [x]) (hx : x < 1000000) :
    Calls Tryz.prog 122 #[v] w fun e w' => ∃ u, e = .returned u ∧ w = w' ∧ IsNat .i64 1000000 w u x 1 := by
  refine (rtrim_own v [x] w hv (fun z hz => by rw [List.mem_singleton.1 hz]; exact hx)).mono ?_
  rintro e w' ⟨u, h1, h2, h3, _⟩
  rw [show Limb.val 1000000 [x] = x by simp [Limb.val]] at h3
  exact ⟨u, h1, h2, h3⟩
theorem IsNat.fit {w : World} {v : Value} {n p : Nat} (h : IsNat .i64 1000000 w v n p) {k : Nat} (hk : n < 1000000 ^ k) : IsNat .i64 1000000 w v n k := by
  obtain ⟨l, h1, h2, h3, h4⟩ := h
  exact ⟨l, h1, h2, h3, Limb.len_le (by omega) h2 (by rw [h3]; exact hk)⟩
theorem IsNat.lt {w : World} {v : Value} {n p : Nat} (h : IsNat .i64 1000000 w v n p) : n < 1000000 ^ p := by
  obtain ⟨l, h1, h2, h3, h4⟩ := h
  rw [← h3]
  exact Nat.lt_of_lt_of_le (Limb.val_lt h2.1) (Nat.pow_le_pow_right (by omega) h4)

set_option maxRecDepth 100000 in
set_option maxHeartbeats 4000000 in
theorem rquot_any {u v : Value} {m n p q : Nat} {w : World} (hu : IsNat .i64 1000000 w u m p) (hv : IsNat .i64 1000000 w v n q) (hn : 0 < n) (hp : p ≤ 900) (hq : q ≤ 800) :
    Calls Tryz.prog 121 #[u, v] w fun e w' => ∃ x y, e = .returned (.tuple #[x, y]) ∧ Below w.heap.size w w' ∧ IsNat .i64 1000000 w' x (m / n) p ∧ IsNat .i64 1000000 w' y (m % n) q := by
  obtain ⟨a, sa, na, ea, la⟩ := hu
  have hnq := hv.lt
  have HV := Lib.hid hv
  obtain ⟨va, vl, vc, rfl⟩ := hv.form
  clear hv
  obtain ⟨i0, hi, hz0, hz1, hz2⟩ := info_parts Tryz.infoI64
  obtain ⟨ao, ca, rfl, a1, a2, CA⟩ := sa.opened
  clear sa
  have nas := na.1
  have EA := Lib.hid ea
  clear ea na
  go_enter Tryz.func121, Tryz.ntmps121
  go_wp2_with ((at_make; refine wpList_make_nat _ rfl _ _ 113 rfl 3 i0 .i64 8 Tryz.underlying113 hi hz0 hz1 hz2 (by omega) _ _ _ _ a.length rfl rfl (by omega) (by omega) (by omega) ?_; intro w1 hown1 hb1))
  go_loopw [7, 8] (fun u7 u8 wr => ∃ (k r : Nat) (s : List Nat), k ≤ a.length ∧ r < n ∧ u8 = .int .i64 ((k : Int) - 1) ∧ IsNat .i64 1000000 wr u7 r q ∧ Below w.heap.size w wr ∧ Own .i64 3 wr w.heap.size s ∧ Hid (s.length = a.length) ∧
      Limb.small 1000000 s ∧ Hid (Limb.val 1000000 (a.drop k) = Limb.val 1000000 (s.drop k) * n + r) ∧ Hid (∀ j, j < k → s.getD j 0 = 0)) (fun _ u8 _ => (intOf u8 + 1).toNat)
  case atStart =>
    refine ⟨a.length, 0, _, Nat.le_refl _, hn, rfl, ⟨[], .inl ⟨rfl, rfl⟩, Limb.norm_nil _, rfl, Nat.zero_le _⟩, hb1, hown1, Lib.hid List.length_replicate, Limb.small_replicate _ (by omega), ?_, ?_⟩
    · unfold Hid; rw [List.drop_eq_nil_of_le (Nat.le_refl _), List.drop_eq_nil_of_le (by simp)]; simp [Limb.val]
    · intro j _; simp [List.getElem?_replicate]; split <;> rfl
  case round =>
    obtain ⟨k, r, s, hk, hr, rfl, hR, hbel, hown, HSL, hsm, HI, HZ⟩ := hrel
    have hLx := hown.1
    by_cases hk0 : 0 < k
    · obtain ⟨b0, off, rfl, hb0, hca⟩ := CA.at hbel (show k - 1 < a.length by omega)
      have hx0 := Limb.small_getD (by omega) nas (k - 1)
      obtain ⟨x, hx⟩ : ∃ x, a.getD (k - 1) 0 = x := ⟨_, rfl⟩
      rw [hx] at hx0 hca
      have HX := Lib.hid hx
      obtain ⟨ra, rl, rc, rfl⟩ := hR.form
      obtain ⟨rs, hr1, hr2, hr3, hr4⟩ := hR
      have i1 : (0 : Int) ≤ (k : Int) - 1 := by omega
      have i2 : ((k : Int) - 1) < (a.length : Int) := by omega
      clear hx
      go_wp2_with (at_builtin; refine wpList_append_nat rfl _ _ 113 rfl 3 i0 .i64 8 Tryz.underlying113 hi hz0 hz1 hz2 (by omega) _ _ [x] rs rfl rfl wr.heap.size (Row.one _ _ _ _ (Nat.le_refl _) x _ rfl) (hr1.below ((Below.refl _ _).alloc (Nat.le_refl _) _) (Nat.le_refl _)) (by simp; omega) (by simp) ?_; intro v5 w5 hr5 hb5)
      have hRs : Limb.small 1000000 ([x] ++ rs) := by
        intro z hz
        rcases List.mem_append.1 hz with h | h
        · rw [List.mem_singleton.1 h]; exact hx0
        · exact hr2.1 z h
      refine (rtrim_own v5 ([x] ++ rs) w5 hr5.sees hRs).mono ?_
      rintro e w' ⟨R, rfl, rfl, hRn, hRb⟩
      have hN0 : Limb.val 1000000 ([x] ++ rs) = x + 1000000 * r := by rw [← hr3]; rfl
      rw [hN0] at hRn
      have hRn := hRn.up (show ([x] ++ rs).length ≤ q + 1 by simp; omega)
      have hq9 := Limb.rdiv_bound (B := 1000000) hx0 hr
      have hN1 : ∀ N, N = x + 1000000 * r → N / n < n → True := fun _ _ _ => trivial
      obtain ⟨N, hN⟩ : ∃ N, N = x + 1000000 * r := ⟨_, rfl⟩
      rw [← hN] at hRn hq9
      have HN := Lib.hid hN
      have hlt5 := World.ownsRow.lt hr5
      have hwr := hown.lt
      clear hN hN0 hN1 hr1 hr2 hr3 hRs hr5 hca
      obtain ⟨Ra, Rl, Rc, rfl⟩ := hRn.form
      have HRo := Lib.hid (show (Value.slice Ra Rl Rc).ownBlock ≠ some w.heap.size by intro h; rw [hRb] at h; have := (hlt5 _ h).1; omega)
      clear hlt5 hRb hwr
      have hB5 : Below wr.heap.size wr w5 := ((Below.refl _ _).alloc (Nat.le_refl _) _).trans hb5
      have hBel5 := hbel.trans (hB5.mono hbel.size)
      have hown5 := hown.below hB5 hown.lt
      clear hb5 hB5
      go_wp2_with fail
      by_cases hlt : N < n
      · refine (rorder_nat hRn (HV.out.below hBel5 (Nat.le_refl _)) (Limb.cmp_lt hlt)).mono ?_
        rintro e w6 ⟨rfl, n6, rfl⟩
        go_wp2
        go_roundw
        case rel =>
          refine ⟨k - 1, N, s, by omega, hlt, by go_num, ?_, hBel5.trans (below_drewN _ _), hown5.drewN _, HSL, hsm, ?_, ?_⟩
          · exact (hRn.fit (by omega)).drewN _
          · unfold Hid; rw [HN.out]; exact Limb.rdiv_skip hk0 HX.out (HZ.out _ (by omega)) HI.out
          · exact Lib.hid fun j hj => HZ.out j (by omega)
        case measure => simp [intOf]; omega
      · obtain ⟨c, hc⟩ : ∃ c, Limb.cmpN N n = c := ⟨_, rfl⟩
        have hc0 : ¬ c < 0 := by rw [← hc, Limb.cmp_lt_zero]; exact hlt
        refine (rorder_nat hRn (HV.out.below hBel5 (Nat.le_refl _)) hc).mono ?_
        rintro e w6 ⟨rfl, n6, rfl⟩
        clear hc
        go_wp2
        have hRn6 := Lib.hid (hRn.drewN n6)
        have hBel6 := hBel5.trans (below_drewN w5 n6)
        have hown6 := hown5.drewN n6
        clear hRn hBel5 hown5 hown hbel
        generalize w5.drewN n6 = W6 at *
        obtain ⟨q0, hq0⟩ : ∃ q0, N / n = q0 := ⟨_, rfl⟩
        rw [hq0] at hq9
        have HQ0 := Lib.hid hq0
        clear hq0
        go_loopw [9, 10] (fun u9 u10 wq => ∃ lo hi : Nat, lo ≤ q0 ∧ q0 ≤ hi ∧ hi ≤ 999999 ∧ u9 = .int .i64 lo ∧ u10 = .int .i64 hi ∧ Below W6.heap.size W6 wq) (fun u9 u10 _ => (intOf u10 - intOf u9).toNat)
        case atStart => exact ⟨0, 999999, Nat.zero_le _, by omega, Nat.le_refl _, rfl, rfl, Below.refl _ _⟩
        case round =>
          obtain ⟨lo, hi', hlo, hhi, hhi9, rfl, rfl, hq6⟩ := hrel
          have hBq := hBel6.trans (hq6.mono hBel6.size)
          by_cases hlh : lo < hi'
          · obtain ⟨mid, hmid⟩ : ∃ mid, mid = (lo + hi' + 1) / 2 := ⟨_, rfl⟩
            have hA := (Below.refl wr.heap.size wr).alloc (Nat.le_refl _) (.cells #[.int .i64 (((lo : Int) + (hi' : Int) + 1) / 2)] 3)
            go_wp2_with fail
            have HVq := HV.out.below (hBq.trans (hA.mono hBq.size)) (Nat.le_refl _)
            refine (rtimes_one (x := mid) HVq (by omega) ((Row.one 0 _ _ _ (Nat.zero_le _) mid _ (by omega)).sees) (by omega)).mono ?_
            rintro e w7 ⟨T, rfl, hb7, hT⟩
            have hq7 := hq6.trans ((hA.trans (hb7.mono hA.size)).mono hq6.size)
            have hR7 := hRn6.out.below hq7 (Nat.le_refl _)
            obtain ⟨Ta, Tl, Tc, rfl⟩ := hT.form
            obtain ⟨c, hc⟩ : ∃ c, Limb.cmpN (n * mid) N = c := ⟨_, rfl⟩
            clear hA HVq hb7
            go_wp2_with fail
            by_cases hle : n * mid ≤ N
            · have hc0 : c ≤ 0 := by rw [← hc, Limb.cmp_le_zero]; exact hle
              have hm : mid ≤ q0 := by rw [← HQ0.out]; exact (Limb.rmul_le hn).1 hle
              refine (rorder_nat hT hR7 hc).mono ?_
              rintro e w8 ⟨rfl, n8, rfl⟩
              clear hc hle hT hR7
              go_wp2
              go_roundw
              case rel => exact ⟨mid, hi', hm, hhi, hhi9, by refine congrArg _ ?_; omega, rfl, hq7.trans (below_drewN _ _)⟩
              case measure => simp [intOf]; omega
            · have hc0 : ¬ c ≤ 0 := by rw [← hc, Limb.cmp_le_zero]; exact hle
              have hm : q0 < mid := by rw [← HQ0.out]; exact Nat.lt_of_not_le fun h => hle ((Limb.rmul_le hn).2 h)
              refine (rorder_nat hT hR7 hc).mono ?_
              rintro e w8 ⟨rfl, n8, rfl⟩
              clear hc hle hT hR7
              go_wp2
              go_roundw
              case rel => exact ⟨lo, mid - 1, hlo, by omega, by omega, rfl, by refine congrArg _ ?_; omega, hq7.trans (below_drewN _ _)⟩
              case measure => simp [intOf]; omega
          · have hlq : lo = q0 := by omega
            subst hlq
            have hownq := hown6.below hq6 hown6.lt
            have hcell := hownq.cell (i := k - 1) (by rw [HSL.out]; omega)
            have hfree := hownq.free (k - 1)
            generalize s.getD (k - 1) 0 = z at hcell
            have hZ := Lib.hid (Limb.div_round (B := 1000000) (s := s) hk0 (by rw [HSL.out]; exact hk) HX.out HI.out)
            rw [← HN.out, HQ0.out] at hZ
            have hBs := hBq.setCell (p := ⟨w.heap.size, k - 1, none⟩) (Nat.le_refl _) (.int .i64 lo)
            have hRs := (hRn6.out.below hq6 (Nat.le_refl _)).put (i := k - 1) HRo.out (.int .i64 lo)
            have hOs := hownq.put (k - 1) lo (lo : Int) rfl
            have hsl : (s.set (k - 1) lo).length = a.length := by rw [List.length_set]; exact HSL.out
            have hss := Limb.small_set hsm (k - 1) lo hq9
            have hzz : ∀ j, j < k - 1 → (s.set (k - 1) lo).getD j 0 = 0 := fun j hj => by rw [Limb.getD_set_ne _ _ _ _ (by omega)]; exact HZ.out j (by omega)
            have HSL2 := Lib.hid hsl
            have HZZ := Lib.hid hzz
            have hnl : n * lo ≤ N := by rw [← HQ0.out]; exact Nat.mul_div_le N n
            have hrn : N - n * lo < n := by rw [← HQ0.out, Limb.rdiv_mod]; exact Nat.mod_lt _ hn
            clear hsl hzz hownq hBq hBel6 hown6
            have HSZ := Lib.hid (show (wr.setCell ⟨w.heap.size, k - 1, none⟩ (.int .i64 lo)).heap.size = wr.heap.size by simp)
            go_wp2_with fail
            generalize wr.setCell ⟨w.heap.size, k - 1, none⟩ (.int .i64 lo) = Ws at *
            have hSee : Sees .i64 (Ws.alloc (.cells #[.int .i64 (lo : Int)] 3)) (.slice (some ⟨wr.heap.size, 0, none⟩) 1 1) [lo] := by
              have h := (Row.one 0 .i64 3 Ws (Nat.zero_le _) lo (lo : Int) rfl).sees
              rw [HSZ.out] at h
              exact h
            have hA := (Below.refl Ws.heap.size Ws).alloc (Nat.le_refl _) (.cells #[.int .i64 (lo : Int)] 3)
            refine (rtrim_one hSee hq9).mono ?_
            rintro e w' ⟨T, rfl, rfl, hT⟩
            obtain ⟨Ta, Tl, Tc, rfl⟩ := hT.form
            go_wp2_with fail
            refine (rtimes_nat (HV.out.below (hBs.trans (hA.mono hBs.size)) (Nat.le_refl _)) hT (by omega) (by omega)).mono ?_
            rintro e w8 ⟨P, rfl, hb8, hP, _⟩
            obtain ⟨Pa, Pl, Pc, rfl⟩ := hP.form
            have hB8 := hA.trans (hb8.mono hA.size)
            go_wp2_with fail
            refine (rless_nat (hRs.below hB8 (Nat.le_refl _)) hP (by omega) hnl).mono ?_
            rintro e w9 ⟨D, rfl, hb9, hD, _⟩
            have hB9 := hB8.trans (hb9.mono hB8.size)
            go_wp2
            go_roundw
            case rel => exact ⟨k - 1, N - n * lo, s.set (k - 1) lo, by omega, hrn, by go_num, hD.fit (by omega), hBs.trans (hB9.mono hBs.size), hOs.below hB9 hOs.lt, HSL2, hss, hZ, HZZ⟩
            case measure => simp [intOf]; omega
    · have hk1 : k = 0 := by omega
      subst hk1
      obtain ⟨e1, e2⟩ := Limb.rdiv_end hr EA.out HI.out
      have E1 := Lib.hid e1
      have E2 := Lib.hid e2
      have CT := Lib.hid (rtrim_own _ s wr (by have := hown.sees; rw [HSL.out] at this; exact this) hsm)
      have hsl : s.length ≤ p := by rw [HSL.out]; exact la
      clear e1 e2 hsm
      go_wp2_with (go_at_call 122; refine (CT.out).mono ?_; rintro e w' ⟨X, rfl, rfl, hX, hXo⟩)
      go_ret2
      rw [E1.out] at hX
      rw [E2.out] at hR
      exact ⟨X, _, rfl, hbel, hX.up hsl, hR⟩

end Go.Proofs.YtldclpdmcopgnaaGreatDoor

