/- The contracts of the functions of the reference on natural numbers: plus, less. -/
import Derived.Test.YtfphnoihkcnleaaGreatDoorRa
import Derived.Test.YtfphnoihkcnleaaGreatDoorRnum
import Derived.Test.YtfphnoihkcnleaaGreatDoorNh
namespace Go.Proofs.YtfphnoihkcnleaaGreatDoor
open Go.RowKit

theorem Tryz.infoI64 : (Tryz.prog.info? 3).map (fun i => (i.zero, i.size, i.bytes)) = some (some (.int .i64 0), 1, 8) := by kernel_rfl

set_option maxRecDepth 100000 in
set_option maxHeartbeats 2000000 in
theorem rplus_any (u v : Value) (a b : List Nat) (w : World) (hu : Sees .i64 w u a) (hv : Sees .i64 w v b) (ha : Limb.small 1000000 a) (hb : Limb.small 1000000 b) (hla : a.length ≤ 1000) (hlb : b.length ≤ 1000) :
    Calls Tryz.prog 80 #[u, v] w fun e w' => ∃ r, e = .returned r ∧ Below w.heap.size w w' ∧ IsNat .i64 1000000 w' r (Limb.val 1000000 a + Limb.val 1000000 b) (max a.length b.length + 1) := by
  obtain ⟨i0, hi, hz0, hz1, hz2⟩ := info_parts Tryz.infoI64
  obtain ⟨M, hM⟩ : ∃ M, M = max a.length b.length := ⟨_, rfl⟩
  rw [← hM]
  have m1 : a.length ≤ M := by omega
  have m2 : b.length ≤ M := by omega
  have m3 : M ≤ 1000 := by omega
  have HM := Lib.hid hM
  clear hM
  obtain ⟨ao, ca, rfl, a1, a2, a3⟩ := hu.opened
  obtain ⟨bo, cb, rfl, b1, b2, b3⟩ := hv.opened
  clear hu hv
  go_enter Tryz.func80, Tryz.ntmps80
  go_wp2
  go_loopw [5, 6, 7] (fun u5 u6 u7 wr => ∃ (i c : Nat) (s : List Nat), u7 = .int .i64 i ∧ u6 = .int .i64 c ∧ i ≤ M + 1 ∧ c ≤ 1 ∧ Hid (i = M + 1 → c = 0) ∧ Hid (s.length = i) ∧ Row w.heap.size .i64 3 wr u5 s ∧ Limb.small 1000000 s ∧ Below w.heap.size w wr ∧
      Hid (Limb.val 1000000 s + 1000000 ^ i * c = Limb.val 1000000 (a.take i) + Limb.val 1000000 (b.take i))) (fun _ _ u7 _ => M + 2 - (intOf u7).toNat)
  case atStart => exact ⟨0, 0, [], rfl, rfl, by omega, by omega, Lib.hid fun _ => rfl, Lib.hid rfl, Row.nil _ _ _ _, fun x hx => by simp at hx, Below.refl _ _, by unfold Hid; simp⟩
  case round =>
    obtain ⟨i, c, s, rfl, rfl, hi1, hc1, HE, HA, hrow, hsm, hbel, HV⟩ := hrel
    have hsl : s.length ≤ 1001 := by rw [HA.out]; omega
    obtain ⟨x, hx⟩ : ∃ x, a.getD i 0 = x := ⟨_, rfl⟩
    obtain ⟨y, hy⟩ : ∃ y, b.getD i 0 = y := ⟨_, rfl⟩
    have hx9 : x < 1000000 := by rw [← hx]; exact Limb.small_getD (by omega) ha i
    have hy9 : y < 1000000 := by rw [← hy]; exact Limb.small_getD (by omega) hb i
    have HS := Lib.hid (Limb.rplus_step HA.out hx hy HV.out)
    have HX := Lib.hid hx
    have HY := Lib.hid hy
    by_cases g1 : i < a.length
    · obtain ⟨ab, aoff, rfl, a4, a5⟩ := a3.at hbel g1
      rw [hx] at a5
      by_cases g2 : i < b.length
      · obtain ⟨bb, boff, rfl, b4, b5⟩ := b3.at hbel g2
        rw [hy] at b5
        clear hx hy a3 b3
        go_wp2_with (at_builtin; refine wpList_append_nat rfl _ _ 84 rfl 3 i0 .i64 8 Tryz.underlying84 hi hz0 hz1 hz2 (by omega) _ _ s [(c + x + y) % 1000000] rfl rfl w.heap.size (hrow.below ((Below.refl _ _).alloc (Nat.le_refl _) _) (Nat.le_refl _)) ((Row.one 0 _ _ _ (Nat.zero_le _) ((c + x + y) % 1000000) _ (by omega)).sees) (by simp; omega) (by have := hbel.size; simp; omega) ?_; intro v5 w5 hr5 hb5)
        go_roundw
        case rel =>
          refine ⟨i + 1, (c + x + y) / 1000000, s ++ [(c + x + y) % 1000000], by go_num, by refine congrArg _ ?_; omega, by omega, by omega, ?_, ?_, hr5, Limb.small_snoc hsm (by omega), (hbel.alloc hbel.size _).trans hb5, HS⟩
          · exact Lib.hid (fun h => by omega)
          · unfold Hid; rw [List.length_append, HA.out]; rfl
        case measure => simp [intOf]; omega
      · have hy0 : y ≤ 0 := by rw [← hy, Limb.getD_ge _ _ (by omega)]; exact Nat.le_refl _
        clear hx hy a3 b3
        go_wp2_with (at_builtin; refine wpList_append_nat rfl _ _ 84 rfl 3 i0 .i64 8 Tryz.underlying84 hi hz0 hz1 hz2 (by omega) _ _ s [(c + x + y) % 1000000] rfl rfl w.heap.size (hrow.below ((Below.refl _ _).alloc (Nat.le_refl _) _) (Nat.le_refl _)) ((Row.one 0 _ _ _ (Nat.zero_le _) ((c + x + y) % 1000000) _ (by omega)).sees) (by simp; omega) (by have := hbel.size; simp; omega) ?_; intro v5 w5 hr5 hb5)
        go_roundw
        case rel =>
          refine ⟨i + 1, (c + x + y) / 1000000, s ++ [(c + x + y) % 1000000], by go_num, by refine congrArg _ ?_; omega, by omega, by omega, ?_, ?_, hr5, Limb.small_snoc hsm (by omega), (hbel.alloc hbel.size _).trans hb5, HS⟩
          · exact Lib.hid (fun h => by omega)
          · unfold Hid; rw [List.length_append, HA.out]; rfl
        case measure => simp [intOf]; omega
    · have hx0 : x ≤ 0 := by rw [← hx, Limb.getD_ge _ _ (by omega)]; exact Nat.le_refl _
      by_cases g2 : i < b.length
      · obtain ⟨bb, boff, rfl, b4, b5⟩ := b3.at hbel g2
        rw [hy] at b5
        clear hx hy a3 b3
        go_wp2_with (at_builtin; refine wpList_append_nat rfl _ _ 84 rfl 3 i0 .i64 8 Tryz.underlying84 hi hz0 hz1 hz2 (by omega) _ _ s [(c + x + y) % 1000000] rfl rfl w.heap.size (hrow.below ((Below.refl _ _).alloc (Nat.le_refl _) _) (Nat.le_refl _)) ((Row.one 0 _ _ _ (Nat.zero_le _) ((c + x + y) % 1000000) _ (by omega)).sees) (by simp; omega) (by have := hbel.size; simp; omega) ?_; intro v5 w5 hr5 hb5)
        go_roundw
        case rel =>
          refine ⟨i + 1, (c + x + y) / 1000000, s ++ [(c + x + y) % 1000000], by go_num, by refine congrArg _ ?_; omega, by omega, by omega, ?_, ?_, hr5, Limb.small_snoc hsm (by omega), (hbel.alloc hbel.size _).trans hb5, HS⟩
          · exact Lib.hid (fun h => by omega)
          · unfold Hid; rw [List.length_append, HA.out]; rfl
        case measure => simp [intOf]; omega
      · have hy0 : y ≤ 0 := by rw [← hy, Limb.getD_ge _ _ (by omega)]; exact Nat.le_refl _
        clear hx hy a3 b3
        by_cases hc0 : 0 < c
        · have hiM : i ≤ M := by
            rcases Nat.lt_or_ge i (M + 1) with h | h
            · omega
            · exact absurd (HE.out (by omega)) (by omega)
          go_wp2_with (at_builtin; refine wpList_append_nat rfl _ _ 84 rfl 3 i0 .i64 8 Tryz.underlying84 hi hz0 hz1 hz2 (by omega) _ _ s [(c + x + y) % 1000000] rfl rfl w.heap.size (hrow.below ((Below.refl _ _).alloc (Nat.le_refl _) _) (Nat.le_refl _)) ((Row.one 0 _ _ _ (Nat.zero_le _) ((c + x + y) % 1000000) _ (by omega)).sees) (by simp; omega) (by have := hbel.size; simp; omega) ?_; intro v5 w5 hr5 hb5)
          go_roundw
          case rel =>
            refine ⟨i + 1, (c + x + y) / 1000000, s ++ [(c + x + y) % 1000000], by go_num, by refine congrArg _ ?_; omega, by omega, by omega, ?_, ?_, hr5, Limb.small_snoc hsm (by omega), (hbel.alloc hbel.size _).trans hb5, HS⟩
            · exact Lib.hid (fun h => by omega)
            · unfold Hid; rw [List.length_append, HA.out]; rfl
          case measure => simp [intOf]; omega
        · have HV2 := Lib.hid (Limb.rplus_end (by omega) (by omega) (by omega) HV.out)
          have CT := Lib.hid (rtrim_own u5 s wr hrow.sees hsm)
          clear hsm ha hb
          go_wp2_with (go_at_call 95; refine (CT.out).mono ?_; rintro e w' ⟨r, rfl, rfl, hr, hro⟩)
          go_ret
          rw [HV2.out] at hr
          exact ⟨r, rfl, hbel, hr.up (by rw [HA.out]; omega)⟩

set_option maxRecDepth 100000 in
set_option maxHeartbeats 2000000 in
theorem rless_any (u v : Value) (a b : List Nat) (w : World) (hu : Sees .i64 w u a) (hv : Sees .i64 w v b) (ha : Limb.norm 1000000 a) (hb : Limb.norm 1000000 b) (hla : a.length ≤ 1000) (hle : Limb.val 1000000 b ≤ Limb.val 1000000 a) :
    Calls Tryz.prog 101 #[u, v] w fun e w' => ∃ r, e = .returned r ∧ Below w.heap.size w w' ∧ IsNat .i64 1000000 w' r (Limb.val 1000000 a - Limb.val 1000000 b) a.length := by
  obtain ⟨i0, hi, hz0, hz1, hz2⟩ := info_parts Tryz.infoI64
  have hlb : b.length ≤ a.length := Limb.norm_len (by omega) ha hb hle
  obtain ⟨ao, ca, rfl, a1, a2, a3⟩ := hu.opened
  obtain ⟨bo, cb, rfl, b1, b2, b3⟩ := hv.opened
  have HLE := Lib.hid hle
  have has := ha.1
  have hbs := hb.1
  clear hu hv hle ha hb
  go_enter Tryz.func101, Tryz.ntmps101
  go_wp2
  go_loopw [5, 6, 7] (fun u5 u6 u7 wr => ∃ (i c : Nat) (s : List Nat), u7 = .int .i64 i ∧ u6 = .int .i64 c ∧ i ≤ a.length ∧ c ≤ 1 ∧ Hid (s.length = i) ∧ Row w.heap.size .i64 3 wr u5 s ∧ Limb.small 1000000 s ∧ Below w.heap.size w wr ∧
      Hid (Limb.val 1000000 s + Limb.val 1000000 (b.take i) = Limb.val 1000000 (a.take i) + 1000000 ^ i * c)) (fun _ _ u7 _ => a.length - (intOf u7).toNat)
  case atStart => exact ⟨0, 0, [], rfl, rfl, by omega, by omega, Lib.hid rfl, Row.nil _ _ _ _, fun x hx => by simp at hx, Below.refl _ _, by unfold Hid; simp⟩
  case round =>
    obtain ⟨i, c, s, rfl, rfl, hi1, hc1, HA, hrow, hsm, hbel, HV⟩ := hrel
    have hsl : s.length ≤ 1001 := by rw [HA.out]; omega
    by_cases g1 : i < a.length
    · obtain ⟨x, hx⟩ : ∃ x, a.getD i 0 = x := ⟨_, rfl⟩
      obtain ⟨y, hy⟩ : ∃ y, b.getD i 0 = y := ⟨_, rfl⟩
      have hx9 : x < 1000000 := by rw [← hx]; exact Limb.small_getD (by omega) has i
      have hy9 : y < 1000000 := by rw [← hy]; exact Limb.small_getD (by omega) hbs i
      have HX := Lib.hid hx
      have HY := Lib.hid hy
      obtain ⟨ab, aoff, rfl, a4, a5⟩ := a3.at hbel g1
      rw [hx] at a5
      by_cases g2 : i < b.length
      · obtain ⟨bb, boff, rfl, b4, b5⟩ := b3.at hbel g2
        rw [hy] at b5
        by_cases hlt : x < y + c
        · clear hx hy a3 b3
          go_wp2_with (at_builtin; refine wpList_append_nat rfl _ _ 84 rfl 3 i0 .i64 8 Tryz.underlying84 hi hz0 hz1 hz2 (by omega) _ _ s [x + 1000000 - (y + c)] rfl rfl w.heap.size (hrow.below ((Below.refl _ _).alloc (Nat.le_refl _) _) (Nat.le_refl _)) ((Row.one 0 _ _ _ (Nat.zero_le _) (x + 1000000 - (y + c)) _ (by omega)).sees) (by simp; omega) (by have := hbel.size; simp; omega) ?_; intro v5 w5 hr5 hb5)
          go_roundw
          case rel =>
            refine ⟨i + 1, 1, s ++ [x + 1000000 - (y + c)], by go_num, rfl, by omega, by omega, ?_, hr5, Limb.small_snoc hsm (by omega), (hbel.alloc hbel.size _).trans hb5, ?_⟩
            · unfold Hid; rw [List.length_append, HA.out]; rfl
            · exact Lib.hid (Limb.rminus_step HA.out HX.out HY.out HV.out (by omega))
          case measure => simp [intOf]; omega
        · clear hx hy a3 b3
          go_wp2_with (at_builtin; refine wpList_append_nat rfl _ _ 84 rfl 3 i0 .i64 8 Tryz.underlying84 hi hz0 hz1 hz2 (by omega) _ _ s [x - (y + c)] rfl rfl w.heap.size (hrow.below ((Below.refl _ _).alloc (Nat.le_refl _) _) (Nat.le_refl _)) ((Row.one 0 _ _ _ (Nat.zero_le _) (x - (y + c)) _ (by omega)).sees) (by simp; omega) (by have := hbel.size; simp; omega) ?_; intro v5 w5 hr5 hb5)
          go_roundw
          case rel =>
            refine ⟨i + 1, 0, s ++ [x - (y + c)], by go_num, rfl, by omega, by omega, ?_, hr5, Limb.small_snoc hsm (by omega), (hbel.alloc hbel.size _).trans hb5, ?_⟩
            · unfold Hid; rw [List.length_append, HA.out]; rfl
            · exact Lib.hid (Limb.rminus_step HA.out HX.out HY.out HV.out (by omega))
          case measure => simp [intOf]; omega
      · have hy0 : y ≤ 0 := by rw [← hy, Limb.getD_ge _ _ (by omega)]; exact Nat.le_refl _
        by_cases hlt : x < y + c
        · clear hx hy a3 b3
          go_wp2_with (at_builtin; refine wpList_append_nat rfl _ _ 84 rfl 3 i0 .i64 8 Tryz.underlying84 hi hz0 hz1 hz2 (by omega) _ _ s [x + 1000000 - (y + c)] rfl rfl w.heap.size (hrow.below ((Below.refl _ _).alloc (Nat.le_refl _) _) (Nat.le_refl _)) ((Row.one 0 _ _ _ (Nat.zero_le _) (x + 1000000 - (y + c)) _ (by omega)).sees) (by simp; omega) (by have := hbel.size; simp; omega) ?_; intro v5 w5 hr5 hb5)
          go_roundw
          case rel =>
            refine ⟨i + 1, 1, s ++ [x + 1000000 - (y + c)], by go_num, rfl, by omega, by omega, ?_, hr5, Limb.small_snoc hsm (by omega), (hbel.alloc hbel.size _).trans hb5, ?_⟩
            · unfold Hid; rw [List.length_append, HA.out]; rfl
            · exact Lib.hid (Limb.rminus_step HA.out HX.out HY.out HV.out (by omega))
          case measure => simp [intOf]; omega
        · clear hx hy a3 b3
          go_wp2_with (at_builtin; refine wpList_append_nat rfl _ _ 84 rfl 3 i0 .i64 8 Tryz.underlying84 hi hz0 hz1 hz2 (by omega) _ _ s [x - (y + c)] rfl rfl w.heap.size (hrow.below ((Below.refl _ _).alloc (Nat.le_refl _) _) (Nat.le_refl _)) ((Row.one 0 _ _ _ (Nat.zero_le _) (x - (y + c)) _ (by omega)).sees) (by simp; omega) (by have := hbel.size; simp; omega) ?_; intro v5 w5 hr5 hb5)
          go_roundw
          case rel =>
            refine ⟨i + 1, 0, s ++ [x - (y + c)], by go_num, rfl, by omega, by omega, ?_, hr5, Limb.small_snoc hsm (by omega), (hbel.alloc hbel.size _).trans hb5, ?_⟩
            · unfold Hid; rw [List.length_append, HA.out]; rfl
            · exact Lib.hid (Limb.rminus_step HA.out HX.out HY.out HV.out (by omega))
          case measure => simp [intOf]; omega
    · have HV2 := Lib.hid (Limb.rminus_end hsm HA.out (by omega) hlb HLE.out HV.out)
      have CT := Lib.hid (rtrim_own u5 s wr hrow.sees hsm)
      clear hsm has hbs
      go_wp2_with (go_at_call 95; refine (CT.out).mono ?_; rintro e w' ⟨r, rfl, rfl, hr, hro⟩)
      go_ret
      rw [HV2.out] at hr
      exact ⟨r, rfl, hbel, hr.up (by rw [HA.out]; omega)⟩

end Go.Proofs.YtfphnoihkcnleaaGreatDoor
