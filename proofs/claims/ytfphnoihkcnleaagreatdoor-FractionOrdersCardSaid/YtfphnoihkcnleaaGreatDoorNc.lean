/- The contracts of the functions of package fraction on natural numbers: plus, minus. -/
import Derived.Test.YtfphnoihkcnleaaGreatDoorNb
namespace Go.Proofs.YtfphnoihkcnleaaGreatDoor
open Go.RowKit

theorem Tryz.infoU32 : (Tryz.prog.info? 111).map (fun i => (i.zero, i.size, i.bytes)) = some (some (.int .u32 0), 1, 4) := by kernel_rfl

theorem at_lim {v : Value} {l : List Nat} {i x : Nat} (w : World) (hv : Sees .u32 w v l) (hs : Limb.small 1000000000 l) (hx : l.getD i 0 = x) :
    Calls Tryz.prog 124 #[v, .int .i64 i] w fun e w' => e = .returned (.int .u64 x) ∧ w = w' := by
  have := at_any v l i (by omega) w hv hs
  rw [Int.toNat_natCast, hx] at this
  exact this

set_option maxRecDepth 100000 in
set_option maxHeartbeats 400000 in
theorem plus_own (u v : Value) (m n p q : Nat) (w : World) (hu : IsNat .u32 1000000000 w u m p) (hv : IsNat .u32 1000000000 w v n q) (hp : p ≤ 1000) (hq : q ≤ 1000) :
    Calls Tryz.prog 105 #[u, v] w fun e w' => ∃ r, e = .returned r ∧ Below w.heap.size w w' ∧ IsNat .u32 1000000000 w' r (m + n) (max p q + 1) ∧ r.ownBlock = some w.heap.size := by
  obtain ⟨a, sa, na, ea, la⟩ := hu
  obtain ⟨b, sb, nb, eb, lb⟩ := hv
  obtain ⟨ao, ca, rfl, a1, a2⟩ := sa.form
  obtain ⟨bo, cb, rfl, b1, b2⟩ := sb.form
  unfold maxLen at a2 b2
  obtain ⟨N, hN⟩ : ∃ N, N = max a.length b.length + 1 := ⟨_, rfl⟩
  have n1 : a.length < N := by omega
  have n2 : b.length < N := by omega
  have n3 : N ≤ max p q + 1 := by omega
  have HN := Lib.hid hN
  have HA := Lib.hid ea
  have HB := Lib.hid eb
  have SA := Lib.hid sa
  have SB := Lib.hid sb
  clear hN ea eb sa sb
  obtain ⟨i0, hi, hz0, hz1, hz2⟩ := info_parts Tryz.infoU32
  rcases Nat.lt_or_ge a.length b.length with hab | hab
  all_goals
    go_enter Tryz.func105, Tryz.ntmps105
    go_wp2_with (first
      | (at_make; refine wpList_make_nat _ rfl _ _ 70 rfl 111 i0 .u32 4 Tryz.underlying70 hi hz0 hz1 hz2 (by omega) _ _ _ _ N rfl rfl (by have := HN.out; omega) (by have := HN.out; omega) (by omega) ?_; intro w1 hown1 hb1)
      | (go_at_call 123; refine (base_any _).mono ?_; rintro e w' ⟨rfl, rfl⟩))
    go_loopw [7, 19] (fun u7 u19 wr => ∃ (i c : Nat) (s : List Nat), i ≤ N ∧ c ≤ 2 ∧ u19 = .int .i64 i ∧ u7 = .int .u64 c ∧ Below w.heap.size w wr ∧ Own .u32 111 wr w.heap.size s ∧ Hid (s.length = N) ∧
        Limb.small 1000000000 s ∧ Hid (Limb.val 1000000000 (s.take i) + 1000000000 ^ i * c = Limb.val 1000000000 (a.take i) + Limb.val 1000000000 (b.take i))) (fun _ u19 _ => N - (intOf u19).toNat)
    case atStart => exact ⟨0, 0, _, Nat.zero_le _, by omega, rfl, rfl, hb1, hown1, Lib.hid List.length_replicate, Limb.small_replicate _ (by omega), by unfold Hid; simp⟩
    case round =>
      obtain ⟨i, c, s, hi1, hc1, rfl, rfl, hbel, hown, HSL, hsm, HI⟩ := hrel
      have hLx := hown.1
      by_cases hlt : i < N
      · have hx0 := Limb.small_getD (by omega) na.1 i
        have hy0 := Limb.small_getD (by omega) nb.1 i
        obtain ⟨x, hx⟩ : ∃ x, a.getD i 0 = x := ⟨_, rfl⟩
        obtain ⟨y, hy⟩ : ∃ y, b.getD i 0 = y := ⟨_, rfl⟩
        rw [hx] at hx0
        rw [hy] at hy0
        have CA := Lib.hid (at_lim wr (SA.out.below hbel (Nat.le_refl _)) na.1 hx)
        have CB := Lib.hid (at_lim wr (SB.out.below hbel (Nat.le_refl _)) nb.1 hy)
        have HX := Lib.hid hx
        have HY := Lib.hid hy
        have hcell := hown.cell (i := i) (by rw [HSL.out]; exact hlt)
        have hfree := hown.free i
        generalize s.getD i 0 = z at hcell
        clear hx hy
        go_wp2_with (first
          | (go_at_call 124; (with_reducible refine (CA.out).mono ?_); rintro e w' ⟨rfl, rfl⟩)
          | (go_at_call 124; (with_reducible refine (CB.out).mono ?_); rintro e w' ⟨rfl, rfl⟩))
        go_roundw
        case rel =>
          refine ⟨i + 1, (c + (x + y)) / 1000000000, s.set i ((c + (x + y)) % 1000000000), by omega, by omega, by go_num, by go_num, hbel.setCell (Nat.le_refl _) _, ?_, ?_, ?_, ?_⟩
          · exact hown.put i _ _ (by omega)
          · unfold Hid; rw [List.length_set]; exact HSL.out
          · exact Limb.small_set hsm _ _ (Nat.mod_lt _ (by omega))
          · exact Limb.plus_round a b s i c x y HX.out HY.out (by rw [HSL.out]; exact hlt) HI.out
        case measure => simp [intOf]; omega
      · have hiN : i = N := by omega
        have hs2 : Sees .u32 wr (.slice (some ⟨w.heap.size, 0, none⟩) N N) s := by have := hown.sees; rw [HSL.out] at this; exact this
        have CT := Lib.hid (trimmed_own _ s wr hs2 hsm)
        have hv : Limb.val 1000000000 s = m + n := by
          have := HI.out
          rw [hiN] at this
          rw [← HA.out, ← HB.out]
          exact Limb.plus_end (by omega) na.1 nb.1 n1 n2 HSL.out this
        have HV := Lib.hid hv
        have hsl : s.length ≤ max p q + 1 := by rw [HSL.out]; exact n3
        clear hv hs2 hiN
        go_wp2_with (go_at_call 112; refine (CT.out).mono ?_; rintro e w' ⟨r, rfl, rfl, hr, hrb⟩)
        go_ret
        rw [HV.out] at hr
        exact ⟨r, rfl, hbel, hr.up hsl, hrb⟩

theorem plus_any (u v : Value) (m n p q : Nat) (w : World) (hu : IsNat .u32 1000000000 w u m p) (hv : IsNat .u32 1000000000 w v n q) (hp : p ≤ 1000) (hq : q ≤ 1000) :
    Calls Tryz.prog 105 #[u, v] w fun e w' => ∃ r, e = .returned r ∧ Below w.heap.size w w' ∧ IsNat .u32 1000000000 w' r (m + n) (max p q + 1) :=
  (plus_own u v m n p q w hu hv hp hq).mono fun _ _ ⟨r, h1, h2, h3, _⟩ => ⟨r, h1, h2, h3⟩

set_option maxRecDepth 100000 in
set_option maxHeartbeats 400000 in
theorem minus_own (u v : Value) (m n p q : Nat) (w : World) (hu : IsNat .u32 1000000000 w u m p) (hv : IsNat .u32 1000000000 w v n q) (hp : p ≤ 1000) (hnm : n ≤ m) :
    Calls Tryz.prog 122 #[u, v] w fun e w' => ∃ r, e = .returned r ∧ Below w.heap.size w w' ∧ IsNat .u32 1000000000 w' r (m - n) p ∧ r.ownBlock = some w.heap.size := by
  obtain ⟨a, sa, na, ea, la⟩ := hu
  obtain ⟨b, sb, nb, eb, lb⟩ := hv
  have hba : b.length ≤ a.length := by
    rcases Nat.lt_or_ge a.length b.length with h | h
    · have := Limb.order_len (by omega) na nb h
      omega
    · exact h
  have HA := Lib.hid ea
  have HB := Lib.hid eb
  have SB := Lib.hid sb
  have SA := Lib.hid sa
  obtain ⟨i0, hi, hz0, hz1, hz2⟩ := info_parts Tryz.infoU32
  obtain ⟨N, hN⟩ : ∃ N, N = a.length := ⟨_, rfl⟩
  have HN := Lib.hid hN
  have n1 : N ≤ a.length := by omega
  have n2 : a.length ≤ N := by omega
  clear hN ea eb sb
  obtain ⟨ao, ca, rfl, a1, a2⟩ := sa.form
  obtain ⟨bo, cb, rfl, b1, b2⟩ := SB.out.form
  unfold maxLen at a2 b2
  have hcells : 0 < a.length → ∃ b0 off, ao = some ⟨b0, off, none⟩ ∧ b0 < w.heap.size ∧ ∀ i, i < a.length → w.cell? ⟨b0, off + i, none⟩ = some (.int .u32 ((a.getD i 0 : Nat) : Int)) := by
    intro h0
    obtain ⟨b0, off, cap, he, h1, h2, h3, h4⟩ := sa.pos h0
    cases he
    exact ⟨b0, off, rfl, h3, h4⟩
  have HC := Lib.hid hcells
  clear hcells sa
  go_enter Tryz.func122, Tryz.ntmps122
  go_wp2_with (first
    | (at_make; refine wpList_make_nat _ rfl _ _ 70 rfl 111 i0 .u32 4 Tryz.underlying70 hi hz0 hz1 hz2 (by omega) _ _ _ _ N rfl rfl (by omega) (by omega) (by omega) ?_; intro w1 hown1 hb1)
    | (go_at_call 123; refine (base_any _).mono ?_; rintro e w' ⟨rfl, rfl⟩))
  go_loopw [7, 18] (fun u7 u18 wr => ∃ (i c : Nat) (s : List Nat), i ≤ N ∧ c ≤ 1 ∧ u18 = .int .i64 i ∧ u7 = .int .u64 c ∧ Below w.heap.size w wr ∧ Own .u32 111 wr w.heap.size s ∧ Hid (s.length = N) ∧
      Limb.small 1000000000 s ∧ Hid (Limb.val 1000000000 (s.take i) + Limb.val 1000000000 (b.take i) = Limb.val 1000000000 (a.take i) + 1000000000 ^ i * c)) (fun _ u18 _ => N - (intOf u18).toNat)
  case atStart => exact ⟨0, 0, _, Nat.zero_le _, by omega, rfl, rfl, hb1, hown1, Lib.hid List.length_replicate, Limb.small_replicate _ (by omega), by unfold Hid; simp⟩
  case round =>
    obtain ⟨i, c, s, hi1, hc1, rfl, rfl, hbel, hown, HSL, hsm, HI⟩ := hrel
    have hLx := hown.1
    by_cases hlt : i < N
    · have hx0 := Limb.small_getD (by omega) na.1 i
      have hy0 := Limb.small_getD (by omega) nb.1 i
      obtain ⟨b0, off, rfl, hb0, h4⟩ := HC.out (by omega)
      have hca : wr.cell? ⟨b0, off + i, none⟩ = some (.int .u32 ((a.getD i 0 : Nat) : Int)) := (hbel.cell (p := ⟨b0, off + i, none⟩) hb0).trans (h4 i (by omega))
      obtain ⟨x, hx⟩ : ∃ x, a.getD i 0 = x := ⟨_, rfl⟩
      obtain ⟨y, hy⟩ : ∃ y, b.getD i 0 = y := ⟨_, rfl⟩
      rw [hx] at hx0 hca
      rw [hy] at hy0
      have CB := Lib.hid (at_lim wr (SB.out.below hbel (Nat.le_refl _)) nb.1 hy)
      have HX := Lib.hid hx
      have HY := Lib.hid hy
      have hcell := hown.cell (i := i) (by rw [HSL.out]; exact hlt)
      have hfree := hown.free i
      generalize s.getD i 0 = z at hcell
      have hlta : i < a.length := by omega
      clear hx hy h4 HC
      by_cases hge : y + c ≤ x
      · have hge2 : (y : Int) + (c : Int) ≤ (x : Int) := by omega
        go_wp2_with (go_at_call 124; (with_reducible refine (CB.out).mono ?_); rintro e w' ⟨rfl, rfl⟩)
        go_roundw
        case rel =>
          refine ⟨i + 1, 0, s.set i (x - (y + c)), by omega, by omega, by go_num, by go_num, hbel.setCell (Nat.le_refl _) _, hown.put i _ _ (by omega), ?_, Limb.small_set hsm _ _ (by omega), ?_⟩
          · unfold Hid; rw [List.length_set]; exact HSL.out
          · exact Limb.minus_round a b s i c x y HX.out HY.out (by rw [HSL.out]; exact hlt) HI.out hge
        case measure => simp [intOf]; omega
      · have hge2 : (x : Int) < (y : Int) + (c : Int) := by omega
        go_wp2_with (go_at_call 124; (with_reducible refine (CB.out).mono ?_); rintro e w' ⟨rfl, rfl⟩)
        go_roundw
        case rel =>
          refine ⟨i + 1, 1, s.set i (x + 1000000000 - (y + c)), by omega, by omega, by go_num, by go_num, hbel.setCell (Nat.le_refl _) _, hown.put i _ _ (by omega), ?_, Limb.small_set hsm _ _ (by omega), ?_⟩
          · unfold Hid; rw [List.length_set]; exact HSL.out
          · exact Limb.minus_round' a b s i c x y HX.out HY.out (by rw [HSL.out]; exact hlt) HI.out (by omega)
        case measure => simp [intOf]; omega
    · have hiN : i = a.length := by have := HN.out; omega
      have hs2 : Sees .u32 wr (.slice (some ⟨w.heap.size, 0, none⟩) N N) s := by have := hown.sees; rw [HSL.out] at this; exact this
      have CT := Lib.hid (trimmed_own _ s wr hs2 hsm)
      have hv : Limb.val 1000000000 s = m - n := by
        have := HI.out
        rw [hiN] at this
        rw [← HA.out, ← HB.out]
        exact Limb.minus_end hsm (by rw [HSL.out, HN.out]) hba (by rw [HA.out, HB.out]; exact hnm) this
      have HV := Lib.hid hv
      have hsl : s.length ≤ p := by rw [HSL.out, HN.out]; exact la
      clear hv hs2 hiN
      go_wp2_with (go_at_call 112; refine (CT.out).mono ?_; rintro e w' ⟨r, rfl, rfl, hr, hrb⟩)
      go_ret
      rw [HV.out] at hr
      exact ⟨r, rfl, hbel, hr.up hsl, hrb⟩

theorem minus_any (u v : Value) (m n p q : Nat) (w : World) (hu : IsNat .u32 1000000000 w u m p) (hv : IsNat .u32 1000000000 w v n q) (hp : p ≤ 1000) (hnm : n ≤ m) :
    Calls Tryz.prog 122 #[u, v] w fun e w' => ∃ r, e = .returned r ∧ Below w.heap.size w w' ∧ IsNat .u32 1000000000 w' r (m - n) p :=
  (minus_own u v m n p q w hu hv hp hnm).mono fun _ _ ⟨r, h1, h2, h3, _⟩ => ⟨r, h1, h2, h3⟩

end Go.Proofs.YtfphnoihkcnleaaGreatDoor
