/- The contract of the quotient of natural numbers in the reference. -/
import Derived.Test.YtfphnoihkcnleaaGreatDoorRc
import Derived.Test.YtfphnoihkcnleaaGreatDoorPd
namespace Go.Proofs.YtfphnoihkcnleaaGreatDoor
open Go.RowKit

theorem rorder_nat {u v : Value} {m n p q : Nat} {w : World} (hu : IsNat .i64 1000000 w u m p) (hv : IsNat .i64 1000000 w v n q) {c : Int} (hc : Limb.cmpN m n = c) :
    Calls Tryz.prog 58 #[u, v] w fun e w' => e = .returned (.int .i64 c) ∧ ∃ n, w' = w.drewN n := by
  obtain ⟨a, sa, na, ea, la⟩ := hu
  obtain ⟨b, sb, nb, eb, lb⟩ := hv
  have h := rorder_any u v a b w sa sb na nb
  rw [ea, eb, hc] at h
  exact h
theorem rtimes_one {u : Value} {n q : Nat} {w : World} (hu : IsNat .i64 1000000 w u n q) (hq : q ≤ 900) {v : Value} {x : Nat} (hv : Sees .i64 w v [x]) (hx : x < 1000000) :
    Calls Tryz.prog 100 #[u, v] w fun e w' => ∃ r, e = .returned r ∧ Below w.heap.size w w' ∧ IsNat .i64 1000000 w' r (n * x) (q + 1) := by
  obtain ⟨a, sa, na, ea, la⟩ := hu
  refine (rtimes_own u v a [x] w sa hv na.1 (fun z hz => by rw [List.mem_singleton.1 hz]; exact hx) (by omega) (by simp)).mono ?_
  rintro e w' ⟨r, h1, h2, h3, _⟩
  refine ⟨r, h1, h2, ?_⟩
  rw [ea, show Limb.val 1000000 [x] = x by simp [Limb.val]] at h3
  exact h3.up (by simp; omega)
theorem rtimes_nat {u v : Value} {m n p q : Nat} {w : World} (hu : IsNat .i64 1000000 w u m p) (hv : IsNat .i64 1000000 w v n q) (hp : p ≤ 900) (hq : q ≤ 900) :
    Calls Tryz.prog 100 #[u, v] w fun e w' => ∃ r, e = .returned r ∧ Below w.heap.size w w' ∧ IsNat .i64 1000000 w' r (m * n) (p + q) := by
  obtain ⟨a, sa, na, ea, la⟩ := hu
  obtain ⟨b, sb, nb, eb, lb⟩ := hv
  have h := rtimes_own u v a b w sa sb na.1 nb.1 (by omega) (by omega)
  rw [ea, eb] at h
  exact h.mono fun e w' ⟨r, h1, h2, h3, _⟩ => ⟨r, h1, h2, h3.up (by omega)⟩
theorem rless_nat {u v : Value} {m n p q : Nat} {w : World} (hu : IsNat .i64 1000000 w u m p) (hv : IsNat .i64 1000000 w v n q) (hp : p ≤ 900) (hle : n ≤ m) :
    Calls Tryz.prog 101 #[u, v] w fun e w' => ∃ r, e = .returned r ∧ Below w.heap.size w w' ∧ IsNat .i64 1000000 w' r (m - n) p := by
  obtain ⟨a, sa, na, ea, la⟩ := hu
  obtain ⟨b, sb, nb, eb, lb⟩ := hv
  have h := rless_any u v a b w sa sb na nb (by omega) (by rw [ea, eb]; exact hle)
  rw [ea, eb] at h
  exact h.mono fun e w' ⟨r, h1, h2, h3⟩ => ⟨r, h1, h2, h3.up (by omega)⟩
theorem rplus_nat {u v : Value} {m n p q : Nat} {w : World} (hu : IsNat .i64 1000000 w u m p) (hv : IsNat .i64 1000000 w v n q) (hp : p ≤ 900) (hq : q ≤ 900) :
    Calls Tryz.prog 80 #[u, v] w fun e w' => ∃ r, e = .returned r ∧ Below w.heap.size w w' ∧ IsNat .i64 1000000 w' r (m + n) (p + q + 1) := by
  obtain ⟨a, sa, na, ea, la⟩ := hu
  obtain ⟨b, sb, nb, eb, lb⟩ := hv
  have h := rplus_any u v a b w sa sb na.1 nb.1 (by omega) (by omega)
  rw [ea, eb] at h
  exact h.mono fun e w' ⟨r, h1, h2, h3⟩ => ⟨r, h1, h2, h3.up (by omega)⟩
theorem rtrim_one {v : Value} {x : Nat} {w : World} (hv : Sees .i64 w v [x]) (hx : x < 1000000) :
    Calls Tryz.prog 95 #[v] w fun e w' => ∃ u, e = .returned u ∧ w = w' ∧ IsNat .i64 1000000 w u x 1 := by
  refine (rtrim_own v [x] w hv (fun z hz => by rw [List.mem_singleton.1 hz]; exact hx)).mono ?_
  rintro e w' ⟨u, h1, h2, h3, _⟩
  rw [show Limb.val 1000000 [x] = x by simp [Limb.val]] at h3
  exact ⟨u, h1, h2, h3⟩
theorem IsNat.fit {w : World} {v : Value} {n p : Nat} (h : IsNat .i64 1000000 w v n p) {k : Nat} (hk : n < 1000000 ^ k) : IsNat .i64 1000000 w v n k := by
  obtain ⟨l, h1, h2, h3, h4⟩ := h
  exact ⟨l, h1, h2, h3, Limb.len_le (by omega) h2 (by rw [h3]; exact hk)⟩
theorem IsNat.lt {w : World} {v : Value} {n p : Nat} (h : IsNat .i64 1000000 w v n p) : n < 1000000 ^ p := by
  obtain ⟨l, h1, h2, h3, h4⟩ := h
  rw [← h3]
  exact Nat.lt_of_lt_of_le (Limb.val_lt h2.1) (Nat.pow_le_pow_right (by omega) h4)

set_option maxRecDepth 100000 in
set_option maxHeartbeats 4000000 in
theorem rquot_any {u v : Value} {m n p q : Nat} {w : World} (hu : IsNat .i64 1000000 w u m p) (hv : IsNat .i64 1000000 w v n q) (hn : 0 < n) (hp : p ≤ 900) (hq : q ≤ 800) :
    Calls Tryz.prog 79 #[u, v] w fun e w' => ∃ x y, e = .returned (.tuple #[x, y]) ∧ Below w.heap.size w w' ∧ IsNat .i64 1000000 w' x (m / n) p ∧ IsNat .i64 1000000 w' y (m % n) q := by
  obtain ⟨a, sa, na, ea, la⟩ := hu
  have hnq := hv.lt
  have HV := Lib.hid hv
  obtain ⟨va, vl, vc, rfl⟩ := hv.form
  clear hv
  obtain ⟨i0, hi, hz0, hz1, hz2⟩ := info_parts Tryz.infoI64
  obtain ⟨ao, ca, rfl, a1, a2, CA⟩ := sa.opened
  clear sa
  have nas := na.1
  have EA := Lib.hid ea
  clear ea na
  go_enter Tryz.func79, Tryz.ntmps79
  go_wp2_with ((at_make; refine wpList_make_nat _ rfl _ _ 84 rfl 3 i0 .i64 8 Tryz.underlying84 hi hz0 hz1 hz2 (by omega) _ _ _ _ a.length rfl rfl (by omega) (by omega) (by omega) ?_; intro w1 hown1 hb1))
  go_loopw [7, 8] (fun u7 u8 wr => ∃ (k r : Nat) (s : List Nat), k ≤ a.length ∧ r < n ∧ u8 = .int .i64 ((k : Int) - 1) ∧ IsNat .i64 1000000 wr u7 r q ∧ Below w.heap.size w wr ∧ Own .i64 3 wr w.heap.size s ∧ Hid (s.length = a.length) ∧
      Limb.small 1000000 s ∧ Hid (Limb.val 1000000 (a.drop k) = Limb.val 1000000 (s.drop k) * n + r) ∧ Hid (∀ j, j < k → s.getD j 0 = 0)) (fun _ u8 _ => (intOf u8 + 1).toNat)
  case atStart =>
    refine ⟨a.length, 0, _, Nat.le_refl _, hn, rfl, ⟨[], .inl ⟨rfl, rfl⟩, Limb.norm_nil _, rfl, Nat.zero_le _⟩, hb1, hown1, Lib.hid List.length_replicate, Limb.small_replicate _ (by omega), ?_, ?_⟩
    · unfold Hid; rw [List.drop_eq_nil_of_le (Nat.le_refl _), List.drop_eq_nil_of_le (by simp)]; simp [Limb.val]
    · intro j _; simp [List.getElem?_replicate]; split <;> rfl
  case round =>
    obtain ⟨k, r, s, hk, hr, rfl, hR, hbel, hown, HSL, hsm, HI, HZ⟩ := hrel
    have hLx := hown.1
    by_cases hk0 : 0 < k
    · obtain ⟨b0, off, rfl, hb0, hca⟩ := CA.at hbel (show k - 1 < a.length by omega)
      have hx0 := Limb.small_getD (by omega) nas (k - 1)
      obtain ⟨x, hx⟩ : ∃ x, a.getD (k - 1) 0 = x := ⟨_, rfl⟩
      rw [hx] at hx0 hca
      have HX := Lib.hid hx
      obtain ⟨ra, rl, rc, rfl⟩ := hR.form
      obtain ⟨rs, hr1, hr2, hr3, hr4⟩ := hR
      have i1 : (0 : Int) ≤ (k : Int) - 1 := by omega
      have i2 : ((k : Int) - 1) < (a.length : Int) := by omega
      clear hx
      go_wp2_with (at_builtin; refine wpList_append_nat rfl _ _ 84 rfl 3 i0 .i64 8 Tryz.underlying84 hi hz0 hz1 hz2 (by omega) _ _ [x] rs rfl rfl wr.heap.size (Row.one _ _ _ _ (Nat.le_refl _) x _ rfl) (hr1.below ((Below.refl _ _).alloc (Nat.le_refl _) _) (Nat.le_refl _)) (by simp; omega) (by simp) ?_; intro v5 w5 hr5 hb5)
      have hRs : Limb.small 1000000 ([x] ++ rs) := by
        intro z hz
        rcases List.mem_append.1 hz with h | h
        · rw [List.mem_singleton.1 h]; exact hx0
        · exact hr2.1 z h
      refine (rtrim_own v5 ([x] ++ rs) w5 hr5.sees hRs).mono ?_
      rintro e w' ⟨R, rfl, rfl, hRn, hRb⟩
      have hN0 : Limb.val 1000000 ([x] ++ rs) = x + 1000000 * r := by rw [← hr3]; rfl
      rw [hN0] at hRn
      have hRn := hRn.up (show ([x] ++ rs).length ≤ q + 1 by simp; omega)
      have hq9 := Limb.rdiv_bound (B := 1000000) hx0 hr
      have hN1 : ∀ N, N = x + 1000000 * r → N / n < n → True := fun _ _ _ => trivial
      obtain ⟨N, hN⟩ : ∃ N, N = x + 1000000 * r := ⟨_, rfl⟩
      rw [← hN] at hRn hq9
      have HN := Lib.hid hN
      have hlt5 := World.ownsRow.lt hr5
      have hwr := hown.lt
      clear hN hN0 hN1 hr1 hr2 hr3 hRs hr5 hca
      obtain ⟨Ra, Rl, Rc, rfl⟩ := hRn.form
      have HRo := Lib.hid (show (Value.slice Ra Rl Rc).ownBlock ≠ some w.heap.size by intro h; rw [hRb] at h; have := (hlt5 _ h).1; omega)
      clear hlt5 hRb hwr
      have hB5 : Below wr.heap.size wr w5 := ((Below.refl _ _).alloc (Nat.le_refl _) _).trans hb5
      have hBel5 := hbel.trans (hB5.mono hbel.size)
      have hown5 := hown.below hB5 hown.lt
      clear hb5 hB5
      go_wp2_with fail
      by_cases hlt : N < n
      · refine (rorder_nat hRn (HV.out.below hBel5 (Nat.le_refl _)) (Limb.cmp_lt hlt)).mono ?_
        rintro e w6 ⟨rfl, n6, rfl⟩
        go_wp2
        go_roundw
        case rel =>
          refine ⟨k - 1, N, s, by omega, hlt, by go_num, ?_, hBel5.trans (below_drewN _ _), hown5.drewN _, HSL, hsm, ?_, ?_⟩
          · exact (hRn.fit (by omega)).drewN _
          · unfold Hid; rw [HN.out]; exact Limb.rdiv_skip hk0 HX.out (HZ.out _ (by omega)) HI.out
          · exact Lib.hid fun j hj => HZ.out j (by omega)
        case measure => simp [intOf]; omega
      · obtain ⟨c, hc⟩ : ∃ c, Limb.cmpN N n = c := ⟨_, rfl⟩
        have hc0 : ¬ c < 0 := by rw [← hc, Limb.cmp_lt_zero]; exact hlt
        refine (rorder_nat hRn (HV.out.below hBel5 (Nat.le_refl _)) hc).mono ?_
        rintro e w6 ⟨rfl, n6, rfl⟩
        clear hc
        go_wp2
        have hRn6 := Lib.hid (hRn.drewN n6)
        have hBel6 := hBel5.trans (below_drewN w5 n6)
        have hown6 := hown5.drewN n6
        clear hRn hBel5 hown5 hown hbel
        generalize w5.drewN n6 = W6 at *
        obtain ⟨q0, hq0⟩ : ∃ q0, N / n = q0 := ⟨_, rfl⟩
        rw [hq0] at hq9
        have HQ0 := Lib.hid hq0
        clear hq0
        go_loopw [9, 10] (fun u9 u10 wq => ∃ lo hi : Nat, lo ≤ q0 ∧ q0 ≤ hi ∧ hi ≤ 999999 ∧ u9 = .int .i64 lo ∧ u10 = .int .i64 hi ∧ Below W6.heap.size W6 wq) (fun u9 u10 _ => (intOf u10 - intOf u9).toNat)
        case atStart => exact ⟨0, 999999, Nat.zero_le _, by omega, Nat.le_refl _, rfl, rfl, Below.refl _ _⟩
        case round =>
          obtain ⟨lo, hi', hlo, hhi, hhi9, rfl, rfl, hq6⟩ := hrel
          have hBq := hBel6.trans (hq6.mono hBel6.size)
          by_cases hlh : lo < hi'
          · obtain ⟨mid, hmid⟩ : ∃ mid, mid = (lo + hi' + 1) / 2 := ⟨_, rfl⟩
            have hA := (Below.refl wr.heap.size wr).alloc (Nat.le_refl _) (.cells #[.int .i64 (((lo : Int) + (hi' : Int) + 1) / 2)] 3)
            go_wp2_with fail
            have HVq := HV.out.below (hBq.trans (hA.mono hBq.size)) (Nat.le_refl _)
            refine (rtimes_one (x := mid) HVq (by omega) ((Row.one 0 _ _ _ (Nat.zero_le _) mid _ (by omega)).sees) (by omega)).mono ?_
            rintro e w7 ⟨T, rfl, hb7, hT⟩
            have hq7 := hq6.trans ((hA.trans (hb7.mono hA.size)).mono hq6.size)
            have hR7 := hRn6.out.below hq7 (Nat.le_refl _)
            obtain ⟨Ta, Tl, Tc, rfl⟩ := hT.form
            obtain ⟨c, hc⟩ : ∃ c, Limb.cmpN (n * mid) N = c := ⟨_, rfl⟩
            clear hA HVq hb7
            go_wp2_with fail
            by_cases hle : n * mid ≤ N
            · have hc0 : c ≤ 0 := by rw [← hc, Limb.cmp_le_zero]; exact hle
              have hm : mid ≤ q0 := by rw [← HQ0.out]; exact (Limb.rmul_le hn).1 hle
              refine (rorder_nat hT hR7 hc).mono ?_
              rintro e w8 ⟨rfl, n8, rfl⟩
              clear hc hle hT hR7
              go_wp2
              go_roundw
              case rel => exact ⟨mid, hi', hm, hhi, hhi9, by refine congrArg _ ?_; omega, rfl, hq7.trans (below_drewN _ _)⟩
              case measure => simp [intOf]; omega
            · have hc0 : ¬ c ≤ 0 := by rw [← hc, Limb.cmp_le_zero]; exact hle
              have hm : q0 < mid := by rw [← HQ0.out]; exact Nat.lt_of_not_le fun h => hle ((Limb.rmul_le hn).2 h)
              refine (rorder_nat hT hR7 hc).mono ?_
              rintro e w8 ⟨rfl, n8, rfl⟩
              clear hc hle hT hR7
              go_wp2
              go_roundw
              case rel => exact ⟨lo, mid - 1, hlo, by omega, by omega, rfl, by refine congrArg _ ?_; omega, hq7.trans (below_drewN _ _)⟩
              case measure => simp [intOf]; omega
          · have hlq : lo = q0 := by omega
            subst hlq
            have hownq := hown6.below hq6 hown6.lt
            have hcell := hownq.cell (i := k - 1) (by rw [HSL.out]; omega)
            have hfree := hownq.free (k - 1)
            generalize s.getD (k - 1) 0 = z at hcell
            have hZ := Lib.hid (Limb.div_round (B := 1000000) (s := s) hk0 (by rw [HSL.out]; exact hk) HX.out HI.out)
            rw [← HN.out, HQ0.out] at hZ
            have hBs := hBq.setCell (p := ⟨w.heap.size, k - 1, none⟩) (Nat.le_refl _) (.int .i64 lo)
            have hRs := (hRn6.out.below hq6 (Nat.le_refl _)).put (i := k - 1) HRo.out (.int .i64 lo)
            have hOs := hownq.put (k - 1) lo (lo : Int) rfl
            have hsl : (s.set (k - 1) lo).length = a.length := by rw [List.length_set]; exact HSL.out
            have hss := Limb.small_set hsm (k - 1) lo hq9
            have hzz : ∀ j, j < k - 1 → (s.set (k - 1) lo).getD j 0 = 0 := fun j hj => by rw [Limb.getD_set_ne _ _ _ _ (by omega)]; exact HZ.out j (by omega)
            have HSL2 := Lib.hid hsl
            have HZZ := Lib.hid hzz
            have hnl : n * lo ≤ N := by rw [← HQ0.out]; exact Nat.mul_div_le N n
            have hrn : N - n * lo < n := by rw [← HQ0.out, Limb.rdiv_mod]; exact Nat.mod_lt _ hn
            clear hsl hzz hownq hBq hBel6 hown6
            have HSZ := Lib.hid (show (wr.setCell ⟨w.heap.size, k - 1, none⟩ (.int .i64 lo)).heap.size = wr.heap.size by simp)
            go_wp2_with fail
            generalize wr.setCell ⟨w.heap.size, k - 1, none⟩ (.int .i64 lo) = Ws at *
            have hSee : Sees .i64 (Ws.alloc (.cells #[.int .i64 (lo : Int)] 3)) (.slice (some ⟨wr.heap.size, 0, none⟩) 1 1) [lo] := by
              have h := (Row.one 0 .i64 3 Ws (Nat.zero_le _) lo (lo : Int) rfl).sees
              rw [HSZ.out] at h
              exact h
            have hA := (Below.refl Ws.heap.size Ws).alloc (Nat.le_refl _) (.cells #[.int .i64 (lo : Int)] 3)
            refine (rtrim_one hSee hq9).mono ?_
            rintro e w' ⟨T, rfl, rfl, hT⟩
            obtain ⟨Ta, Tl, Tc, rfl⟩ := hT.form
            go_wp2_with fail
            refine (rtimes_nat (HV.out.below (hBs.trans (hA.mono hBs.size)) (Nat.le_refl _)) hT (by omega) (by omega)).mono ?_
            rintro e w8 ⟨P, rfl, hb8, hP⟩
            obtain ⟨Pa, Pl, Pc, rfl⟩ := hP.form
            have hB8 := hA.trans (hb8.mono hA.size)
            go_wp2_with fail
            refine (rless_nat (hRs.below hB8 (Nat.le_refl _)) hP (by omega) hnl).mono ?_
            rintro e w9 ⟨D, rfl, hb9, hD⟩
            have hB9 := hB8.trans (hb9.mono hB8.size)
            go_wp2
            go_roundw
            case rel => exact ⟨k - 1, N - n * lo, s.set (k - 1) lo, by omega, hrn, by go_num, hD.fit (by omega), hBs.trans (hB9.mono hBs.size), hOs.below hB9 hOs.lt, HSL2, hss, hZ, HZZ⟩
            case measure => simp [intOf]; omega
    · have hk1 : k = 0 := by omega
      subst hk1
      obtain ⟨e1, e2⟩ := Limb.rdiv_end hr EA.out HI.out
      have E1 := Lib.hid e1
      have E2 := Lib.hid e2
      have CT := Lib.hid (rtrim_own _ s wr (by have := hown.sees; rw [HSL.out] at this; exact this) hsm)
      have hsl : s.length ≤ p := by rw [HSL.out]; exact la
      clear e1 e2 hsm
      go_wp2_with (go_at_call 95; refine (CT.out).mono ?_; rintro e w' ⟨X, rfl, rfl, hX, hXo⟩)
      go_ret2
      rw [E1.out] at hX
      rw [E2.out] at hR
      exact ⟨X, _, rfl, hbel, hX.up hsl, hR⟩

end Go.Proofs.YtfphnoihkcnleaaGreatDoor
