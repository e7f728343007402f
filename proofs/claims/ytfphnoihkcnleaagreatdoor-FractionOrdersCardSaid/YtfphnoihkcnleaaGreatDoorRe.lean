/- The contracts of the functions of the reference on natural numbers: shared, read, digits. -/
import Derived.Test.YtfphnoihkcnleaaGreatDoorRd
namespace Go.Proofs.YtfphnoihkcnleaaGreatDoor
open Go.RowKit

set_option maxRecDepth 100000 in
set_option maxHeartbeats 1000000 in
theorem rshared_any (u v : Value) (m n p : Nat) (w : World) (hu : IsNat .i64 1000000 w u m p) (hv : IsNat .i64 1000000 w v n p) (hp : p ≤ 400) :
    Calls Tryz.prog 59 #[u, v] w fun e w' => ∃ r, e = .returned r ∧ Below w.heap.size w w' ∧ IsNat .i64 1000000 w' r (Nat.gcd m n) p := by
  go_enter Tryz.func59, Tryz.ntmps59
  go_wp2
  go_loopg [0, 1] n (fun g u0 u1 wr => ∃ m' : Nat, IsNat .i64 1000000 wr u0 m' p ∧ IsNat .i64 1000000 wr u1 g p ∧ Hid (Nat.gcd m' g = Nat.gcd m n) ∧ Below w.heap.size w wr)
  case atStart => exact ⟨m, hu, hv, Lib.hid rfl, Below.refl _ _⟩
  case round =>
    obtain ⟨m', h0, h1, HG, hbel⟩ := hrel
    have H1 := Lib.hid h1
    obtain ⟨l, sl, nl, el, ll⟩ := h1
    obtain ⟨ao, ca, rfl, a1, a2, _⟩ := sl.opened
    clear sl
    by_cases hg : 0 < gk
    · have hpos : 0 < l.length := by rw [← Limb.norm_pos (B := 1000000) (by omega) nl, el]; exact hg
      have CO := Lib.hid (rquot_any h0 H1.out hg (by omega) (by omega))
      clear el nl h0
      go_wp2_with (go_at_call 79; refine (CO.out).mono ?_; rintro e w2 ⟨r, s, rfl, hb2, hr, hs⟩)
      go_roundg (m' % gk)
      case measure => exact Nat.mod_lt _ hg
      case rel => exact ⟨gk, H1.out.below hb2 (Nat.le_refl _), hs, Lib.hid (by rw [← HG.out, Nat.gcd_comm m' gk, Nat.gcd_rec gk m', Nat.gcd_comm]), hbel.trans (hb2.mono hbel.size)⟩
    · have hz : l.length = 0 := by
        rcases Nat.eq_zero_or_pos l.length with h | h
        · exact h
        · exact absurd ((Limb.norm_pos (B := 1000000) (by omega) nl).2 h) (by rw [el]; exact hg)
      have hgz : gk = 0 := by omega
      have hneg : ¬ 0 < l.length := by omega
      have HM := Lib.hid (show m' = Nat.gcd m n by rw [← HG.out, hgz, Nat.gcd_zero_right])
      have H0 := Lib.hid h0
      clear hz hgz el nl h0
      go_wp2
      go_ret
      exact ⟨_, rfl, hbel, by rw [← HM.out]; exact H0.out⟩

theorem rchunk_step {l : List UInt8} {a : List Nat} {n k x : Nat} (hl : l.length = n) (hk : 6 * k < n) (ha : a.length = k) (hv : Limb.val 1000000 a = Fr.dv (l.drop (n - 6 * k))) (hx : Fr.dv (mid l (n - 6 * k - 6) (n - 6 * k)) = x) :
    Limb.val 1000000 (a ++ [x]) = Fr.dv (l.drop (n - 6 * (k + 1))) := by
  rw [Limb.val_append, ha, hv, show n - 6 * (k + 1) = n - 6 * k - 6 by omega, mid_drop l (n - 6 * k - 6) (n - 6 * k) (by omega), dv_append, hx, List.length_drop, hl, show n - (n - 6 * k) = 6 * k by omega, Nat.pow_mul, Limb.val_cons, Limb.val_nil, Nat.mul_zero, Nat.add_zero, Nat.mul_comm x, Nat.add_comm]

set_option maxRecDepth 100000 in
set_option maxHeartbeats 1000000 in
theorem rread_own (s : ByteArray) (w : World) (hs : s.size ≤ 1000) (hd : s.data.toList.all Fr.isDig = true) :
    Calls Tryz.prog 60 #[.string s] w fun e w' => ∃ r, e = .returned r ∧ Below w.heap.size w w' ∧ IsNat .i64 1000000 w' r (Fr.dv s.data.toList) (s.size / 6 + 1) ∧ ∀ g, g < w.heap.size → r.ownBlock ≠ some g := by
  obtain ⟨i0, hi, hz0, hz1, hz2⟩ := info_parts Tryz.infoI64
  go_enter Tryz.func60, Tryz.ntmps60
  go_wp2
  go_loopw [3, 4] (fun u3 u4 wr => ∃ (k : Nat) (a : List Nat), u4 = .int .i64 ((s.size : Int) - 6 * (k : Int)) ∧ 6 * k < s.size + 6 ∧ Hid (a.length = k) ∧ Row w.heap.size .i64 3 wr u3 a ∧ Limb.small 1000000 a ∧ Below w.heap.size w wr ∧
      Hid (Limb.val 1000000 a = Fr.dv (s.data.toList.drop (s.size - 6 * k)))) (fun _ u4 _ => (intOf u4).toNat)
  case atStart => exact ⟨0, [], by go_num, by omega, Lib.hid rfl, Row.nil _ _ _ _, fun x hx => by simp at hx, Below.refl _ _, by unfold Hid; rw [Nat.mul_zero, Nat.sub_zero, List.drop_eq_nil_of_le (by show s.data.toList.length ≤ s.data.toList.length; exact Nat.le_refl _)]; rfl⟩
  case round =>
    obtain ⟨k, a, rfl, hk, HA, hrow, hsm, hbel, HV⟩ := hrel
    by_cases hpos : 6 * k < s.size
    · rcases Nat.lt_or_ge (s.size - 6 * k) 7 with hE | hE
      all_goals
        go_wp2
        go_loop [5, 6] (fun u5 u6 => ∃ j x : Nat, s.size - 6 * k - 6 ≤ j ∧ j ≤ s.size - 6 * k ∧ u6 = .int .i64 j ∧ u5 = .int .i64 x ∧ Hid (Fr.dv (mid s.data.toList (s.size - 6 * k - 6) j) = x)) (fun _ u6 => s.size - (intOf u6).toNat)
        case atStart => exact ⟨s.size - 6 * k - 6, 0, by omega, by omega, by go_num, rfl, by unfold Hid; rw [mid_start]; rfl⟩
        case round =>
          obtain ⟨j, x, hj1, hj2, rfl, rfl, HX⟩ := hrel
          have hx0 := mid_lt hd (s.size - 6 * k - 6) j
          rw [HX.out] at hx0
          by_cases hjE : j < s.size - 6 * k
          · have hjs : j < s.size := by omega
            have hp8 : 10 ^ (j - (s.size - 6 * k - 6)) ≤ 10 ^ 5 := Nat.pow_le_pow_right (by omega) (by omega)
            have hx1 : x < 100000 := Nat.lt_of_lt_of_le hx0 hp8
            clear hp8
            have hdj : Fr.isDig (s[j]'hjs) = true := List.all_eq_true.1 hd _ (by show s.data[j] ∈ _; exact Array.getElem_mem_toList _)
            unfold Fr.isDig at hdj
            simp only [Bool.and_eq_true, decide_eq_true_eq] at hdj
            have hd1 : (48 : Int) ≤ ((s[j]'hjs).toNat : Int) := by omega
            have hd2 : ((s[j]'hjs).toNat : Int) ≤ 57 := by omega
            have HS := Lib.hid (mid_snoc s.data.toList (s.size - 6 * k - 6) j hj1 (by show j < s.data.toList.length; exact hjs))
            clear hdj hx0
            go_wp2
            go_round
            case rel =>
              refine ⟨j + 1, x * 10 + ((s[j]'hjs).toNat - 48), by omega, by omega, by go_num, by refine congrArg _ ?_; omega, ?_⟩
              unfold Hid
              rw [HS.out, dv_snoc, HX.out]
              rfl
            case measure => simp [intOf]; omega
          · have hjE2 : j = s.size - 6 * k := by omega
            have HX2 := Lib.hid (show Fr.dv (mid s.data.toList (s.size - 6 * k - 6) (s.size - 6 * k)) = x by have h := HX.out; rw [hjE2] at h; exact h)
            have hx9 : 10 ^ (j - (s.size - 6 * k - 6)) ≤ 10 ^ 6 := Nat.pow_le_pow_right (by omega) (by omega)
            have hx1 : x < 1000000 := Nat.lt_of_lt_of_le hx0 hx9
            have hal : a.length ≤ 200 := by rw [HA.out]; omega
            clear hjE2 hx9 hx0
            go_wp2_with (at_builtin; refine wpList_append_nat rfl _ _ 84 rfl 3 i0 .i64 8 Tryz.underlying84 hi hz0 hz1 hz2 (by omega) _ _ a [x] rfl rfl w.heap.size (hrow.below ((Below.refl _ _).alloc (Nat.le_refl _) _) (Nat.le_refl _)) ((Row.one 0 _ _ _ (Nat.zero_le _) x _ rfl).sees) (by simp; omega) (by have := hbel.size; simp; omega) ?_; intro v5 w5 hr5 hb5)
            go_roundw
            case rel =>
              refine ⟨k + 1, a ++ [x], by refine congrArg _ ?_; omega, by omega, ?_, hr5, ?_, (hbel.alloc hbel.size _).trans hb5, ?_⟩
              · unfold Hid; rw [List.length_append, HA.out]; rfl
              · intro z hz
                rcases List.mem_append.1 hz with h | h
                · exact hsm z h
                · rw [List.mem_singleton.1 h]; exact hx1
              · exact rchunk_step (by rfl) hpos HA.out HV.out HX2.out
            case measure => simp [intOf]; omega
    · have CT := Lib.hid (rtrim_own u3 a wr hrow.sees hsm)
      have HR := Lib.hid (World.ownsRow.lt hrow)
      have HV2 := Lib.hid (show Limb.val 1000000 a = Fr.dv s.data.toList by have h := HV.out; rw [show s.size - 6 * k = 0 by omega, List.drop_zero] at h; exact h)
      have hal : a.length ≤ s.size / 6 + 1 := by rw [HA.out]; omega
      clear hd
      go_wp2_with (go_at_call 95; refine (CT.out).mono ?_; rintro e w' ⟨r, rfl, rfl, hr, hro⟩)
      go_ret
      rw [HV2.out] at hr
      exact ⟨r, rfl, hbel, hr.up hal, fun g hg e => by rw [hro] at e; have := (HR.out g e).1; omega⟩


end Go.Proofs.YtfphnoihkcnleaaGreatDoor
