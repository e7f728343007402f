/- The contracts of the reference's functions on ints, and of its Make. -/
import Derived.Test.YtmmcakeedejbnacDoorRr
import Derived.Test.YtmmcakeedejbnacDoorPn
namespace Go.Proofs.YtmmcakeedejbnacDoor
open Go.RowKit

theorem long_fin {s : List Nat} {k : Nat} (hs : Limb.small 1000000 s) (hl : s.length = k) (h : k = 0 ∨ 0 < 0 ∨ 0 < s.getD (k - 1) 0) : Limb.norm 1000000 s := by
  refine ⟨hs, fun hp => ?_⟩
  rcases h with h | h | h
  · omega
  · omega
  · rw [hl]; exact h
theorem long_grow {s : List Nat} {k m N : Nat} (hl : s.length = k) (h : Limb.val 1000000 s + 1000000 ^ k * m = N) : Limb.val 1000000 (s ++ [m % 1000000]) + 1000000 ^ (k + 1) * (m / 1000000) = N := by
  rw [Limb.val_append, hl, Limb.val_cons, Limb.val_nil, Nat.mul_zero, Nat.add_zero, ← h, Nat.pow_succ, Nat.mul_assoc, Nat.add_assoc, ← Nat.mul_add, Nat.mod_add_div]
theorem long_last (s : List Nat) (k x : Nat) (hl : s.length = k) : (s ++ [x]).getD k 0 = x := by
  rw [List.getD_eq_getElem?_getD, List.getElem?_append_right (by omega), hl]; simp
theorem long_few {k m N v : Nat} (hm : 0 < m) (hN : N ≤ 9223372036854775807) (h : v + 1000000 ^ k * m = N) : k ≤ 3 := by
  rcases Nat.lt_or_ge k 4 with h1 | h1
  · omega
  · exfalso
    have h2 : 1000000 ^ 4 ≤ 1000000 ^ k := Nat.pow_le_pow_right (by omega) h1
    have h3 : 1000000 ^ k * 1 ≤ 1000000 ^ k * m := Nat.mul_le_mul_left _ hm
    have h4 : (1000000 : Nat) ^ 4 = 1000000000000000000000000 := by decide
    omega

set_option maxRecDepth 100000 in
theorem rlong_nat (N : Nat) (w : World) (h1 : N ≤ 9223372036854775807) :
    Calls Tryd.prog 61 #[.int .i64 (N : Int)] w fun e w' => ∃ r, e = .returned r ∧ Below w.heap.size w w' ∧ IsNat .i64 1000000 w' r N 4 := by
  obtain ⟨i0, hi, hz0, hz1, hz2⟩ := info_parts Tryd.infoI64
  go_enter Tryd.func61, Tryd.ntmps61
  go_wp2
  go_loopw [0, 3] (fun u0 u3 wr => ∃ (m k : Nat) (s : List Nat), u0 = .int .i64 m ∧ m ≤ N ∧ k ≤ 4 ∧ Hid (s.length = k) ∧ Row w.heap.size .i64 3 wr u3 s ∧ Limb.small 1000000 s ∧ Below w.heap.size w wr ∧
      Hid (Limb.val 1000000 s + 1000000 ^ k * m = N) ∧ Hid (k = 0 ∨ 0 < m ∨ 0 < s.getD (k - 1) 0)) (fun u0 _ _ => (intOf u0).toNat)
  case atStart => exact ⟨N, 0, [], rfl, Nat.le_refl _, by omega, Lib.hid rfl, Row.nil _ _ _ _, fun x hx => by simp at hx, Below.refl _ _, by unfold Hid; simp [Limb.val_nil], Lib.hid (.inl rfl)⟩
  case round =>
    obtain ⟨m, k, s, rfl, hm, hk, HA, hrow, hsm, hbel, HV, HL⟩ := hrel
    by_cases hpos : 0 < m
    · have hk3 := long_few hpos h1 HV.out
      have hsl : s.length ≤ 4 := by rw [HA.out]; omega
      go_wp2_with (at_builtin; refine wpList_append_nat rfl _ _ 94 rfl 3 i0 .i64 8 Tryd.underlying94 hi hz0 hz1 hz2 (by omega) _ _ s [m % 1000000] rfl rfl w.heap.size (hrow.below ((Below.refl _ _).alloc (Nat.le_refl _) _) (Nat.le_refl _)) ((Row.one 0 _ _ _ (Nat.zero_le _) (m % 1000000) _ (by omega)).sees) (by simp; omega) (by have := hbel.size; simp; omega) ?_; intro v5 w5 hr5 hb5)
      go_roundw
      case rel =>
        refine ⟨m / 1000000, k + 1, s ++ [m % 1000000], by refine congrArg _ ?_; omega, by omega, by omega, ?_, hr5, ?_, (hbel.alloc hbel.size _).trans hb5, ?_, ?_⟩
        · unfold Hid; rw [List.length_append, HA.out]; rfl
        · exact Limb.small_snoc hsm (by omega)
        · exact Lib.hid (long_grow HA.out HV.out)
        · unfold Hid
          rw [show k + 1 - 1 = k by omega, long_last _ _ _ HA.out]
          omega
      case measure => simp [intOf]; omega
    · have h0 : m = 0 := by omega
      have HV2 := Lib.hid (show Limb.val 1000000 s = N by have h := HV.out; rw [h0, Nat.mul_zero, Nat.add_zero] at h; exact h)
      have HN := Lib.hid (long_fin hsm HA.out (by have h := HL.out; rw [h0] at h; exact h))
      have hsl : s.length ≤ 4 := by rw [HA.out]; omega
      clear h0
      go_wp2
      go_ret
      exact ⟨_, rfl, hbel, s, hrow.sees, HN.out, HV2.out, hsl⟩

theorem itxt_neg {n : Int} {m : Nat} (h : n < 0) (hm : n = -((m : Int) + 1)) : (ByteArray.mk #[45]) ++ renB (m + 1) = ⟨(Fr.itxt n).toArray⟩ := by
  rw [Fr.itxt_eq, if_pos h, show n.natAbs = m + 1 by omega]
  apply ByteArray.ext
  rw [ByteArray.data_append]
  simp [renB]
theorem itxt_pos {n : Int} {m : Nat} (hm : n = (m : Int)) : renB m = ⟨(Fr.itxt n).toArray⟩ := by
  rw [Fr.itxt_eq, if_neg (by omega), show n.natAbs = m by omega]
  rfl

set_option maxRecDepth 100000 in
theorem rtext_any (n : Int) (w : World) (h0 : -9223372036854775808 ≤ n) (h1 : n ≤ 9223372036854775807) :
    Calls Tryd.prog 44 #[.int .i64 n] w fun e w' => e = .returned (.string ⟨(Fr.itxt n).toArray⟩) ∧ Below w.heap.size w w' := by
  by_cases hn : n < 0
  · obtain ⟨m, hm⟩ : ∃ m : Nat, n = -((m : Int) + 1) := ⟨(-n - 1).toNat, by omega⟩
    obtain ⟨K, hK⟩ : ∃ K, m + 1 = K := ⟨_, rfl⟩
    rw [← itxt_neg hn hm, hK]
    have sK : (renB K).size ≤ 24 := ren_size K 4 (by rw [show (1000000 : Nat) ^ 4 = 1000000000000000000000000 from by decide]; omega) (by omega)
    have HK := Lib.hid hK
    clear hK
    have CL := fun W => Lib.hid (rlong_nat m W (by omega))
    subst hm
    go_enter Tryd.func44, Tryd.ntmps44
    go_wp2_with fail
    rw [show -(-((m : Int) + 1) + 1) = (m : Int) by omega]
    refine ((CL _).out).mono ?_
    rintro e w1 ⟨r1, rfl, hb1, hr1⟩
    clear h0 h1 hn CL
    have hA := (Below.refl w1.heap.size w1).alloc (Nat.le_refl _) (.cells #[.int .i64 1] 3)
    have H1 := hr1.below hA (Nat.le_refl _)
    have hB2 := hb1.trans (hA.mono hb1.size)
    go_wp2_with fail
    refine (rplus_nat H1 (long_one w1) (by omega) (by omega)).mono ?_
    rintro e w2 ⟨r2, rfl, hb2, hr2, _⟩
    rw [HK.out] at hr2
    have hB3 := hB2.trans (hb2.mono hB2.size)
    go_wp2_with fail
    refine (rdigits_ren hr2 (by omega)).mono ?_
    rintro e w3 ⟨rfl, n3, rfl⟩
    clear hr2 H1 hA hr1
    go_wp2
    go_ret
    exact ⟨rfl, hB3.trans (below_drewN _ _)⟩
  · obtain ⟨m, hm⟩ : ∃ m : Nat, n = (m : Int) := ⟨n.toNat, by omega⟩
    rw [← itxt_pos hm]
    have CL := fun W => Lib.hid (rlong_nat m W (by omega))
    subst hm
    go_enter Tryd.func44, Tryd.ntmps44
    go_wp2_with fail
    refine ((CL _).out).mono ?_
    rintro e w1 ⟨r1, rfl, hb1, hr1⟩
    go_wp2_with fail
    refine (rdigits_ren hr1 (by omega)).mono ?_
    rintro e w3 ⟨rfl, n3, rfl⟩
    go_wp2
    go_ret
    exact ⟨rfl, hb1.trans (below_drewN _ _)⟩

end Go.Proofs.YtmmcakeedejbnacDoor

