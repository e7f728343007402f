/- The contract of the product of natural numbers in package fraction. -/
import Derived.Test.YtfphnoihkcnleaaGreatDoorNc
namespace Go.Proofs.YtfphnoihkcnleaaGreatDoor
open Go.RowKit

theorem mul_bound {x y B : Nat} (hx : x < B) (hy : y < B) : x * y ≤ (B - 1) * (B - 1) := Nat.mul_le_mul (by omega) (by omega)

set_option maxRecDepth 100000 in
set_option maxHeartbeats 1000000 in
theorem times_own (u v : Value) (a b : List Nat) (w : World) (sa : Sees .u32 w u a) (sb : Sees .u32 w v b) (na : Limb.small 1000000000 a) (nb : Limb.small 1000000000 b) (ha : a.length ≤ 1000) (hb : b.length ≤ 1000) :
    Calls Tryz.prog 108 #[u, v] w fun e w' => ∃ r, e = .returned r ∧ Below w.heap.size w w' ∧ IsNat .u32 1000000000 w' r (Limb.val 1000000000 a * Limb.val 1000000000 b) (a.length + b.length) ∧ r.ownBlock = some w.heap.size := by
  obtain ⟨ao, ca, rfl, a1, a2, CA⟩ := sa.opened
  obtain ⟨bo, cb, rfl, b1, b2, CB⟩ := sb.opened
  obtain ⟨i0, hi, hz0, hz1, hz2⟩ := info_parts Tryz.infoU32
  clear sa sb
  go_enter Tryz.func108, Tryz.ntmps108
  go_wp2_with (first
    | (at_make; refine wpList_make_nat _ rfl _ _ 70 rfl 111 i0 .u32 4 Tryz.underlying70 hi hz0 hz1 hz2 (by omega) _ _ _ _ (a.length + b.length) rfl rfl (by omega) (by omega) (by omega) ?_; intro w1 hown1 hb1)
    | (go_at_call 123; refine (base_any _).mono ?_; rintro e w' ⟨rfl, rfl⟩))
  go_loopw [21] (fun u21 wr => ∃ (i : Nat) (s : List Nat), i ≤ a.length ∧ u21 = .int .i64 i ∧ Below w.heap.size w wr ∧ Own .u32 111 wr w.heap.size s ∧ Hid (s.length = a.length + b.length) ∧
      Limb.small 1000000000 s ∧ Hid (Limb.val 1000000000 s = Limb.val 1000000000 (a.take i) * Limb.val 1000000000 b) ∧ Hid (∀ j, i + b.length ≤ j → s.getD j 0 = 0)) (fun u21 _ => a.length - (intOf u21).toNat)
  case atStart =>
    refine ⟨0, _, Nat.zero_le _, rfl, hb1, hown1, Lib.hid List.length_replicate, Limb.small_replicate _ (by omega), ?_, ?_⟩
    · unfold Hid; rw [Limb.val_replicate]; simp
    · intro j _; simp [List.getElem?_replicate]; split <;> rfl
  case round =>
    obtain ⟨i, s, hi1, rfl, hbel, hown, HSL, hsm, HI, HZ⟩ := hrel
    have hLx := hown.1
    by_cases hlt : i < a.length
    · have hx0 := Limb.small_getD (by omega) na i
      obtain ⟨b0, off, rfl, hb0, hca⟩ := CA.at hbel hlt
      obtain ⟨x, hx⟩ : ∃ x, a.getD i 0 = x := ⟨_, rfl⟩
      rw [hx] at hx0 hca
      have HX := Lib.hid hx
      clear hx
      go_wp2
      obtain ⟨wo, hwo⟩ : ∃ wo : World, wo = wr := ⟨_, rfl⟩
      have hbo := hbel
      rw [← hwo] at hbo
      clear hwo
      go_loopw [9, 28] (fun u9 u28 wr => ∃ (j c : Nat) (p : List Nat), j ≤ b.length ∧ c < 1000000000 ∧ u28 = .int .i64 j ∧ u9 = .int .u64 c ∧ Below w.heap.size w wr ∧ Own .u32 111 wr w.heap.size p ∧ Hid (p.length = a.length + b.length) ∧
          Limb.small 1000000000 p ∧ Hid (Limb.val 1000000000 p + 1000000000 ^ (i + j) * c = Limb.val 1000000000 (a.take i) * Limb.val 1000000000 b + 1000000000 ^ i * (x * Limb.val 1000000000 (b.take j))) ∧ Hid (∀ j, i + b.length ≤ j → p.getD j 0 = 0)) (fun _ u28 _ => b.length - (intOf u28).toNat)
      case atStart => exact ⟨0, 0, s, Nat.zero_le _, by omega, rfl, rfl, hbel, hown, HSL, hsm, by unfold Hid; rw [HI.out]; simp, HZ⟩
      case round =>
        obtain ⟨j, c, p, hj1, hc1, rfl, rfl, hbel2, hown2, HPL, hpm, HJ, HQ⟩ := hrel
        have hLp := hown2.1
        have hPL1 : p.length ≤ a.length + b.length := by rw [HPL.out]; exact Nat.le_refl _
        have hPL2 : a.length + b.length ≤ p.length := by rw [HPL.out]; exact Nat.le_refl _
        by_cases hjt : j < b.length
        · have hy0 := Limb.small_getD (by omega) nb j
          have hz0' := Limb.small_getD (by omega) hpm (i + j)
          obtain ⟨b2', off2, rfl, hb2, hcb⟩ := CB.at hbel2 hjt
          obtain ⟨y, hy⟩ : ∃ y, b.getD j 0 = y := ⟨_, rfl⟩
          obtain ⟨z, hz⟩ : ∃ z, p.getD (i + j) 0 = z := ⟨_, rfl⟩
          have hcell := hown2.cell (i := i + j) (by omega)
          have hfree := hown2.free (i + j)
          rw [hy] at hy0 hcb
          rw [hz] at hz0' hcell
          have HY := Lib.hid hy
          have HZ2 := Lib.hid hz
          have hxy := mul_bound hx0 hy0
          obtain ⟨t, ht⟩ : ∃ t, x * y = t := ⟨_, rfl⟩
          rw [ht] at hxy
          have hti : (x : Int) * (y : Int) = (t : Int) := by rw [← ht, Int.natCast_mul]
          have h1t : 0 ≤ (x : Int) * (y : Int) := by omega
          have h2t : (x : Int) * (y : Int) ≤ 999999998000000001 := by omega
          have HT := Lib.hid hti
          have HT2 := Lib.hid ht
          clear hy hz hti ht
          go_wp2
          go_roundw
          case rel =>
            refine ⟨j + 1, (c + (z + t)) / 1000000000, p.set (i + j) ((c + (z + t)) % 1000000000), by omega, by omega, by go_num, ?_, hbel2.setCell (Nat.le_refl _) _, hown2.put (i + j) _ _ (by rw [HT.out]; omega), ?_, Limb.small_set hpm _ _ (by omega), ?_, Limb.zero_set HQ.out (by omega)⟩
            · rw [HT.out]; go_num
            · unfold Hid; rw [List.length_set]; exact HPL.out
            · rw [← HT2.out]; exact Limb.times_round b p i j x y z c _ HZ2.out HY.out (by omega) HJ.out
          case measure => simp [intOf]; omega
        · have hj2 : j = b.length := by omega
          have hcell := hown2.cell (i := i + b.length) (by omega)
          have hfree := hown2.free (i + b.length)
          generalize p.getD (i + b.length) 0 = z at hcell
          have hfin : Limb.val 1000000000 (p.set (i + b.length) c) = Limb.val 1000000000 (a.take (i + 1)) * Limb.val 1000000000 b := by
            have h := HJ.out
            rw [hj2] at h
            exact Limb.times_out a b p _ i c (by omega) (HQ.out _ (Nat.le_refl _)) (by rw [HX.out]; exact h) rfl
          have HF := Lib.hid hfin
          clear hj2 hfin
          go_wp2
          go_roundw
          case rel =>
            refine ⟨i + 1, p.set (i + b.length) c, by omega, by go_num, hbel2.setCell (Nat.le_refl _) _, hown2.put (i + b.length) _ _ rfl, ?_, Limb.small_set hpm _ _ (by omega), HF, ?_⟩
            · unfold Hid; rw [List.length_set]; exact HPL.out
            · exact fun t ht => by rw [Limb.getD_set_ne _ _ _ _ (by omega)]; exact HQ.out t (by omega)
          case measure => simp [intOf]; omega
    · have hs2 : Sees .u32 wr (.slice (some ⟨w.heap.size, 0, none⟩) (a.length + b.length) (a.length + b.length)) s := by have := hown.sees; rw [HSL.out] at this; exact this
      have CT := Lib.hid (trimmed_own _ s wr hs2 hsm)
      have hv : Limb.val 1000000000 s = Limb.val 1000000000 a * Limb.val 1000000000 b := by
        have := HI.out
        rw [List.take_of_length_le (by omega)] at this
        exact this
      have HV := Lib.hid hv
      have hsl : s.length ≤ a.length + b.length := by rw [HSL.out]; exact Nat.le_refl _
      clear hv hs2
      go_wp2_with (go_at_call 112; refine (CT.out).mono ?_; rintro e w' ⟨r, rfl, rfl, hr, hrb⟩)
      go_ret
      rw [HV.out] at hr
      exact ⟨r, rfl, hbel, hr.up hsl, hrb⟩

theorem times_any (u v : Value) (a b : List Nat) (w : World) (sa : Sees .u32 w u a) (sb : Sees .u32 w v b) (na : Limb.small 1000000000 a) (nb : Limb.small 1000000000 b) (ha : a.length ≤ 1000) (hb : b.length ≤ 1000) :
    Calls Tryz.prog 108 #[u, v] w fun e w' => ∃ r, e = .returned r ∧ Below w.heap.size w w' ∧ IsNat .u32 1000000000 w' r (Limb.val 1000000000 a * Limb.val 1000000000 b) (a.length + b.length) :=
  (times_own u v a b w sa sb na nb ha hb).mono fun _ _ ⟨r, h1, h2, h3, _⟩ => ⟨r, h1, h2, h3⟩

end Go.Proofs.YtfphnoihkcnleaaGreatDoor
