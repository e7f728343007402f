/- The contracts of the digits of package enclosure: times. -/
import Derived.Test.YtldclpdmcopgnaaGreatDoorEn
namespace Limb
theorem dtimes_in {p b : List Nat} {A i j x y z : Nat} (h : val 10 p = A + 10 ^ i * (x * val 10 (b.take j))) (hz : p.getD (i + j) 0 = z) (hy : b.getD j 0 = y) (hl : i + j < p.length) :
    val 10 (p.set (i + j) (z + x * y)) = A + 10 ^ i * (x * val 10 (b.take (j + 1))) := by
  rw [val_put hl hz rfl, h, val_take_succ, hy, Nat.pow_add]
  generalize 10 ^ i = P
  generalize 10 ^ j = Q
  generalize val 10 (b.take j) = V
  rw [Nat.mul_add x V, Nat.mul_add P, Nat.add_assoc]
  congr 2
  rw [Nat.mul_assoc P Q, Nat.mul_left_comm Q x y]
theorem dtimes_out {p a b : List Nat} {i x : Nat} (h : val 10 p = val 10 (a.take i) * val 10 b + 10 ^ i * (x * val 10 (b.take b.length))) (hx : a.getD i 0 = x) :
    val 10 p = val 10 (a.take (i + 1)) * val 10 b := by
  rw [h, val_take_succ, hx, List.take_of_length_le (Nat.le_refl _), Nat.add_mul, Nat.mul_assoc]
theorem dcarry {q : List Nat} {i x c T : Nat} (hi : i < q.length) (hx : q.getD i 0 = x) (h : val 10 q + 10 ^ i * c = T) : val 10 (q.set i ((x + c) % 10)) + 10 ^ (i + 1) * ((x + c) / 10) = T := by
  have h1 := val_set 10 q i ((x + c) % 10) hi
  rw [hx] at h1
  have e := Nat.mod_add_div (x + c) 10
  have e2 : 10 ^ i * ((x + c) % 10) + 10 ^ i * (10 * ((x + c) / 10)) = 10 ^ i * x + 10 ^ i * c := by rw [← Nat.mul_add, ← Nat.mul_add, e]
  rw [Nat.pow_succ, Nat.mul_assoc]
  omega
theorem dcarry_end {q a b : List Nat} {n c : Nat} (ha : small 10 a) (hb : small 10 b) (hn : n = a.length + b.length) (h : val 10 q + 10 ^ n * c = val 10 a * val 10 b) : val 10 q = val 10 a * val 10 b := by
  have h1 : val 10 a * val 10 b < 10 ^ n := by
    rw [hn, Nat.pow_add]
    exact Nat.mul_lt_mul'' (val_lt ha) (val_lt hb)
  rcases Nat.eq_zero_or_pos c with h0 | h0
  · rw [h0, Nat.mul_zero] at h; exact h
  · have : 10 ^ n * 1 ≤ 10 ^ n * c := Nat.mul_le_mul_left _ h0
    omega
theorem small_at {q : List Nat} {n : Nat} (hl : q.length = n) (h : ∀ k, k < n → q.getD k 0 < 10) : small 10 q := by
  intro x hx
  obtain ⟨k, hk, rfl⟩ := List.mem_iff_getElem.1 hx
  have := h k (by omega)
  rw [List.getD_eq_getElem?_getD, List.getElem?_eq_getElem hk] at this
  exact this
end Limb
namespace Go.Proofs.YtldclpdmcopgnaaGreatDoor
open Go.RowKit
set_option maxRecDepth 100000 in
set_option maxHeartbeats 2000000 in
theorem dTimes_any (u v : Value) (a b : List Nat) (w : World) (sa : Sees .i64 w u a) (sb : Sees .i64 w v b) (na : Limb.small 10 a) (nb : Limb.small 10 b) (ha : a.length ≤ 1000) (hb : b.length ≤ 1000) :
    Calls Tryz.prog 129 #[u, v] w fun e w' => ∃ r, e = .returned r ∧ Below w.heap.size w w' ∧ IsNat .i64 10 w' r (Limb.val 10 a * Limb.val 10 b) (a.length + b.length) ∧ r.ownBlock = some w.heap.size := by
  obtain ⟨ao, ca, rfl, a1, a2, CA⟩ := sa.opened
  obtain ⟨bo, cb, rfl, b1, b2, CB⟩ := sb.opened
  obtain ⟨i0, hi, hz0, hz1, hz2⟩ := info_parts Tryz.infoI64
  clear sa sb
  go_enter Tryz.func129, Tryz.ntmps129
  go_wp2_with (at_make; refine wpList_make_nat _ rfl _ _ 92 rfl 3 i0 .i64 8 Tryz.underlying92 hi hz0 hz1 hz2 (by omega) _ _ _ _ (a.length + b.length) rfl rfl (by omega) (by omega) (by omega) ?_; intro w1 hown1 hb1)
  go_loopw [21] (fun u21 wr => ∃ (i : Nat) (s : List Nat), i ≤ a.length ∧ u21 = .int .i64 i ∧ Below w.heap.size w wr ∧ Own .i64 3 wr w.heap.size s ∧ Hid (s.length = a.length + b.length) ∧
      Hid (∀ k, s.getD k 0 ≤ 81 * i) ∧ Hid (Limb.val 10 s = Limb.val 10 (a.take i) * Limb.val 10 b)) (fun u21 _ => a.length - (intOf u21).toNat)
  case atStart =>
    refine ⟨0, _, Nat.zero_le _, rfl, hb1, hown1, Lib.hid List.length_replicate, ?_, ?_⟩
    · unfold Hid; intro k; simp [List.getElem?_replicate]; split <;> simp
    · unfold Hid; rw [Limb.val_replicate]; simp
  case round =>
    obtain ⟨i, s, hi1, rfl, hbel, hown, HSL, HBD, HI⟩ := hrel
    have hLx := hown.1
    by_cases hlt : i < a.length
    · have hx0 := Limb.small_getD (by omega) na i
      obtain ⟨b0, off, rfl, hb0, hca⟩ := CA.at hbel hlt
      obtain ⟨x, hx⟩ : ∃ x, a.getD i 0 = x := ⟨_, rfl⟩
      rw [hx] at hx0 hca
      have HX := Lib.hid hx
      clear hx
      go_wp2
      obtain ⟨wo, hwo⟩ : ∃ wo : World, wo = wr := ⟨_, rfl⟩
      have hbo := hbel
      rw [← hwo] at hbo
      clear hwo
      go_loopw [28] (fun u28 wr => ∃ (j : Nat) (p : List Nat), j ≤ b.length ∧ u28 = .int .i64 j ∧ Below w.heap.size w wr ∧ Own .i64 3 wr w.heap.size p ∧ Hid (p.length = a.length + b.length) ∧
          Hid (∀ k, (k < i + j → p.getD k 0 ≤ 81 * i + 81) ∧ (i + j ≤ k → p.getD k 0 ≤ 81 * i)) ∧ Hid (Limb.val 10 p = Limb.val 10 (a.take i) * Limb.val 10 b + 10 ^ i * (x * Limb.val 10 (b.take j)))) (fun u28 _ => b.length - (intOf u28).toNat)
      case atStart => exact ⟨0, s, Nat.zero_le _, rfl, hbel, hown, HSL, Lib.hid (fun k => ⟨fun _ => by have := HBD.out k; omega, fun _ => HBD.out k⟩), by unfold Hid; rw [HI.out]; simp⟩
      case round =>
        obtain ⟨j, p, hj1, rfl, hbel2, hown2, HPL, HPB, HJ⟩ := hrel
        have hLp := hown2.1
        have hPL2 : a.length + b.length ≤ p.length := by rw [HPL.out]; exact Nat.le_refl _
        have hPL1 : p.length ≤ a.length + b.length := by rw [HPL.out]; exact Nat.le_refl _
        by_cases hjt : j < b.length
        · have hy0 := Limb.small_getD (by omega) nb j
          have hz0' := (HPB.out (i + j)).2 (Nat.le_refl _)
          obtain ⟨b2', off2, rfl, hb2, hcb⟩ := CB.at hbel2 hjt
          obtain ⟨y, hy⟩ : ∃ y, b.getD j 0 = y := ⟨_, rfl⟩
          obtain ⟨z, hz⟩ : ∃ z, p.getD (i + j) 0 = z := ⟨_, rfl⟩
          have hcell := hown2.cell (i := i + j) (by omega)
          have hfree := hown2.free (i + j)
          rw [hy] at hy0 hcb
          rw [hz] at hz0' hcell
          have HY := Lib.hid hy
          have HZ2 := Lib.hid hz
          have hxy := mul_bound hx0 hy0
          obtain ⟨t, ht⟩ : ∃ t, x * y = t := ⟨_, rfl⟩
          rw [ht] at hxy
          have hti : (x : Int) * (y : Int) = (t : Int) := by rw [← ht, Int.natCast_mul]
          have h1t : 0 ≤ (x : Int) * (y : Int) := by omega
          have h2t : (x : Int) * (y : Int) ≤ 81 := by omega
          have HT := Lib.hid hti
          have HT2 := Lib.hid ht
          clear hy hz hti ht
          go_wp2
          go_roundw
          case rel =>
            refine ⟨j + 1, p.set (i + j) (z + x * y), by omega, by go_num, hbel2.setCell (Nat.le_refl _) _, hown2.put (i + j) _ _ (by rw [HT.out, HT2.out]; omega), ?_, ?_, ?_⟩
            · unfold Hid; rw [List.length_set]; exact HPL.out
            · refine Lib.hid (fun k => ⟨fun hk => ?_, fun hk => ?_⟩)
              · by_cases e : k = i + j
                · rw [e, Limb.getD_set_eq _ _ _ (by omega), HT2.out]; omega
                · rw [Limb.getD_set_ne _ _ _ _ (by omega)]; exact (HPB.out k).1 (by omega)
              · rw [Limb.getD_set_ne _ _ _ _ (by omega)]; exact (HPB.out k).2 (by omega)
            · exact Lib.hid (Limb.dtimes_in HJ.out HZ2.out HY.out (by omega))
          case measure => simp [intOf]; omega
        · have HF := Lib.hid (Limb.dtimes_out (by have h := HJ.out; rw [show j = b.length by omega] at h; exact h) HX.out)
          go_wp2
          go_roundw
          case rel =>
            refine ⟨i + 1, p, by omega, by go_num, hbel2, hown2, HPL, Lib.hid (fun k => ?_), HF⟩
            rcases Nat.lt_or_ge k (i + j) with hk | hk
            · have := (HPB.out k).1 hk; omega
            · have := (HPB.out k).2 hk; omega
          case measure => simp [intOf]; omega
    · have HI2 := Lib.hid (show Limb.val 10 s = Limb.val 10 a * Limb.val 10 b by
        have := HI.out
        rw [List.take_of_length_le (by omega)] at this
        exact this)
      have HBD2 := Lib.hid (show ∀ k, s.getD k 0 ≤ 81000 from fun k => by have := HBD.out k; omega)
      clear HI HBD CA CB
      go_wp2
      go_loopw [10, 48] (fun u10 u48 wr => ∃ (k c : Nat) (q : List Nat), k ≤ a.length + b.length ∧ c ≤ 100000 ∧ u48 = .int .i64 k ∧ u10 = .int .i64 c ∧ Below w.heap.size w wr ∧ Own .i64 3 wr w.heap.size q ∧ Hid (q.length = a.length + b.length) ∧
          Hid (∀ j, j < k → q.getD j 0 < 10) ∧ Hid (∀ j, q.getD j 0 ≤ 81000) ∧ Hid (Limb.val 10 q + 10 ^ k * c = Limb.val 10 a * Limb.val 10 b)) (fun _ u48 _ => a.length + b.length - (intOf u48).toNat)
      case atStart => exact ⟨0, 0, s, Nat.zero_le _, Nat.zero_le _, rfl, rfl, hbel, hown, HSL, Lib.hid (fun j hj => absurd hj (Nat.not_lt_zero _)), HBD2, Lib.hid (by rw [Nat.mul_zero, Nat.add_zero]; exact HI2.out)⟩
      case round =>
        obtain ⟨k, c, q, hk, hc, rfl, rfl, hbel3, hown3, HQL, HQS, HQB, HQV⟩ := hrel
        have hLq := hown3.1
        have hQL1 : q.length ≤ a.length + b.length := by rw [HQL.out]; exact Nat.le_refl _
        have hQL2 : a.length + b.length ≤ q.length := by rw [HQL.out]; exact Nat.le_refl _
        by_cases hkt : k < a.length + b.length
        · have hcell := hown3.cell (i := k) (by omega)
          have hfree := hown3.free k
          have hxb := HQB.out k
          obtain ⟨x, hx⟩ : ∃ x, q.getD k 0 = x := ⟨_, rfl⟩
          rw [hx] at hcell hxb
          have HX := Lib.hid hx
          clear hx
          go_wp2
          go_roundw
          case rel =>
            refine ⟨k + 1, (x + c) / 10, q.set k ((x + c) % 10), by omega, by omega, by go_num, ?_, hbel3.setCell (Nat.le_refl _) _, hown3.put k _ _ (by omega), ?_, ?_, ?_, Lib.hid (Limb.dcarry (by omega) HX.out HQV.out)⟩
            · go_num
            · unfold Hid; rw [List.length_set]; exact HQL.out
            · refine Lib.hid (fun j hj => ?_)
              by_cases e : j = k
              · rw [e, Limb.getD_set_eq _ _ _ (by omega)]; omega
              · rw [Limb.getD_set_ne _ _ _ _ (by omega)]; exact HQS.out j (by omega)
            · refine Lib.hid (fun j => ?_)
              by_cases e : j = k
              · rw [e, Limb.getD_set_eq _ _ _ (by omega)]; omega
              · rw [Limb.getD_set_ne _ _ _ _ (by omega)]; exact HQB.out j
          case measure => simp [intOf]; omega
        · have hsm := Limb.small_at HQL.out (fun j hj => HQS.out j (by omega))
          have hs2 : Sees .i64 wr (.slice (some ⟨w.heap.size, 0, none⟩) (a.length + b.length) (a.length + b.length)) q := by have := hown3.sees; rw [HQL.out] at this; exact this
          have CT := Lib.hid (dTrim_own _ q wr hs2 hsm)
          have HV := Lib.hid (Limb.dcarry_end na nb (by omega) HQV.out)
          clear hs2 hsm
          go_wp2_with (go_at_call 149; refine (CT.out).mono ?_; rintro e w' ⟨r, rfl, rfl, hr, hrb⟩)
          go_ret
          rw [HV.out] at hr
          exact ⟨r, rfl, hbel3, hr.up hQL1, hrb⟩
theorem dTimesN (u v : Value) (m n p q : Nat) (w : World) (hu : IsNat .i64 10 w u m p) (hv : IsNat .i64 10 w v n q) (hp : p ≤ 1000) (hq : q ≤ 1000) :
    Calls Tryz.prog 129 #[u, v] w fun e w' => ∃ r, e = .returned r ∧ Below w.heap.size w w' ∧ IsNat .i64 10 w' r (m * n) (p + q) ∧ r.ownBlock = some w.heap.size := by
  obtain ⟨a, sa, na, rfl, la⟩ := hu
  obtain ⟨b, sb, nb, rfl, lb⟩ := hv
  exact (dTimes_any u v a b w sa sb na.1 nb.1 (by omega) (by omega)).mono fun _ _ ⟨r, h1, h2, h3, h4⟩ => ⟨r, h1, h2, h3.up (by omega), h4⟩
end Go.Proofs.YtldclpdmcopgnaaGreatDoor
