/- The call of the statement TopNumbersSeries. -/
import Derived.Test.YtmmcakeedejbnacDoorSa
namespace Go.Proofs.YtmmcakeedejbnacDoor
open Go.RowKit
theorem Tryd.infoFrac : (Tryd.prog.info? 26).map (fun i => (i.zero, i.size, i.bytes)) = some (some (.string ⟨#[]⟩), 1, 16) := by kernel_rfl
theorem infoS {P : Program} {t : TypeId} {z : Value} {b : Nat} (h : (P.info? t).map (fun i => (i.zero, i.size, i.bytes)) = some (some z, 1, b)) : ∃ i, P.info? t = some i ∧ i.zero = some z ∧ i.size = 1 ∧ i.bytes = b := by
  obtain ⟨i, hi, hzz⟩ := Option.map_eq_some_iff.1 h
  simp only [Prod.mk.injEq] at hzz
  exact ⟨i, hi, hzz.1, hzz.2.1, hzz.2.2⟩
theorem ofV_inv {k : Nat} (h0 : 0 < k) (h : k < 41) : ofV 1 (k : Int) = (Fr.text (Fr.inv k), 0) := by
  unfold ofV
  rw [if_neg (by omega)]
  exact out_tx (Fr.inv_fits k h)
theorem ofV_one {k : Nat} (h0 : 0 < k) (h : k < 40) : ofV 1 ((k * (k + 1) : Nat) : Int) = (Fr.text (Fr.one k), 0) := by
  unfold ofV
  have hp : 0 < k * (k + 1) := Nat.mul_pos h0 (by omega)
  rw [if_neg (by omega)]
  exact out_tx (Fr.one_fits k h)

set_option maxRecDepth 100000 in
theorem rOver_any (k : Nat) (w : World) (h0 : 0 < k) (h : k < 41) : Calls Tryd.prog 21 #[.int .i64 1, .int .i64 k] w fun e w' => e = .returned (.string (txB (Fr.inv k))) ∧ Below w.heap.size w w' := by
  have CO := fun W => Lib.hid (rOf_any 1 k W (by omega) (by omega))
  rw [ofV_inv h0 h] at CO
  obtain ⟨s, hs⟩ : ∃ s, txB (Fr.inv k) = s := ⟨_, rfl⟩
  rw [hs]
  have hs' : (⟨(Fr.text (Fr.inv k)).toArray⟩ : ByteArray) = s := hs
  unfold OutPost at CO
  simp only [hs'] at CO
  clear hs hs' h0 h
  go_enter Tryd.func21, Tryd.ntmps21
  go_wp2_with fail
  refine ((CO _).out).mono ?_
  rintro e w1 ⟨rfl, hb⟩
  go_wp2
  go_ret
  exact ⟨rfl, hb⟩

set_option maxRecDepth 100000 in
theorem play_any (w : World) (hst : St w) : Calls Tryd.prog 6 #[] w fun e w' => e = .returned (.bool true) ∧ Below w.heap.size w w' := by
  have CA := Lib.hid (add_tx (p := 1 / 12) (q := 1 / 4) (r := 1 / 3) (by decide +kernel) (by decide +kernel) (by decide +kernel) w hst (by decide +kernel))
  rw [show txB (1 / 12) = ⟨#[49, 47, 49, 50]⟩ by decide +kernel, show txB (1 / 4) = ⟨#[49, 47, 52]⟩ by decide +kernel] at CA
  unfold TxPost at CA
  rw [show txB (1 / 3) = ⟨#[49, 47, 51]⟩ by decide +kernel] at CA
  clear hst
  go_enter Tryd.func6, Tryd.ntmps6
  go_wp2_with fail
  refine (CA.out).mono ?_
  rintro e w1 ⟨rfl, hb⟩
  go_wp2
  go_ret
  exact ⟨rfl, hb⟩

set_option maxRecDepth 100000 in
set_option maxHeartbeats 2000000 in
theorem lawSeries_any (m n : Nat) (w : World) (hst : St w) (hm : m < 256) (hn : n < 256) :
    Calls Tryd.prog 4 #[.int .u8 m, .int .u8 n] w fun e w' => e = .returned (.bool true) ∧ Below w.heap.size w w' := by
  have HST := Lib.hid hst
  clear hst
  obtain ⟨a, ha⟩ : ∃ a, 1 + m % 20 = a := ⟨_, rfl⟩
  obtain ⟨c, hc⟩ : ∃ c, n % 20 = c := ⟨_, rfl⟩
  have ha0 : 0 < a := by omega
  have ha1 : a < 21 := by omega
  have hc1 : c < 20 := by omega
  have hA : (1 : Int) + (m : Int) % 20 = (a : Int) := by omega
  have hC : (n : Int) % 20 = (c : Int) := by omega
  clear ha hc
  obtain ⟨i0, hi0, hz0, hz1, hz2⟩ := infoS Tryd.infoFrac
  go_enter Tryd.func4, Tryd.ntmps4
  go_wp2
  clear hA hC hm hn
  obtain ⟨h, hh⟩ : ∃ h, a + c + 1 = h := ⟨_, rfl⟩
  have hh1 : h < 41 := by omega
  have hhi : (a : Int) + (c : Int) + 1 = (h : Int) := by omega
  go_loopw [7, 8] (fun s7 s8 wr => ∃ k : Nat, a ≤ k ∧ k ≤ h ∧ s8 = .int .i64 k ∧ RowS w.heap.size 26 wr s7 (ones a k) ∧ Hid (Below w.heap.size w wr)) (fun _ s8 _ => h - (intOf s8).toNat)
  case atStart => exact ⟨a, Nat.le_refl _, by omega, rfl, by rw [ones_nil]; exact RowS.nil _ _ _, Lib.hid (Below.refl _ _)⟩
  case round =>
    obtain ⟨k, hk0, hk1, rfl, hrow, HW⟩ := hrel
    by_cases hk : k < h
    · have hp16 : k * (k + 1) ≤ 40 * 41 := Nat.mul_le_mul (by omega) (by omega)
      obtain ⟨p, hp⟩ : ∃ p, k * (k + 1) = p := ⟨_, rfl⟩
      have hmul : (k : Int) * ((k : Int) + 1) = (p : Int) := by rw [← hp]; simp
      have CF := Lib.hid (fOf_any 1 ((k * (k + 1) : Nat) : Int) wr (HST.out.next HW.out) (by omega) (by omega))
      rw [ofV_one (by omega) (by omega), hp] at CF
      have HS2 : Hid (ones a (k + 1) = ones a k ++ [txB (Fr.one k)]) := Lib.hid (ones_succ hk0)
      obtain ⟨s, hs⟩ : ∃ s, txB (Fr.one k) = s := ⟨_, rfl⟩
      have hs' : (⟨(Fr.text (Fr.one k)).toArray⟩ : ByteArray) = s := hs
      unfold OutPost at CF
      simp only [hs'] at CF
      rw [hs] at HS2
      have hlen : (ones a k).length ≤ 1048576 := by rw [ones_len]; omega
      have HB := HW.out.size
      clear hs hs'
      generalize ones a k = l at *
      go_wp2_with fail
      refine (CF.out).mono ?_
      rintro e w1 ⟨rfl, hb⟩
      have hrow' := hrow.below hb (Nat.le_refl _)
      have hB1 := HW.out.trans (hb.mono HB)
      have zb := hb.size
      clear hrow hb HW
      go_wp2_with (at_builtin; refine wpList_append_text rfl _ _ 46 rfl 26 i0 16 Tryd.underlying46 hi0 hz0 hz1 hz2 (by omega) _ l s w1.heap.size rfl rfl w.heap.size (hrow'.below ((Below.refl _ _).alloc (Nat.le_refl _) _) (Nat.le_refl _)) (by simp) hlen (by simp; omega) ?_; intro v6 w6 hr6 hb6)
      go_roundw
      case rel =>
        have hbA := (Below.refl w1.heap.size w1).alloc (Nat.le_refl _) (.cells #[.string s] 26)
        have hbB := (hbA.mono (show w.heap.size ≤ w1.heap.size by omega)).trans hb6
        exact ⟨k + 1, by omega, by omega, by go_num, by rw [HS2.out]; exact hr6, Lib.hid (hB1.trans hbB)⟩
      case measure => simp [intOf]; omega
    · obtain rfl : h = k := by omega
      have CS := Lib.hid (fSum_any _ (ones a h) wr (HST.out.next HW.out) hrow.sees (by rw [ones_len]; omega) (ones_size (by omega)))
      rw [ones_sumV ha1 ha0 (by omega) hk0] at CS
      have CO := fun k (h0 : 0 < k) (h1 : k < 41) W => Lib.hid (rOver_any k W h0 h1)
      have CB := fun W hst => Lib.hid (sub_tx (p := Fr.inv a) (q := Fr.inv h) (r := Fr.tel a h) (Fr.inv_fits a (by omega)) (Fr.inv_fits h hh1) (Fr.tel_fits a ha1 h hh1) W hst rfl)
      obtain ⟨s, hs⟩ : ∃ s, txB (Fr.tel a h) = s := ⟨_, rfl⟩
      have hs' : (⟨(Fr.text (Fr.tel a h)).toArray⟩ : ByteArray) = s := hs
      unfold OutPost at CS
      unfold TxPost at CB
      simp only [hs'] at CS
      simp only [hs] at CB
      clear hs hs' hrow
      go_wp2_with fail
      refine (CS.out).mono ?_
      rintro e w1 ⟨rfl, hb⟩
      have hB1 := HW.out.trans (hb.mono HW.out.size)
      clear hb CS HW
      go_wp2_with fail
      refine ((CO a ha0 (by omega) _).out).mono ?_
      rintro e w2 ⟨rfl, hb⟩
      have hB2 := hB1.trans (hb.mono hB1.size)
      clear hb hB1
      go_wp2_with fail
      refine ((CO h (by omega) hh1 _).out).mono ?_
      rintro e w3 ⟨rfl, hb⟩
      have hB3 := hB2.trans (hb.mono hB2.size)
      clear hb hB2
      go_wp2_with fail
      refine ((CB _ (HST.out.next hB3)).out).mono ?_
      rintro e w4 ⟨rfl, hb⟩
      have hB4 := hB3.trans (hb.mono hB3.size)
      clear hb hB3
      go_wp2_with fail
      refine (play_any _ (HST.out.next hB4)).mono ?_
      rintro e w5 ⟨rfl, hb⟩
      have hB5 := hB4.trans (hb.mono hB4.size)
      go_wp2
      go_ret
      exact ⟨rfl, hB5⟩
theorem lawSeries_card (x0 x1 : Int) (W : World) (hst : St W) (h0 : 0 ≤ x0) (h1 : x0 ≤ 255) (h2 : 0 ≤ x1) (h3 : x1 ≤ 255) :
    Calls Tryd.prog 4 #[.int .u8 x0, .int .u8 x1] W fun e w' => e = .returned (.bool true) ∧ Below W.heap.size W w' := by
  obtain ⟨m, rfl⟩ := Int.eq_ofNat_of_zero_le h0
  obtain ⟨n, rfl⟩ := Int.eq_ofNat_of_zero_le h2
  exact lawSeries_any m n W hst (by omega) (by omega)
end Go.Proofs.YtmmcakeedejbnacDoor

