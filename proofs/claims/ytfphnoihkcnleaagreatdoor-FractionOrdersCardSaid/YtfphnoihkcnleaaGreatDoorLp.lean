/- The contract of the statement FractionParts. -/
import Derived.Test.YtfphnoihkcnleaaGreatDoorLr
namespace Fr
open Limb

theorem Bd.num {q : Rat} {k : Nat} (h : Bd q k) : q.num.natAbs ≤ 10 ^ k := by
  obtain ⟨b, m, n, h1, rfl, h3, h4⟩ := h
  rw [(num_parts b m n h1).1]
  exact Nat.le_trans (Nat.div_le_self _ _) h3
theorem Bd.den {q : Rat} {k : Nat} (h : Bd q k) : q.den ≤ 10 ^ k := by
  obtain ⟨b, m, n, h1, rfl, h3, h4⟩ := h
  rw [(num_parts b m n h1).2.1]
  exact Nat.le_trans (Nat.div_le_self _ _) h4
theorem parts_div (q : Rat) : ((q.num : Int) : Rat) / (((q.den : Nat) : Int) : Rat) = q := by
  rw [← Rat.divInt_eq_div]; exact Rat.num_divInt_den q
theorem parts_scaled (q : Rat) (k : Int) (hk : k ≠ 0) : (((q.num * k : Int) : Int) : Rat) / (((((q.den : Nat) : Int) * k : Int) : Int) : Rat) = q := by
  rw [← Rat.divInt_eq_div, Rat.divInt_mul_right hk]; exact Rat.num_divInt_den q
end Fr
namespace Go.Proofs.YtfphnoihkcnleaaGreatDoor
open Go.RowKit

theorem okF_yes {s : ByteArray} (h : okF s = true) : s = txB (Fr.rat s.data.toList) ∧ Fr.Bd (Fr.rat s.data.toList) 10 := by
  unfold okF at h
  simp only [Bool.and_eq_true, decide_eq_true_eq] at h
  exact ⟨txB_of h.2, Fr.bd_short h.2 h.1⟩
theorem seesT_one (s : ByteArray) (w : World) (T : TypeId) : SeesT (w.alloc (.cells #[.string s] T)) (.slice (some ⟨w.heap.size, 0, none⟩) 1 1) [s] := by
  refine ⟨w.heap.size, 0, 1, rfl, by simp, fun i hi => ?_⟩
  have h0 : i = 0 := by simpa using hi
  subst h0
  simp
theorem right_one (s : ByteArray) (w : World) (T : TypeId) (hs : s.size ≤ 9223372036854775807) {b : Bool} (hb : okF s = b) :
    Calls Tryz.prog 44 #[.slice (some ⟨w.heap.size, 0, none⟩) 1 1] (w.alloc (.cells #[.string s] T)) fun e w' => e = .returned (.bool b) ∧ Below w.heap.size w w' := by
  have h := right_any _ [s] (w.alloc (.cells #[.string s] T)) (seesT_one s w T) (by simp) (fun i hi => by have h0 : i = 0 := (by simpa using hi); subst h0; exact hs)
  refine h.mono fun e w' ⟨h1, h2⟩ => ⟨?_, ((Below.refl _ _).alloc (Nat.le_refl _) _).trans (h2.mono (by simp))⟩
  rw [h1]
  simp [hb]

set_option maxRecDepth 100000 in
theorem law_asleep (s : ByteArray) (k : Int) (w : World) (hst : St w) (hs : s.size ≤ 9223372036854775807) (h : okF s = false ∨ (okF s = true ∧ k = 0)) :
    Calls Tryz.prog 10 #[.string s, .int .i16 k] w fun e w' => e = .returned (.bool true) ∧ Below w.heap.size w w' := by
  have CA := fun W (hW : Below w.heap.size w W) => Lib.hid (awake_any W (hst.next hW))
  rcases h with h | ⟨h, rfl⟩
  · have CR := Lib.hid (right_one s w 22 hs h)
    clear h hst
    go_enter Tryz.func10, Tryz.ntmps10
    go_wp2_with fail
    refine (CR.out).mono ?_
    rintro e w1 ⟨rfl, hb1⟩
    go_wp2_with fail
    refine ((CA _ hb1).out).mono ?_
    rintro e w2 ⟨rfl, hb2⟩
    go_wp2
    go_ret
    exact ⟨rfl, hb1.trans (hb2.mono hb1.size)⟩
  · have CR := Lib.hid (right_one s w 22 hs h)
    clear h hst
    go_enter Tryz.func10, Tryz.ntmps10
    go_wp2_with fail
    refine (CR.out).mono ?_
    rintro e w1 ⟨rfl, hb1⟩
    go_wp2_with fail
    refine ((CA _ hb1).out).mono ?_
    rintro e w2 ⟨rfl, hb2⟩
    go_wp2
    go_ret
    exact ⟨rfl, hb1.trans (hb2.mono hb1.size)⟩

set_option maxRecDepth 100000 in
set_option maxHeartbeats 1000000 in
theorem parts_good (q : Rat) (hq : Fr.Bd q 10) (k : Int) (hk : k ≠ 0) (hk1 : -32768 ≤ k) (hk2 : k ≤ 32767) (w : World) (hst : St w) (hs : (txB q).size ≤ 9223372036854775807) (h : okF (txB q) = true) :
    Calls Tryz.prog 10 #[.string (txB q), .int .i16 k] w fun e w' => e = .returned (.bool true) ∧ Below w.heap.size w w' := by
  have CA := fun W (hW : Below w.heap.size w W) => Lib.hid (awake_any W (hst.next hW))
  have CR := Lib.hid (right_one (txB q) w 22 hs h)
  have fq := hq.fits (by omega)
  have bm : Fr.Bd (q.num : Rat) 10 := Fr.bd_int _ hq.num
  have bn : Fr.Bd (((q.den : Nat) : Int) : Rat) 10 := Fr.bd_int _ (by have := hq.den; omega)
  have bk : Fr.Bd (k : Rat) 5 := Fr.bd_int _ (by omega)
  have fm := bm.fits (by omega)
  have fn := bn.fits (by omega)
  have fk := bk.fits (by omega)
  have ex : (q.num : Rat) * (k : Rat) = ((q.num * k : Int) : Rat) := (Rat.intCast_mul _ _).symm
  have ey : (((q.den : Nat) : Int) : Rat) * (k : Rat) = ((((q.den : Nat) : Int) * k : Int) : Rat) := (Rat.intCast_mul _ _).symm
  have fx : Fr.fits ((q.num * k : Int) : Rat) = true := by rw [← ex]; exact (bm.mul bk).fits (by omega)
  have fy : Fr.fits ((((q.den : Nat) : Int) * k : Int) : Rat) = true := by rw [← ey]; exact (bn.mul bk).fits (by omega)
  have hd : ((q.den : Nat) : Int) ≠ 0 := by have := q.den_nz; omega
  have hd2 : (((q.den : Nat) : Int) : Rat) ≠ 0 := fun h => hd (Rat.intCast_eq_zero_iff.1 h)
  have C1 := fun W (hW : Below w.heap.size w W) => Lib.hid (parts_tx fq W (hst.next hW))
  have C2 := fun W => Lib.hid (make_tx fm fn hd fq (Fr.parts_div q) W)
  have C3 := fun W (hW : Below w.heap.size w W) => Lib.hid (whole_tx k W (hst.next hW) (by omega) (by omega))
  have C4 := fun W (hW : Below w.heap.size w W) => Lib.hid (mul_tx fm fk fx W (hst.next hW) ex)
  have C5 := fun W (hW : Below w.heap.size w W) => Lib.hid (mul_tx fn fk fy W (hst.next hW) ey)
  have C6 := fun W => Lib.hid (make_tx fx fy (Int.mul_ne_zero hd hk) fq (Fr.parts_scaled q k hk) W)
  have C7 := fun W (hW : Below w.heap.size w W) => Lib.hid (div_tx fm fn fq W (hst.next hW) hd2 (Fr.parts_div q))
  have hk0 : (k == 0) = false := beq_eq_false_iff_ne.2 hk
  have hbq := Lib.hid (txB_beq q q)
  clear h hst fq bm bn bk fm fn fk ex ey fx fy hd hd2 hq hk
  unfold TxPost at C2 C4 C5 C6 C7
  generalize txB ((q.num : Int) : Rat) = m at *
  generalize txB (((q.den : Nat) : Int) : Rat) = n at *
  generalize txB (k : Rat) = kb at *
  generalize txB ((q.num * k : Int) : Rat) = x at *
  generalize txB ((((q.den : Nat) : Int) * k : Int) : Rat) = y at *
  generalize txB q = a at *
  go_enter Tryz.func10, Tryz.ntmps10
  go_wp2_with fail
  refine (CR.out).mono ?_
  rintro e w1 ⟨rfl, hb1⟩
  go_wp2_with fail
  refine ((C1 _ hb1).out).mono ?_
  rintro e w2 ⟨rfl, hb2⟩
  have hB2 := hb1.trans (hb2.mono hb1.size)
  go_wp2_with fail
  refine ((C2 _).out).mono ?_
  rintro e w3 ⟨rfl, hb3⟩
  have hB3 := hB2.trans (hb3.mono hB2.size)
  go_wp2_with fail
  refine ((C3 _ hB3).out).mono ?_
  rintro e w4 ⟨rfl, hb4⟩
  have hB4 := hB3.trans (hb4.mono hB3.size)
  go_wp2_with fail
  refine ((C4 _ hB4).out).mono ?_
  rintro e w5 ⟨rfl, hb5⟩
  have hB5 := hB4.trans (hb5.mono hB4.size)
  go_wp2_with fail
  refine ((C3 _ hB5).out).mono ?_
  rintro e w6 ⟨rfl, hb6⟩
  have hB6 := hB5.trans (hb6.mono hB5.size)
  go_wp2_with fail
  refine ((C5 _ hB6).out).mono ?_
  rintro e w7 ⟨rfl, hb7⟩
  have hB7 := hB6.trans (hb7.mono hB6.size)
  go_wp2_with fail
  refine ((C6 _).out).mono ?_
  rintro e w8 ⟨rfl, hb8⟩
  have hB8 := hB7.trans (hb8.mono hB7.size)
  go_wp2_with fail
  refine ((C7 _ hB8).out).mono ?_
  rintro e w9 ⟨rfl, hb9⟩
  have hB9 := hB8.trans (hb9.mono hB8.size)
  go_wp2_with fail
  refine ((CA _ hB9).out).mono ?_
  rintro e w10 ⟨rfl, hb10⟩
  have hB10 := hB9.trans (hb10.mono hB9.size)
  go_wp2
  go_ret
  exact ⟨rfl, hB10⟩

theorem lawParts_any (s : ByteArray) (k : Int) (w : World) (hst : St w) (hs : s.size ≤ 9223372036854775807) (hk1 : -32768 ≤ k) (hk2 : k ≤ 32767) :
    Calls Tryz.prog 10 #[.string s, .int .i16 k] w fun e w' => e = .returned (.bool true) ∧ Below w.heap.size w w' := by
  cases h : okF s with
  | false => exact law_asleep s k w hst hs (.inl h)
  | true =>
    by_cases hk : k = 0
    · exact law_asleep s k w hst hs (.inr ⟨h, hk⟩)
    · obtain ⟨h1, h2⟩ := okF_yes h
      generalize Fr.rat s.data.toList = q at *
      subst h1
      exact parts_good q h2 k hk hk1 hk2 w hst hs h

end Go.Proofs.YtfphnoihkcnleaaGreatDoor
