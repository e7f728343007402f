/- The contract of the statement FractionOrders. -/
import Derived.Test.YtfphnoihkcnleaaGreatDoorLp
namespace Fr
open Limb

/-- The order of two numbers, and of their difference. -/
theorem order_ways (p q : Rat) : (p < q ∧ sgnQ (p - q) = -1 ∧ cmpQ p q = -1 ∧ cmpQ q p = 1 ∧ p ≠ q) ∨ (p = q ∧ sgnQ (p - q) = 0 ∧ cmpQ p q = 0 ∧ cmpQ q p = 0) ∨ (q < p ∧ sgnQ (p - q) = 1 ∧ cmpQ p q = 1 ∧ cmpQ q p = -1 ∧ p ≠ q) := by
  rw [cmpQ_sub]
  by_cases h : p < q
  · left
    have h1 : ¬ q < p := Rat.not_lt.2 (Rat.le_of_lt h)
    have h2 : p ≠ q := fun e => by rw [e] at h; exact Rat.lt_irrefl h
    have e1 : cmpQ p q = -1 := by unfold cmpQ; rw [if_pos h]
    have e2 : cmpQ q p = 1 := by unfold cmpQ; rw [if_neg h1, if_neg (fun e => h2 e.symm)]
    exact ⟨h, e1, e1, e2, h2⟩
  · right
    by_cases h1 : p = q
    · left
      subst h1
      have e1 : cmpQ p p = 0 := by unfold cmpQ; rw [if_neg h, if_pos rfl]
      exact ⟨rfl, e1, e1, e1⟩
    · right
      have h2 : q < p := Rat.lt_of_le_of_ne (Rat.not_lt.1 h) (fun e => h1 e.symm)
      have e1 : cmpQ p q = 1 := by unfold cmpQ; rw [if_neg h, if_neg h1]
      have e2 : cmpQ q p = -1 := by unfold cmpQ; rw [if_pos h2]
      exact ⟨h2, e1, e1, e2, h1⟩

/-- A number, its floor and its ceiling. -/
theorem floor_ways (p : Rat) : ((-((-p).floor) : Int) - p.floor = 0 ∧ (p.floor : Rat) = p ∧ cmpQ (p.floor : Rat) p = 0 ∧ cmpQ p ((-((-p).floor) : Int) : Rat) = 0) ∨
    ((-((-p).floor) : Int) - p.floor = 1 ∧ (p.floor : Rat) ≠ p ∧ cmpQ (p.floor : Rat) p = -1 ∧ cmpQ p ((-((-p).floor) : Int) : Rat) = -1) := by
  have h1 := Rat.floor_le p
  have h2 := Rat.lt_floor_add_one p
  by_cases h : (p.floor : Rat) = p
  · left
    have e : (-p).floor = -p.floor := by
      have e1 : -p = ((-p.floor : Int) : Rat) := by rw [Rat.intCast_neg, h]
      rw [e1, Rat.floor_intCast]
    rw [e]
    have e3 : -(-p.floor) = p.floor := by omega
    rw [e3]
    refine ⟨by omega, h, ?_, ?_⟩
    · unfold cmpQ; rw [h, if_neg Rat.lt_irrefl, if_pos rfl]
    · unfold cmpQ; rw [h, if_neg Rat.lt_irrefl, if_pos rfl]
  · right
    have h3 : (p.floor : Rat) < p := Rat.lt_of_le_of_ne h1 h
    have e : (-p).floor = -(p.floor + 1) := by
      have a1 : -(p.floor + 1) ≤ (-p).floor := by
        rw [Rat.le_floor_iff, Rat.intCast_neg]
        exact Rat.neg_le_neg (Rat.le_of_lt h2)
      have a2 : (-p).floor < -p.floor := by
        rw [Rat.floor_lt_iff, Rat.intCast_neg]
        exact Rat.neg_lt_neg h3
      omega
    rw [e]
    have e3 : -(-(p.floor + 1)) = p.floor + 1 := by omega
    rw [e3]
    refine ⟨by omega, h, ?_, ?_⟩
    · unfold cmpQ; rw [if_pos h3]
    · unfold cmpQ; rw [if_pos h2]

theorem small_int (z : Int) (hf : fits (z : Rat) = true) (h0 : -9223372036854775808 ≤ z) (h1 : z < 9223372036854775808) : smallV (text (z : Rat)) = (z, 0) := by
  unfold smallV
  rw [if_pos (chk_text hf), rat_text]
  exact if_pos ⟨rfl, h0, h1⟩
end Fr
namespace Go.Proofs.YtfphnoihkcnleaaGreatDoor
open Go.RowKit

theorem small_tx (z : Int) (hf : Fr.fits (z : Rat) = true) (h0 : -9223372036854775808 ≤ z) (h1 : z < 9223372036854775808) (w : World) (hst : St w) (hse : StE w) :
    Calls Tryz.prog 17 #[.string (txB (z : Rat))] w fun e w' => e = .returned (.tuple #[.int .i64 z, .int .i64 0]) ∧ Below w.heap.size w w' := by
  have h := fSmall_any (txB (z : Rat)) w hst hse (Nat.le_trans (txB_size hf) (by omega))
  rw [txB_list, Fr.small_int z hf h0 h1] at h
  exact h
theorem seesT_two (s t : ByteArray) (w : World) (T : TypeId) : SeesT (w.alloc (.cells #[.string s, .string t] T)) (.slice (some ⟨w.heap.size, 0, none⟩) 2 2) [s, t] := by
  refine ⟨w.heap.size, 0, 2, rfl, by simp, fun i hi => ?_⟩
  have h0 : i = 0 ∨ i = 1 := by have : i < 2 := hi; omega
  rcases h0 with rfl | rfl <;> simp
theorem right_two (s t : ByteArray) (w : World) (T : TypeId) (hs : s.size ≤ 9223372036854775807) (ht : t.size ≤ 9223372036854775807) {b : Bool} (hb : (okF s && okF t) = b) :
    Calls Tryz.prog 44 #[.slice (some ⟨w.heap.size, 0, none⟩) 2 2] (w.alloc (.cells #[.string s, .string t] T)) fun e w' => e = .returned (.bool b) ∧ Below w.heap.size w w' := by
  have h := right_any _ [s, t] (w.alloc (.cells #[.string s, .string t] T)) (seesT_two s t w T) (by simp) (fun i hi => by
    have h0 : i = 0 ∨ i = 1 := by have : i < 2 := hi; omega
    rcases h0 with rfl | rfl
    · exact hs
    · exact ht)
  refine h.mono fun e w' ⟨h1, h2⟩ => ⟨?_, ((Below.refl _ _).alloc (Nat.le_refl _) _).trans (h2.mono (by simp))⟩
  rw [h1]
  simp [← hb]

set_option maxRecDepth 100000 in
theorem orders_asleep (s t : ByteArray) (w : World) (hst : St w) (hs : s.size ≤ 9223372036854775807) (ht : t.size ≤ 9223372036854775807) (h : (okF s && okF t) = false) :
    Calls Tryz.prog 9 #[.string s, .string t] w fun e w' => e = .returned (.bool true) ∧ Below w.heap.size w w' := by
  have CA := fun W (hW : Below w.heap.size w W) => Lib.hid (awake_any W (hst.next hW))
  have CR := Lib.hid (right_two s t w 22 hs ht h)
  clear h hst
  go_enter Tryz.func9, Tryz.ntmps9
  go_wp2_with fail
  refine (CR.out).mono ?_
  rintro e w1 ⟨rfl, hb1⟩
  go_wp2_with fail
  refine ((CA _ hb1).out).mono ?_
  rintro e w2 ⟨rfl, hb2⟩
  go_wp2
  go_ret
  exact ⟨rfl, hb1.trans (hb2.mono hb1.size)⟩

/-- What the walk asks of the texts. -/
structure OrdersAt (a b d lo hi gap : ByteArray) (s x y m n z u : Int) (w : World) : Prop where
  right : Calls Tryz.prog 44 #[.slice (some ⟨w.heap.size, 0, none⟩) 2 2] (w.alloc (.cells #[.string a, .string b] 22)) fun e w' => e = .returned (.bool true) ∧ Below w.heap.size w w'
  sub : ∀ W, Below w.heap.size w W → Calls Tryz.prog 27 #[.string a, .string b] W fun e w' => e = .returned (.tuple #[.string d, .int .i64 0]) ∧ Below W.heap.size W w'
  sign : ∀ W, Below w.heap.size w W → Calls Tryz.prog 15 #[.string d] W fun e w' => e = .returned (.tuple #[.int .i64 s, .int .i64 0]) ∧ Below W.heap.size W w'
  cmp1 : ∀ W, Below w.heap.size w W → Calls Tryz.prog 33 #[.string a, .string b] W fun e w' => e = .returned (.tuple #[.int .i64 x, .int .i64 0]) ∧ Below W.heap.size W w'
  cmp2 : ∀ W, Below w.heap.size w W → Calls Tryz.prog 33 #[.string b, .string a] W fun e w' => e = .returned (.tuple #[.int .i64 y, .int .i64 0]) ∧ Below W.heap.size W w'
  floor : ∀ W, Below w.heap.size w W → Calls Tryz.prog 37 #[.string a] W fun e w' => e = .returned (.tuple #[.string lo, .int .i64 0]) ∧ Below W.heap.size W w'
  ceil : ∀ W, Below w.heap.size w W → Calls Tryz.prog 39 #[.string a] W fun e w' => e = .returned (.tuple #[.string hi, .int .i64 0]) ∧ Below W.heap.size W w'
  diff : ∀ W, Below w.heap.size w W → Calls Tryz.prog 27 #[.string hi, .string lo] W fun e w' => e = .returned (.tuple #[.string gap, .int .i64 0]) ∧ Below W.heap.size W w'
  cmp3 : ∀ W, Below w.heap.size w W → Calls Tryz.prog 33 #[.string lo, .string a] W fun e w' => e = .returned (.tuple #[.int .i64 m, .int .i64 0]) ∧ Below W.heap.size W w'
  cmp4 : ∀ W, Below w.heap.size w W → Calls Tryz.prog 33 #[.string a, .string hi] W fun e w' => e = .returned (.tuple #[.int .i64 n, .int .i64 0]) ∧ Below W.heap.size W w'
  small1 : ∀ W, Below w.heap.size w W → Calls Tryz.prog 17 #[.string lo] W fun e w' => e = .returned (.tuple #[.int .i64 z, .int .i64 0]) ∧ Below W.heap.size W w'
  small2 : ∀ W, Below w.heap.size w W → Calls Tryz.prog 17 #[.string hi] W fun e w' => e = .returned (.tuple #[.int .i64 u, .int .i64 0]) ∧ Below W.heap.size W w'
  awake : ∀ W, Below w.heap.size w W → Calls Tryz.prog 12 #[] W fun e w' => e = .returned (.bool true) ∧ Below W.heap.size W w'

set_option maxRecDepth 100000 in
set_option maxHeartbeats 2000000 in
theorem orders_walk (a b d lo hi gap : ByteArray) (s x y m n z u : Int) (w : World) (H : OrdersAt a b d lo hi gap s x y m n z u w)
    (h1 : (s = -1 ∧ x = -1 ∧ y = 1 ∧ (a.toList == b.toList) = false) ∨ (s = 0 ∧ x = 0 ∧ y = 0 ∧ (a.toList == b.toList) = true) ∨ (s = 1 ∧ x = 1 ∧ y = -1 ∧ (a.toList == b.toList) = false))
    (h2 : (m = 0 ∧ n = 0 ∧ (gap.toList == [48]) = true ∧ (lo.toList == a.toList) = true) ∨ (m = -1 ∧ n = -1 ∧ (gap.toList == [48]) = false ∧ (gap.toList == [49]) = true)) :
    Calls Tryz.prog 9 #[.string a, .string b] w fun e w' => e = .returned (.bool true) ∧ Below w.heap.size w w' := by
  obtain ⟨G1, G2, G3, G4, G5, G6, G7, G8, G9, G10, G11, G12, G13⟩ := H
  have C1 := Lib.hid G1
  have C2 := fun W h => Lib.hid (G2 W h)
  have C3 := fun W h => Lib.hid (G3 W h)
  have C4 := fun W h => Lib.hid (G4 W h)
  have C5 := fun W h => Lib.hid (G5 W h)
  have C6 := fun W h => Lib.hid (G6 W h)
  have C7 := fun W h => Lib.hid (G7 W h)
  have C8 := fun W h => Lib.hid (G8 W h)
  have C9 := fun W h => Lib.hid (G9 W h)
  have C10 := fun W h => Lib.hid (G10 W h)
  have C11 := fun W h => Lib.hid (G11 W h)
  have C12 := fun W h => Lib.hid (G12 W h)
  have C13 := fun W h => Lib.hid (G13 W h)
  clear G1 G2 G3 G4 G5 G6 G7 G8 G9 G10 G11 G12 G13
  rcases h1 with ⟨rfl, rfl, rfl, e1⟩ | ⟨rfl, rfl, rfl, e1⟩ | ⟨rfl, rfl, rfl, e1⟩
  all_goals
    rcases h2 with ⟨rfl, rfl, e2, e3⟩ | ⟨rfl, rfl, e2, e3⟩
  all_goals
    go_enter Tryz.func9, Tryz.ntmps9
    go_wp2_with fail
    refine (C1.out).mono ?_
    rintro e w1 ⟨rfl, hb1⟩
    go_wp2_with fail
    refine ((C2 _ hb1).out).mono ?_
    rintro e w2 ⟨rfl, hb2⟩
    have hB2 := hb1.trans (hb2.mono hb1.size)
    go_wp2_with fail
    refine ((C3 _ hB2).out).mono ?_
    rintro e w3 ⟨rfl, hb3⟩
    have hB3 := hB2.trans (hb3.mono hB2.size)
    go_wp2_with fail
    refine ((C4 _ hB3).out).mono ?_
    rintro e w4 ⟨rfl, hb4⟩
    have hB4 := hB3.trans (hb4.mono hB3.size)
    go_wp2_with fail
    refine ((C5 _ hB4).out).mono ?_
    rintro e w5 ⟨rfl, hb5⟩
    have hB5 := hB4.trans (hb5.mono hB4.size)
    go_wp2_with fail
    refine ((C6 _ hB5).out).mono ?_
    rintro e w6 ⟨rfl, hb6⟩
    have hB6 := hB5.trans (hb6.mono hB5.size)
    go_wp2_with fail
    refine ((C7 _ hB6).out).mono ?_
    rintro e w7 ⟨rfl, hb7⟩
    have hB7 := hB6.trans (hb7.mono hB6.size)
    go_wp2_with fail
    refine ((C8 _ hB7).out).mono ?_
    rintro e w8 ⟨rfl, hb8⟩
    have hB8 := hB7.trans (hb8.mono hB7.size)
    go_wp2_with fail
    refine ((C9 _ hB8).out).mono ?_
    rintro e w9 ⟨rfl, hb9⟩
    have hB9 := hB8.trans (hb9.mono hB8.size)
    go_wp2_with fail
    refine ((C10 _ hB9).out).mono ?_
    rintro e w10 ⟨rfl, hb10⟩
    have hB10 := hB9.trans (hb10.mono hB9.size)
    go_wp2_with fail
    refine ((C11 _ hB10).out).mono ?_
    rintro e w11 ⟨rfl, hb11⟩
    have hB11 := hB10.trans (hb11.mono hB10.size)
    go_wp2_with fail
    refine ((C12 _ hB11).out).mono ?_
    rintro e w12 ⟨rfl, hb12⟩
    have hB12 := hB11.trans (hb12.mono hB11.size)
    go_wp2_with fail
    refine ((C13 _ hB12).out).mono ?_
    rintro e w13 ⟨rfl, hb13⟩
    have hB13 := hB12.trans (hb13.mono hB12.size)
    go_wp2
    go_ret
    exact ⟨rfl, hB13⟩

theorem txB_zero : (txB ((0 : Int) : Rat)).toList = [48] := by rw [ByteArray.toList_eq]; decide +kernel
theorem txB_one : (txB ((1 : Int) : Rat)).toList = [49] := by rw [ByteArray.toList_eq]; decide +kernel

theorem lawOrders_any (a b : ByteArray) (w : World) (hst : St w) (hse : StE w) (ha : a.size ≤ 9223372036854775807) (hb : b.size ≤ 9223372036854775807) :
    Calls Tryz.prog 9 #[.string a, .string b] w fun e w' => e = .returned (.bool true) ∧ Below w.heap.size w w' := by
  have h8 := hst.size
  cases h : (okF a && okF b) with
  | false => exact orders_asleep a b w hst ha hb h
  | true =>
    have hr := right_two a b w 22 ha hb h
    rw [Bool.and_eq_true] at h
    obtain ⟨g1, k1⟩ := okF_yes h.1
    obtain ⟨g2, k2⟩ := okF_yes h.2
    generalize Fr.rat a.data.toList = p at *
    generalize Fr.rat b.data.toList = q at *
    subst g1
    subst g2
    have fp := k1.fits (by omega)
    have fq := k2.fits (by omega)
    have kd := k1.sub k2
    have fd := kd.fits (by omega)
    have kz := k1.floor
    have fz := kz.fits (by omega)
    have ku : Fr.Bd ((-((-p).floor) : Int) : Rat) 11 := by rw [Rat.intCast_neg]; exact k1.neg.floor.neg
    have fu := ku.fits (by omega)
    have kg : Fr.Bd (((-((-p).floor) : Int) - p.floor : Int) : Rat) 23 := by rw [Rat.intCast_sub]; exact ku.sub kz
    have fg := kg.fits (by omega)
    have nz := kz.num
    have nu := ku.num
    rw [show ((p.floor : Int) : Rat).num = p.floor from rfl] at nz
    rw [show ((-((-p).floor) : Int) : Rat).num = -((-p).floor) from rfl] at nu
    have H : OrdersAt (txB p) (txB q) (txB (p - q)) (txB (p.floor : Rat)) (txB ((-((-p).floor) : Int) : Rat)) (txB (((-((-p).floor) : Int) - p.floor : Int) : Rat)) (Fr.sgnQ (p - q)) (Fr.cmpQ p q) (Fr.cmpQ q p)
        (Fr.cmpQ (p.floor : Rat) p) (Fr.cmpQ p ((-((-p).floor) : Int) : Rat)) p.floor (-((-p).floor)) w :=
      { right := hr
        sub := fun W hW => sub_tx fp fq fd W (hst.next hW) rfl
        sign := fun W hW => sign_tx fd W (hst.next hW) rfl
        cmp1 := fun W hW => cmp_tx fp fq W (hst.next hW) rfl
        cmp2 := fun W hW => cmp_tx fq fp W (hst.next hW) rfl
        floor := fun W hW => floor_tx fp fz W (hst.next hW) rfl
        ceil := fun W hW => ceil_tx fp fu W (hst.next hW) (Rat.intCast_neg _).symm
        diff := fun W hW => sub_tx fu fz fg W (hst.next hW) (Rat.intCast_sub _ _).symm
        cmp3 := fun W hW => cmp_tx fz fp W (hst.next hW) rfl
        cmp4 := fun W hW => cmp_tx fp fu W (hst.next hW) rfl
        small1 := fun W hW => small_tx _ fz (by omega) (by omega) W (hst.next hW) (hse.below hW h8)
        small2 := fun W hW => small_tx _ fu (by omega) (by omega) W (hst.next hW) (hse.below hW h8)
        awake := fun W hW => awake_any W (hst.next hW) }
    refine orders_walk _ _ _ _ _ _ _ _ _ _ _ _ _ w H ?_ ?_
    · rw [txB_beq]
      rcases Fr.order_ways p q with ⟨_, r2, r3, r4, r5⟩ | ⟨r1, r2, r3, r4⟩ | ⟨_, r2, r3, r4, r5⟩
      · exact .inl ⟨r2, r3, r4, decide_eq_false r5⟩
      · exact .inr (.inl ⟨r2, r3, r4, decide_eq_true r1⟩)
      · exact .inr (.inr ⟨r2, r3, r4, decide_eq_false r5⟩)
    · rw [txB_beq]
      rcases Fr.floor_ways p with ⟨r1, r2, r3, r4⟩ | ⟨r1, r2, r3, r4⟩
      · exact .inl ⟨r3, r4, by rw [r1, txB_zero]; rfl, decide_eq_true r2⟩
      · exact .inr ⟨r3, r4, by rw [r1, txB_one]; rfl, by rw [r1, txB_one]; rfl⟩

end Go.Proofs.YtfphnoihkcnleaaGreatDoor
