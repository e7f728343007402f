/- The contracts of the reference's functions that write numbers: made, and the product of numbers. The contracts of the reference's functions on numbers: turned, upside, product, sum. -/
import Derived.Test.YtmmcakeedejbnacDoorRm
namespace Go.Proofs.YtmmcakeedejbnacDoor
open Go.RowKit

theorem rdigits_ren {v : Value} {m p : Nat} {w : World} (hv : IsNat .i64 1000000 w v m p) (hp : p ≤ 900) :
    Calls Tryd.prog 59 #[v] w fun e w' => e = .returned (.string (renB m)) ∧ ∃ n, w' = w.drewN n := rdigits_any hv hp

theorem ren_long {n : Nat} (h : n < 10 ^ 60) : (renB n).size ≤ 60 := render_le (by omega) h
theorem ren_longer {n : Nat} (h : ¬ n < 10 ^ 60) : ¬ (renB n).size ≤ 60 := fun h1 => h ((Fr.render_len n 60 (by omega)).1 h1)
theorem ren_zero_iff (n : Nat) : ((renB n).toList == [48]) = decide (n = 0) := by
  rw [ByteArray.toList_eq, renB_list]
  by_cases h : n = 0
  · subst h; rfl
  · rw [decide_eq_false h, beq_eq_false_iff_ne]
    intro e
    have h1 := Fr.dv_render n
    rw [e] at h1
    exact h h1.symm
theorem ren_size (n p : Nat) (h : n < 1000000 ^ p) (hp : 0 < p) : (renB n).size ≤ 6 * p := by
  refine (Fr.render_len n (6 * p) (by omega)).2 ?_
  rw [Nat.pow_mul]
  exact h

set_option maxRecDepth 100000 in
set_option maxHeartbeats 2000000 in
theorem rmade_any (x : Value) (b : Bool) (m n p : Nat) (w : World) (hx : RNum w x b m n p) (hn : 0 < n) (hp : p ≤ 300) (hp0 : 0 < p) :
    Calls Tryd.prog 77 #[x] w (OutPost w (Fr.out (Fr.num b m n))) := by
  have hparts := Fr.num_parts b m n hn
  have hg0 : 0 < Nat.gcd m n := Nat.gcd_pos_of_pos_right _ hn
  obtain ⟨g, hg⟩ : ∃ g, Nat.gcd m n = g := ⟨_, rfl⟩
  obtain ⟨u1, v1, rfl, hu1, hv1⟩ := hx
  obtain ⟨ua, ul, uc, rfl⟩ := hu1.form
  obtain ⟨va, vl, vc, rfl⟩ := hv1.form
  obtain ⟨q, hq⟩ : ∃ q, Fr.num b m n = q := ⟨_, rfl⟩
  rw [hg] at hparts hg0
  rw [hq] at hparts ⊢
  obtain ⟨A, hA⟩ : ∃ A, m / g = A := ⟨_, rfl⟩
  obtain ⟨D, hD⟩ : ∃ D, n / g = D := ⟨_, rfl⟩
  rw [hA, hD] at hparts
  have hA0' : m = 0 → A = 0 := fun h => by rw [← hA, h, Nat.zero_div]
  have hmp := hu1.lt
  have hnp := hv1.lt
  have sA := ren_size A p (Nat.lt_of_le_of_lt (by rw [← hA]; exact Nat.div_le_self _ _) hmp) hp0
  have sD := ren_size D p (Nat.lt_of_le_of_lt (by rw [← hD]; exact Nat.div_le_self _ _) hnp) hp0
  have CS := fun W (h : Below w.heap.size w W) => Lib.hid (rshared_any _ _ m n p W (hu1.below h (Nat.le_refl _)) (hv1.below h (Nat.le_refl _)) (by omega))
  have CQ1 := fun W (h : Below w.heap.size w W) r (hr : IsNat .i64 1000000 W r g p) => Lib.hid (rquot_any (hu1.below h (Nat.le_refl _)) hr hg0 (by omega) (by omega))
  have CQ2 := fun W (h : Below w.heap.size w W) r (hr : IsNat .i64 1000000 W r g p) => Lib.hid (rquot_any (hv1.below h (Nat.le_refl _)) hr hg0 (by omega) (by omega))
  rw [hg] at CS
  rw [hA] at CQ1
  rw [hD] at CQ2
  have hb0 : ∀ o1, Below w.heap.size w (w.alloc o1) := fun o1 => (Below.refl _ _).alloc (Nat.le_refl _) _
  clear hu1 hv1 hg hA hD hq hmp hnp
  have HA0 := Lib.hid hA0'
  clear hA0'
  have HP := Lib.hid hparts
  clear hparts
  have hway : (¬ A < 10 ^ 60 ∧ Fr.out q = ([], 11)) ∨ (A < 10 ^ 60 ∧ ¬ D < 10 ^ 60 ∧ Fr.out q = ([], 11)) ∨ (A < 10 ^ 60 ∧ D < 10 ^ 60 ∧ Fr.out q = (Fr.text q, 0)) := by
    obtain ⟨e1, e2, _⟩ := HP.out
    unfold Fr.out Fr.fits
    rw [e1, e2]
    by_cases h1 : A < 10 ^ 60
    · by_cases h2 : D < 10 ^ 60
      · exact .inr (.inr ⟨h1, h2, by simp [h1, h2]⟩)
      · exact .inr (.inl ⟨h1, h2, by simp [h2]⟩)
    · exact .inl ⟨h1, by simp [h1]⟩
  go_enter Tryd.func77, Tryd.ntmps77
  go_wp2_with fail
  refine ((CS _ (hb0 _)).out).mono ?_
  rintro e w1 ⟨r1, rfl, hb1, hr1⟩
  have hB1 := (hb0 _).trans (hb1.mono (by simp))
  have hk0 : w1.cell? ⟨w.heap.size, 0, none⟩ = some (.bool b) := (hb1.cell (p := ⟨w.heap.size, 0, none⟩) (by simp)).trans (by simp)
  have hk1 : w1.cell? ⟨w.heap.size, 1, none⟩ = some (.slice ua ul uc) := (hb1.cell (p := ⟨w.heap.size, 1, none⟩) (by simp)).trans (by simp)
  have hk2 : w1.cell? ⟨w.heap.size, 2, none⟩ = some (.slice va vl vc) := (hb1.cell (p := ⟨w.heap.size, 2, none⟩) (by simp)).trans (by simp)
  have hs1 : w.heap.size + 1 ≤ w1.heap.size := by have := hb1.size; simpa using this
  clear hb1
  go_wp2_with fail
  refine ((CQ1 _ hB1 _ hr1).out).mono ?_
  rintro e w2 ⟨r2, t2, rfl, hb2, hr2, _⟩
  have hB2 := hB1.trans (hb2.mono hB1.size)
  have hk20 : w2.cell? ⟨w.heap.size, 0, none⟩ = some (.bool b) := (hb2.cell (p := ⟨w.heap.size, 0, none⟩) (by show w.heap.size < _; omega)).trans hk0
  have hk22 : w2.cell? ⟨w.heap.size, 2, none⟩ = some (.slice va vl vc) := (hb2.cell (p := ⟨w.heap.size, 2, none⟩) (by show w.heap.size < _; omega)).trans hk2
  have hs2 : w1.heap.size ≤ w2.heap.size := hb2.size
  have H1 := hr1.below hb2 (Nat.le_refl _)
  clear hk0 hk1 hk2 hb2
  go_wp2_with fail
  refine ((CQ2 _ hB2 _ H1).out).mono ?_
  rintro e w3 ⟨r3, t3, rfl, hb3, hr3, _⟩
  have hB3 := hB2.trans (hb3.mono hB2.size)
  have hk30 : w3.cell? ⟨w.heap.size, 0, none⟩ = some (.bool b) := (hb3.cell (p := ⟨w.heap.size, 0, none⟩) (by show w.heap.size < _; omega)).trans hk20
  have H2 := hr2.below hb3 (Nat.le_refl _)
  clear hk20 hk22 hb3 H1 hr1 hr2
  go_wp2_with fail
  refine (rdigits_ren H2 (by omega)).mono ?_
  rintro e w4 ⟨rfl, n4, rfl⟩
  go_wp2_with fail
  refine (rdigits_ren (hr3.drewN n4) (by omega)).mono ?_
  rintro e w5 ⟨rfl, n5, rfl⟩
  clear H2 hr3 CS CQ1 CQ2
  rcases hway with ⟨h1, hO⟩ | ⟨h1, h2, hO⟩ | ⟨h1, h2, hO⟩
  · have HO := Lib.hid hO
    have z1 : (60 : Int) < ((renB A).size : Int) := by have := ren_longer h1; omega
    clear hO h1
    go_wp2
    go_ret2
    rw [HO.out]
    exact ⟨rfl, hB3.trans (below_drewN _ _)⟩
  · have HO := Lib.hid hO
    have z1 : ¬ (60 : Int) < ((renB A).size : Int) := by have := ren_long h1; omega
    have z2 : (60 : Int) < ((renB D).size : Int) := by have := ren_longer h2; omega
    clear hO h1 h2
    go_wp2
    go_ret2
    rw [HO.out]
    exact ⟨rfl, hB3.trans (below_drewN _ _)⟩
  · have HO := Lib.hid hO
    have z1 : ¬ (60 : Int) < ((renB A).size : Int) := by have := ren_long h1; omega
    have z2 : ¬ (60 : Int) < ((renB D).size : Int) := by have := ren_long h2; omega
    have hneg : (b = true ∧ A ≠ 0 ∧ q.num < 0) ∨ (b = true ∧ A = 0 ∧ ¬ q.num < 0) ∨ (b = false ∧ ¬ q.num < 0) := by
      obtain ⟨e1, e2, e3⟩ := HP.out
      cases b with
      | false => exact .inr (.inr ⟨rfl, fun h => by have := (e3.1 h).1; cases this⟩)
      | true =>
        by_cases hA0 : A = 0
        · refine .inr (.inl ⟨rfl, hA0, ?_⟩)
          omega
        · refine .inl ⟨rfl, hA0, e3.2 ⟨rfl, ?_⟩⟩
          rcases Nat.eq_zero_or_pos m with hm | hm
          · exfalso
            exact hA0 (HA0.out hm)
          · exact hm
    clear hO h1 h2
    have hD1 : D = 1 ∨ D ≠ 1 := by omega
    have hz := ren_zero_iff A
    rcases hneg with ⟨rfl, hA0, hq⟩ | ⟨rfl, hA0, hq⟩ | ⟨rfl, hq⟩
    · rw [decide_eq_false hA0] at hz
      have HQ := Lib.hid hq
      clear hq hA0
      rcases hD1 with hD1 | hD1
      · have hone := ren_one hD1
        have HD1 := Lib.hid hD1
        clear hD1
        go_wp2
        go_ret2
        rw [HO.out]
        exact ⟨end_text HP.out.1 HP.out.2.1 (by rw [if_pos HQ.out, if_pos HD1.out]; simp [renB_list]), hB3.trans (below_drewN _ _)⟩
      · have hone := ren_more hD1
        have HD1 := Lib.hid hD1
        clear hD1
        go_wp2
        go_ret2
        rw [HO.out]
        exact ⟨end_text HP.out.1 HP.out.2.1 (by rw [if_pos HQ.out, if_neg HD1.out]; simp [renB_list]), hB3.trans (below_drewN _ _)⟩
    · rw [decide_eq_true hA0] at hz
      have HQ := Lib.hid hq
      clear hq hA0
      rcases hD1 with hD1 | hD1
      · have hone := ren_one hD1
        have HD1 := Lib.hid hD1
        clear hD1
        go_wp2
        go_ret2
        rw [HO.out]
        exact ⟨end_text HP.out.1 HP.out.2.1 (by rw [if_neg (Int.not_lt.2 HQ.out), if_pos HD1.out]; simp [renB_list]), hB3.trans (below_drewN _ _)⟩
      · have hone := ren_more hD1
        have HD1 := Lib.hid hD1
        clear hD1
        go_wp2
        go_ret2
        rw [HO.out]
        exact ⟨end_text HP.out.1 HP.out.2.1 (by rw [if_neg (Int.not_lt.2 HQ.out), if_neg HD1.out]; simp [renB_list]), hB3.trans (below_drewN _ _)⟩
    · have HQ := Lib.hid hq
      clear hq hz
      rcases hD1 with hD1 | hD1
      · have hone := ren_one hD1
        have HD1 := Lib.hid hD1
        clear hD1
        go_wp2
        go_ret2
        rw [HO.out]
        exact ⟨end_text HP.out.1 HP.out.2.1 (by rw [if_neg (Int.not_lt.2 HQ.out), if_pos HD1.out]; simp [renB_list]), hB3.trans (below_drewN _ _)⟩
      · have hone := ren_more hD1
        have HD1 := Lib.hid hD1
        clear hD1
        go_wp2
        go_ret2
        rw [HO.out]
        exact ⟨end_text HP.out.1 HP.out.2.1 (by rw [if_neg (Int.not_lt.2 HQ.out), if_neg HD1.out]; simp [renB_list]), hB3.trans (below_drewN _ _)⟩

end Go.Proofs.YtmmcakeedejbnacDoor

namespace Go.Proofs.YtmmcakeedejbnacDoor
open Go.RowKit

theorem rmade_q {x : Value} {q : Rat} {p : Nat} {w : World} (h : RQ w x q p) (hp : p ≤ 300) (hp0 : 0 < p) : Calls Tryd.prog 77 #[x] w (OutPost w (Fr.out q)) := by
  obtain ⟨b, m, n, h1, h2, rfl⟩ := h
  exact rmade_any x b m n p w h1 h2 hp hp0
theorem inv_num (b : Bool) (m n : Nat) (hm : 0 < m) (hn : 0 < n) : Fr.num b n m = (Fr.num b m n)⁻¹ := by
  have h := Fr.num_div false b 1 1 m n hm hn
  have e1 : Fr.num false 1 1 = 1 := rfl
  rw [e1, Rat.div_def, Rat.one_mul, Nat.one_mul, Nat.one_mul] at h
  rw [← h]
  cases b <;> rfl
end Go.Proofs.YtmmcakeedejbnacDoor

