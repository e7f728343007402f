/- The contracts of the reference's functions that write numbers: made, and the product of numbers. The contracts of the reference's functions on numbers: turned, upside, product, sum. -/
import Derived.Test.YtldclpdmcopgnaaGreatDoorRm
namespace Go.Proofs.YtldclpdmcopgnaaGreatDoor
open Go.RowKit

theorem rdigits_ren {v : Value} {m p : Nat} {w : World} (hv : IsNat .i64 1000000 w v m p) (hp : p ≤ 900) :
    Calls Tryz.prog 127 #[v] w fun e w' => e = .returned (.string (renB m)) ∧ ∃ n, w' = w.drewN n := rdigits_any hv hp

theorem ren_long {n : Nat} (h : n < 10 ^ 60) : (renB n).size ≤ 60 := render_le (by omega) h
theorem ren_longer {n : Nat} (h : ¬ n < 10 ^ 60) : ¬ (renB n).size ≤ 60 := fun h1 => h ((Fr.render_len n 60 (by omega)).1 h1)
theorem ren_zero_iff (n : Nat) : ((renB n).toList == [48]) = decide (n = 0) := by
  rw [ByteArray.toList_eq, renB_list]
  by_cases h : n = 0
  · subst h; rfl
  · rw [decide_eq_false h, beq_eq_false_iff_ne]
    intro e
    have h1 := Fr.dv_render n
    rw [e] at h1
    exact h h1.symm
theorem ren_size (n p : Nat) (h : n < 1000000 ^ p) (hp : 0 < p) : (renB n).size ≤ 6 * p := by
  refine (Fr.render_len n (6 * p) (by omega)).2 ?_
  rw [Nat.pow_mul]
  exact h

set_option maxRecDepth 100000 in
set_option maxHeartbeats 2000000 in
theorem rmade_any (x : Value) (b : Bool) (m n p : Nat) (w : World) (hx : RNum w x b m n p) (hn : 0 < n) (hp : p ≤ 300) (hp0 : 0 < p) :
    Calls Tryz.prog 101 #[x] w (OutPost w (Fr.out (Fr.num b m n))) := by
  have hparts := Fr.num_parts b m n hn
  have hg0 : 0 < Nat.gcd m n := Nat.gcd_pos_of_pos_right _ hn
  obtain ⟨g, hg⟩ : ∃ g, Nat.gcd m n = g := ⟨_, rfl⟩
  obtain ⟨u1, v1, rfl, hu1, hv1⟩ := hx
  obtain ⟨ua, ul, uc, rfl⟩ := hu1.form
  obtain ⟨va, vl, vc, rfl⟩ := hv1.form
  obtain ⟨q, hq⟩ : ∃ q, Fr.num b m n = q := ⟨_, rfl⟩
  rw [hg] at hparts hg0
  rw [hq] at hparts ⊢
  obtain ⟨A, hA⟩ : ∃ A, m / g = A := ⟨_, rfl⟩
  obtain ⟨D, hD⟩ : ∃ D, n / g = D := ⟨_, rfl⟩
  rw [hA, hD] at hparts
  have hA0' : m = 0 → A = 0 := fun h => by rw [← hA, h, Nat.zero_div]
  have hmp := hu1.lt
  have hnp := hv1.lt
  have sA := ren_size A p (Nat.lt_of_le_of_lt (by rw [← hA]; exact Nat.div_le_self _ _) hmp) hp0
  have sD := ren_size D p (Nat.lt_of_le_of_lt (by rw [← hD]; exact Nat.div_le_self _ _) hnp) hp0
  have CS := fun W (h : Below w.heap.size w W) => Lib.hid (rshared_any _ _ m n p W (hu1.below h (Nat.le_refl _)) (hv1.below h (Nat.le_refl _)) (by omega))
  have CQ1 := fun W (h : Below w.heap.size w W) r (hr : IsNat .i64 1000000 W r g p) => Lib.hid (rquot_any (hu1.below h (Nat.le_refl _)) hr hg0 (by omega) (by omega))
  have CQ2 := fun W (h : Below w.heap.size w W) r (hr : IsNat .i64 1000000 W r g p) => Lib.hid (rquot_any (hv1.below h (Nat.le_refl _)) hr hg0 (by omega) (by omega))
  rw [hg] at CS
  rw [hA] at CQ1
  rw [hD] at CQ2
  have hb0 : ∀ o1, Below w.heap.size w (w.alloc o1) := fun o1 => (Below.refl _ _).alloc (Nat.le_refl _) _
  clear hu1 hv1 hg hA hD hq hmp hnp
  have HA0 := Lib.hid hA0'
  clear hA0'
  have HP := Lib.hid hparts
  clear hparts
  have hway : (¬ A < 10 ^ 60 ∧ Fr.out q = ([], 11)) ∨ (A < 10 ^ 60 ∧ ¬ D < 10 ^ 60 ∧ Fr.out q = ([], 11)) ∨ (A < 10 ^ 60 ∧ D < 10 ^ 60 ∧ Fr.out q = (Fr.text q, 0)) := by
    obtain ⟨e1, e2, _⟩ := HP.out
    unfold Fr.out Fr.fits
    rw [e1, e2]
    by_cases h1 : A < 10 ^ 60
    · by_cases h2 : D < 10 ^ 60
      · exact .inr (.inr ⟨h1, h2, by simp [h1, h2]⟩)
      · exact .inr (.inl ⟨h1, h2, by simp [h2]⟩)
    · exact .inl ⟨h1, by simp [h1]⟩
  go_enter Tryz.func101, Tryz.ntmps101
  go_wp2_with fail
  refine ((CS _ (hb0 _)).out).mono ?_
  rintro e w1 ⟨r1, rfl, hb1, hr1⟩
  have hB1 := (hb0 _).trans (hb1.mono (by simp))
  have hk0 : w1.cell? ⟨w.heap.size, 0, none⟩ = some (.bool b) := (hb1.cell (p := ⟨w.heap.size, 0, none⟩) (by simp)).trans (by simp)
  have hk1 : w1.cell? ⟨w.heap.size, 1, none⟩ = some (.slice ua ul uc) := (hb1.cell (p := ⟨w.heap.size, 1, none⟩) (by simp)).trans (by simp)
  have hk2 : w1.cell? ⟨w.heap.size, 2, none⟩ = some (.slice va vl vc) := (hb1.cell (p := ⟨w.heap.size, 2, none⟩) (by simp)).trans (by simp)
  have hs1 : w.heap.size + 1 ≤ w1.heap.size := by have := hb1.size; simpa using this
  clear hb1
  go_wp2_with fail
  refine ((CQ1 _ hB1 _ hr1).out).mono ?_
  rintro e w2 ⟨r2, t2, rfl, hb2, hr2, _⟩
  have hB2 := hB1.trans (hb2.mono hB1.size)
  have hk20 : w2.cell? ⟨w.heap.size, 0, none⟩ = some (.bool b) := (hb2.cell (p := ⟨w.heap.size, 0, none⟩) (by show w.heap.size < _; omega)).trans hk0
  have hk22 : w2.cell? ⟨w.heap.size, 2, none⟩ = some (.slice va vl vc) := (hb2.cell (p := ⟨w.heap.size, 2, none⟩) (by show w.heap.size < _; omega)).trans hk2
  have hs2 : w1.heap.size ≤ w2.heap.size := hb2.size
  have H1 := hr1.below hb2 (Nat.le_refl _)
  clear hk0 hk1 hk2 hb2
  go_wp2_with fail
  refine ((CQ2 _ hB2 _ H1).out).mono ?_
  rintro e w3 ⟨r3, t3, rfl, hb3, hr3, _⟩
  have hB3 := hB2.trans (hb3.mono hB2.size)
  have hk30 : w3.cell? ⟨w.heap.size, 0, none⟩ = some (.bool b) := (hb3.cell (p := ⟨w.heap.size, 0, none⟩) (by show w.heap.size < _; omega)).trans hk20
  have H2 := hr2.below hb3 (Nat.le_refl _)
  clear hk20 hk22 hb3 H1 hr1 hr2
  go_wp2_with fail
  refine (rdigits_ren H2 (by omega)).mono ?_
  rintro e w4 ⟨rfl, n4, rfl⟩
  go_wp2_with fail
  refine (rdigits_ren (hr3.drewN n4) (by omega)).mono ?_
  rintro e w5 ⟨rfl, n5, rfl⟩
  clear H2 hr3 CS CQ1 CQ2
  rcases hway with ⟨h1, hO⟩ | ⟨h1, h2, hO⟩ | ⟨h1, h2, hO⟩
  · have HO := Lib.hid hO
    have z1 : (60 : Int) < ((renB A).size : Int) := by have := ren_longer h1; omega
    clear hO h1
    go_wp2
    go_ret2
    rw [HO.out]
    exact ⟨rfl, hB3.trans (below_drewN _ _)⟩
  · have HO := Lib.hid hO
    have z1 : ¬ (60 : Int) < ((renB A).size : Int) := by have := ren_long h1; omega
    have z2 : (60 : Int) < ((renB D).size : Int) := by have := ren_longer h2; omega
    clear hO h1 h2
    go_wp2
    go_ret2
    rw [HO.out]
    exact ⟨rfl, hB3.trans (below_drewN _ _)⟩
  · have HO := Lib.hid hO
    have z1 : ¬ (60 : Int) < ((renB A).size : Int) := by have := ren_long h1; omega
    have z2 : ¬ (60 : Int) < ((renB D).size : Int) := by have := ren_long h2; omega
    have hneg : (b = true ∧ A ≠ 0 ∧ q.num < 0) ∨ (b = true ∧ A = 0 ∧ ¬ q.num < 0) ∨ (b = false ∧ ¬ q.num < 0) := by
      obtain ⟨e1, e2, e3⟩ := HP.out
      cases b with
      | false => exact .inr (.inr ⟨rfl, fun h => by have := (e3.1 h).1; cases this⟩)
      | true =>
        by_cases hA0 : A = 0
        · refine .inr (.inl ⟨rfl, hA0, ?_⟩)
          omega
        · refine .inl ⟨rfl, hA0, e3.2 ⟨rfl, ?_⟩⟩
          rcases Nat.eq_zero_or_pos m with hm | hm
          · exfalso
            exact hA0 (HA0.out hm)
          · exact hm
    clear hO h1 h2
    have hD1 : D = 1 ∨ D ≠ 1 := by omega
    have hz := ren_zero_iff A
    rcases hneg with ⟨rfl, hA0, hq⟩ | ⟨rfl, hA0, hq⟩ | ⟨rfl, hq⟩
    · rw [decide_eq_false hA0] at hz
      have HQ := Lib.hid hq
      clear hq hA0
      rcases hD1 with hD1 | hD1
      · have hone := ren_one hD1
        have HD1 := Lib.hid hD1
        clear hD1
        go_wp2
        go_ret2
        rw [HO.out]
        exact ⟨end_text HP.out.1 HP.out.2.1 (by rw [if_pos HQ.out, if_pos HD1.out]; simp [renB_list]), hB3.trans (below_drewN _ _)⟩
      · have hone := ren_more hD1
        have HD1 := Lib.hid hD1
        clear hD1
        go_wp2
        go_ret2
        rw [HO.out]
        exact ⟨end_text HP.out.1 HP.out.2.1 (by rw [if_pos HQ.out, if_neg HD1.out]; simp [renB_list]), hB3.trans (below_drewN _ _)⟩
    · rw [decide_eq_true hA0] at hz
      have HQ := Lib.hid hq
      clear hq hA0
      rcases hD1 with hD1 | hD1
      · have hone := ren_one hD1
        have HD1 := Lib.hid hD1
        clear hD1
        go_wp2
        go_ret2
        rw [HO.out]
        exact ⟨end_text HP.out.1 HP.out.2.1 (by rw [if_neg (Int.not_lt.2 HQ.out), if_pos HD1.out]; simp [renB_list]), hB3.trans (below_drewN _ _)⟩
      · have hone := ren_more hD1
        have HD1 := Lib.hid hD1
        clear hD1
        go_wp2
        go_ret2
        rw [HO.out]
        exact ⟨end_text HP.out.1 HP.out.2.1 (by rw [if_neg (Int.not_lt.2 HQ.out), if_neg HD1.out]; simp [renB_list]), hB3.trans (below_drewN _ _)⟩
    · have HQ := Lib.hid hq
      clear hq hz
      rcases hD1 with hD1 | hD1
      · have hone := ren_one hD1
        have HD1 := Lib.hid hD1
        clear hD1
        go_wp2
        go_ret2
        rw [HO.out]
        exact ⟨end_text HP.out.1 HP.out.2.1 (by rw [if_neg (Int.not_lt.2 HQ.out), if_pos HD1.out]; simp [renB_list]), hB3.trans (below_drewN _ _)⟩
      · have hone := ren_more hD1
        have HD1 := Lib.hid hD1
        clear hD1
        go_wp2
        go_ret2
        rw [HO.out]
        exact ⟨end_text HP.out.1 HP.out.2.1 (by rw [if_neg (Int.not_lt.2 HQ.out), if_neg HD1.out]; simp [renB_list]), hB3.trans (below_drewN _ _)⟩

end Go.Proofs.YtldclpdmcopgnaaGreatDoor

namespace Go.Proofs.YtldclpdmcopgnaaGreatDoor
open Go.RowKit

set_option maxRecDepth 100000 in
theorem rturned_num (x : Value) (b : Bool) (m n p : Nat) (w : World) (h : RNum w x b m n p) :
    Calls Tryz.prog 99 #[x] w (RNumPost w (!b) m n p) := by
  obtain ⟨u, v, rfl, hu, hv⟩ := h
  have hnot := not_run b
  obtain ⟨ua, ul, uc, rfl⟩ := hu.form
  obtain ⟨va, vl, vc, rfl⟩ := hv.form
  have HU := Lib.hid hu
  have HV := Lib.hid hv
  clear hu hv
  go_enter Tryz.func99, Tryz.ntmps99
  go_wp2
  have hbel : ∀ o1 o2, Below w.heap.size w ((w.alloc o1).alloc o2) := fun o1 o2 => ((Below.refl _ _).alloc (Nat.le_refl _) _).alloc (by simp) _
  refine bodyPost_ret (v := .agg #[.bool (!b), .slice ua ul uc, .slice va vl vc]) (by simp [results, Tryz.results99, go_sem]) rfl ⟨_, rfl, hbel _ _, _, _, rfl, HU.out.below (hbel _ _) (Nat.le_refl _), HV.out.below (hbel _ _) (Nat.le_refl _)⟩

set_option maxRecDepth 100000 in
theorem rupside_num (x : Value) (b : Bool) (m n p : Nat) (w : World) (h : RNum w x b m n p) :
    Calls Tryz.prog 135 #[x] w (RNumPost w b n m p) := by
  obtain ⟨u, v, rfl, hu, hv⟩ := h
  obtain ⟨ua, ul, uc, rfl⟩ := hu.form
  obtain ⟨va, vl, vc, rfl⟩ := hv.form
  have HU := Lib.hid hu
  have HV := Lib.hid hv
  clear hu hv
  go_enter Tryz.func135, Tryz.ntmps135
  go_wp2
  have hbel : ∀ o1 o2, Below w.heap.size w ((w.alloc o1).alloc o2) := fun o1 o2 => ((Below.refl _ _).alloc (Nat.le_refl _) _).alloc (by simp) _
  refine bodyPost_ret (v := .agg #[.bool b, .slice va vl vc, .slice ua ul uc]) (by simp [results, Tryz.results135, go_sem]) rfl ⟨_, rfl, hbel _ _, _, _, rfl, HV.out.below (hbel _ _) (Nat.le_refl _), HU.out.below (hbel _ _) (Nat.le_refl _)⟩

set_option maxRecDepth 100000 in
set_option maxHeartbeats 2000000 in
theorem rproduct_num (x y : Value) (b c : Bool) (m n k l p q : Nat) (w : World) (hx : RNum w x b m n p) (hy : RNum w y c k l q) (hn : 0 < n) (hl : 0 < l) (hp : p ≤ 400) (hq : q ≤ 400) :
    Calls Tryz.prog 107 #[x, y] w (RQPost w (Fr.num b m n * Fr.num c k l) (p + q)) := by
  obtain ⟨u1, v1, rfl, hu1, hv1⟩ := hx
  obtain ⟨u2, v2, rfl, hu2, hv2⟩ := hy
  obtain ⟨u1a, u1l, u1c, rfl⟩ := hu1.form
  obtain ⟨v1a, v1l, v1c, rfl⟩ := hv1.form
  obtain ⟨u2a, u2l, u2c, rfl⟩ := hu2.form
  obtain ⟨v2a, v2l, v2c, rfl⟩ := hv2.form
  have C1 := fun W (h : Below w.heap.size w W) => Lib.hid (rtimes_nat (hu1.below h (Nat.le_refl _)) (hu2.below h (Nat.le_refl _)) (by omega) (by omega))
  have C2 := fun W (h : Below w.heap.size w W) => Lib.hid (rtimes_nat (hv1.below h (Nat.le_refl _)) (hv2.below h (Nat.le_refl _)) (by omega) (by omega))
  clear hu1 hv1 hu2 hv2
  have hb0 : ∀ o1 o2 o3, Below w.heap.size w (((w.alloc o1).alloc o2).alloc o3).drew := fun o1 o2 o3 => ((((Below.refl _ _).alloc (Nat.le_refl _) _).alloc (by simp) _).alloc (by simp; omega) _).drew
  go_enter Tryz.func107, Tryz.ntmps107
  go_wp2_with fail
  go_region_held3 (fun W => W.cell? ⟨w.heap.size, 0, none⟩ = some (.bool b) ∧ W.cell? ⟨w.heap.size, 1, none⟩ = some (.slice u1a u1l u1c) ∧ W.cell? ⟨w.heap.size, 2, none⟩ = some (.slice v1a v1l v1c) ∧
      W.cell? ⟨w.heap.size + 1, 0, none⟩ = some (.bool c) ∧ W.cell? ⟨w.heap.size + 1, 1, none⟩ = some (.slice u2a u2l u2c) ∧ W.cell? ⟨w.heap.size + 1, 2, none⟩ = some (.slice v2a v2l v2c))
    (first
      | (go_split_ands; refine ⟨?_, ?_, ?_, ?_, ?_, ?_⟩ <;> (rw [hb2.cell (by simp <;> omega)]; assumption))
      | (go_split_ands; refine ⟨?_, ?_, ?_, ?_, ?_, ?_⟩ <;> (rw [hb1.cell (by simp <;> omega)]; assumption))
      | (go_split_ands; refine ⟨?_, ?_, ?_, ?_, ?_, ?_⟩ <;> (rw [set3 _ _ _ _ (by omega)]; assumption))
      | go_keep)
    (first
      | (go_at_call 124; (with_reducible refine ((C1 _ (hb0 _ _ _)).out).mono ?_); rintro e w1 ⟨r1, rfl, hb1, hr1, hg1⟩; have hB1 := (hb0 _ _ _).trans (hb1.mono (by simp <;> omega)); have hF1 := (fresh_new _ _ _ _).below hb1; have hs1 := hF1.1)
      | (go_at_call 124; (with_reducible refine ((C2 _ (hb0 _ _ _)).out).mono ?_); rintro e w1 ⟨r1, rfl, hb1, hr1, hg1⟩; have hB1 := (hb0 _ _ _).trans (hb1.mono (by simp <;> omega)); have hF1 := (fresh_new _ _ _ _).below hb1; have hs1 := hF1.1)
      | (go_at_call 124; (with_reducible refine ((C1 _ hB1).out).mono ?_); rintro e w2 ⟨r2, rfl, hb2, hr2, hg2⟩; obtain ⟨r1a, r1l, r1c, rfl⟩ := hr1.form; obtain ⟨r2a, r2l, r2c, rfl⟩ := hr2.form; have hF2 := hF1.below hb2; obtain ⟨q0, q1, q2, q3, q4, q5, q6⟩ := hF2)
      | (go_at_call 124; (with_reducible refine ((C2 _ hB1).out).mono ?_); rintro e w2 ⟨r2, rfl, hb2, hr2, hg2⟩; obtain ⟨r1a, r1l, r1c, rfl⟩ := hr1.form; obtain ⟨r2a, r2l, r2c, rfl⟩ := hr2.form; have hF2 := hF1.below hb2; obtain ⟨q0, q1, q2, q3, q4, q5, q6⟩ := hF2))
  go_wp2
  have hB2 := hB1.trans (hb2.mono hB1.size)
  have hfin := ((hB2.setCell (p := ⟨w.heap.size + 1 + 1, 0, none⟩) (by simp; omega) (.bool !(b == c))).setCell (p := ⟨w.heap.size + 1 + 1, 1, none⟩) (by simp; omega) (.slice r1a r1l r1c)).setCell (p := ⟨w.heap.size + 1 + 1, 2, none⟩) (by simp; omega) (.slice r2a r2l r2c)
  have g1 : (Value.slice r1a r1l r1c).ownBlock ≠ some (w.heap.size + 1 + 1) := by rw [hg1]; intro e; have := Option.some.inj e; simp at this
  have g2 : (Value.slice r2a r2l r2c).ownBlock ≠ some (w.heap.size + 1 + 1) := by rw [hg2]; intro e; have := Option.some.inj e; omega
  exact bodyPost_ret (v := .agg #[.bool !(b == c), .slice r1a r1l r1c, .slice r2a r2l r2c]) (by simp [results, Tryz.results107, go_sem, q1, q2, q3]) rfl ⟨_, rfl, hfin, ⟨_, _, _, ⟨_, _, rfl, (((hr1.below hb2 (Nat.le_refl _)).put g1 _).put g1 _).put g1 _, ((hr2.put g2 _).put g2 _).put g2 _⟩, Nat.mul_pos hn hl, Fr.num_mul b c m n k l⟩⟩

set_option maxRecDepth 100000 in
set_option maxHeartbeats 4000000 in
theorem rsum_num (x y : Value) (b c : Bool) (m n k l p q : Nat) (w : World) (hx : RNum w x b m n p) (hy : RNum w y c k l q) (hn : 0 < n) (hl : 0 < l) (hp : p ≤ 200) (hq : q ≤ 200) :
    Calls Tryz.prog 97 #[x, y] w (RQPost w (Fr.num b m n + Fr.num c k l) (2 * (p + q) + 1)) := by
  obtain ⟨u1, v1, rfl, hu1, hv1⟩ := hx
  obtain ⟨u2, v2, rfl, hu2, hv2⟩ := hy
  obtain ⟨u1a, u1l, u1c, rfl⟩ := hu1.form
  obtain ⟨v1a, v1l, v1c, rfl⟩ := hv1.form
  obtain ⟨u2a, u2l, u2c, rfl⟩ := hu2.form
  obtain ⟨v2a, v2l, v2c, rfl⟩ := hv2.form
  have C1 := fun W (h : Below w.heap.size w W) => Lib.hid (rtimes_nat (hu1.below h (Nat.le_refl _)) (hv2.below h (Nat.le_refl _)) (by omega) (by omega))
  have C2 := fun W (h : Below w.heap.size w W) => Lib.hid (rtimes_nat (hu2.below h (Nat.le_refl _)) (hv1.below h (Nat.le_refl _)) (by omega) (by omega))
  have C3 := fun W (h : Below w.heap.size w W) => Lib.hid (rtimes_nat (hv1.below h (Nat.le_refl _)) (hv2.below h (Nat.le_refl _)) (by omega) (by omega))
  clear hu1 hv1 hu2 hv2
  have hb0 : ∀ o1 o2 o3, Below w.heap.size w (((w.alloc o1).alloc o2).alloc o3).drew := fun o1 o2 o3 => ((((Below.refl _ _).alloc (Nat.le_refl _) _).alloc (by simp) _).alloc (by simp; omega) _).drew
  go_enter Tryz.func97, Tryz.ntmps97
  go_wp2_with fail
  go_region_held3 (fun W => W.cell? ⟨w.heap.size, 0, none⟩ = some (.bool b) ∧ W.cell? ⟨w.heap.size, 1, none⟩ = some (.slice u1a u1l u1c) ∧ W.cell? ⟨w.heap.size, 2, none⟩ = some (.slice v1a v1l v1c) ∧
      W.cell? ⟨w.heap.size + 1, 0, none⟩ = some (.bool c) ∧ W.cell? ⟨w.heap.size + 1, 1, none⟩ = some (.slice u2a u2l u2c) ∧ W.cell? ⟨w.heap.size + 1, 2, none⟩ = some (.slice v2a v2l v2c))
    (first
      | (go_split_ands; refine ⟨?_, ?_, ?_, ?_, ?_, ?_⟩ <;> (rw [hb3.cell (by simp <;> omega)]; assumption))
      | (go_split_ands; refine ⟨?_, ?_, ?_, ?_, ?_, ?_⟩ <;> (rw [hb2.cell (by simp <;> omega)]; assumption))
      | (go_split_ands; refine ⟨?_, ?_, ?_, ?_, ?_, ?_⟩ <;> (rw [hb1.cell (by simp <;> omega)]; assumption))
      | go_keep)
    (first
      | (go_at_call 124; (with_reducible refine ((C1 _ (hb0 _ _ _)).out).mono ?_); rintro e w1 ⟨r1, rfl, hb1, hr1, hg1⟩; have hB1 := (hb0 _ _ _).trans (hb1.mono (by simp <;> omega)); have hF1 := (fresh_new _ _ _ _).below hb1; have hs1 := hF1.1)
      | (go_at_call 124; (with_reducible refine ((C2 _ hB1).out).mono ?_); rintro e w2 ⟨r2, rfl, hb2, hr2, hg2⟩; have hB2 := hB1.trans (hb2.mono hB1.size); have hF2 := hF1.below hb2; have hs2 := hF2.1)
      | (go_at_call 124; (with_reducible refine ((C3 _ hB2).out).mono ?_); rintro e w3 ⟨r3, rfl, hb3, hr3, hg3⟩; have hF3 := hF2.below hb3))
  have hB3 := hB2.trans (hb3.mono hB2.size)
  have HF3 := Lib.hid hF3
  have q0 := hF3.1
  have hS : w3.cell? ⟨w.heap.size, 0, none⟩ = some (Value.bool b) ∧ w3.cell? ⟨w.heap.size, 1, none⟩ = some (Value.slice u1a u1l u1c) ∧ w3.cell? ⟨w.heap.size, 2, none⟩ = some (Value.slice v1a v1l v1c) ∧
      w3.cell? ⟨w.heap.size + 1, 0, none⟩ = some (Value.bool c) ∧ w3.cell? ⟨w.heap.size + 1, 1, none⟩ = some (Value.slice u2a u2l u2c) ∧ w3.cell? ⟨w.heap.size + 1, 2, none⟩ = some (Value.slice v2a v2l v2c) := by assumption
  have k1 := hS.1
  have k4 := hS.2.2.2.1
  have H1 := Lib.hid ((hr1.below hb2 (Nat.le_refl _)).below hb3 (Nat.le_refl _))
  have H2 := Lib.hid (hr2.below hb3 (Nat.le_refl _))
  have H3 := Lib.hid hr3
  have HG3 := Lib.hid hg3
  obtain ⟨r3a, r3l, r3c, rfl⟩ := hr3.form
  have hs3 : w2.heap.size ≤ w3.heap.size := hb3.size
  clear hr1 hr2 hr3 hg1 hg2 hg3 C1 C2 C3 hb1 hb2 hb3 hB1 hB2 hF1 hF2 hF3
  cases hbc : (b == c) with
  | true =>
    have hbc2 : b = c := by simpa using hbc
    have CP := Lib.hid (rplus_nat (u := r1) (v := r2) H1.out.drew H2.out.drew (by omega) (by omega))
    have HBC := Lib.hid hbc2
    clear hbc2
    go_wp2_with fail
    go_region_held3 (fun W => W.cell? ⟨w.heap.size, 0, none⟩ = some (.bool b))
      (first | (rw [set3 _ _ _ _ (by omega)]; assumption) | (rw [hb4.cell (by simp <;> omega)]; assumption) | go_keep)
      (first | (go_at_call 125; (with_reducible refine (CP.out).mono ?_); rintro e w4 ⟨r4, rfl, hb4, hr4, hg4⟩; obtain ⟨r4a, r4l, r4c, rfl⟩ := hr4.form; have hF4 : Fresh w4 (w.heap.size + 2) := (by first | exact (HF3.out.drewN _).below hb4 | exact HF3.out.drew.below hb4); obtain ⟨t0, t1, t2, t3, t4, t5, t6⟩ := hF4; have hs4 := hb4.size))
    go_wp2
    have h34 : IsNat .i64 1000000 w4 (.slice r3a r3l r3c) (n * l) (p + q) := by first | exact (H3.out.drewN _).below hb4 (Nat.le_refl _) | exact H3.out.drew.below hb4 (Nat.le_refl _)
    have hB4 := hB3.trans (((Below.refl _ _).drew).trans (hb4.mono (by first | exact hB3.size | (simp; exact hB3.size))))
    have hfin := ((hB4.setCell (p := ⟨w.heap.size + 1 + 1, 0, none⟩) (by simp; omega) (.bool b)).setCell (p := ⟨w.heap.size + 1 + 1, 1, none⟩) (by simp; omega) (.slice r4a r4l r4c)).setCell (p := ⟨w.heap.size + 1 + 1, 2, none⟩) (by simp; omega) (.slice r3a r3l r3c)
    have g4 : (Value.slice r4a r4l r4c).ownBlock ≠ some (w.heap.size + 1 + 1) := hg4 _ (by first | (show _ < w3.heap.size; omega) | (simp; omega))
    have g3 : (Value.slice r3a r3l r3c).ownBlock ≠ some (w.heap.size + 1 + 1) := by rw [HG3.out]; intro e; have := Option.some.inj e; omega
    exact bodyPost_ret (v := .agg #[.bool b, .slice r4a r4l r4c, .slice r3a r3l r3c]) (by simp [results, Tryz.results97, go_sem, t1, t2, t3]) rfl ⟨_, rfl, hfin, ⟨b, _, _, ⟨_, _, rfl, (((hr4.put g4 _).put g4 _).put g4 _).up (by omega), (((h34.put g3 _).put g3 _).put g3 _).up (by omega)⟩, Nat.mul_pos hn hl, by rw [← HBC.out]; exact Fr.num_add_same b m n k l hn hl⟩⟩
  | false =>
    have hbc2 : b ≠ c := by simpa using hbc
    have HBC := Lib.hid hbc2
    clear hbc2
    by_cases hlt : m * l < k * n
    · have CO := Lib.hid (rorder_nat H1.out H2.out (Limb.cmp_lt hlt))
      have CP := fun N => Lib.hid (rless_nat (u := r2) (v := r1) (H2.out.drewN N) (H1.out.drewN N) (by omega) (Nat.le_of_lt hlt))
      have HLT := Lib.hid hlt
      clear hlt
      go_wp2_with (go_at_call 92; refine (CO.out).mono ?_; rintro e w' ⟨rfl, n6, rfl⟩)
      go_region_held3 (fun W => W.cell? ⟨w.heap.size + 1, 0, none⟩ = some (.bool c))
        (first | (rw [set3 _ _ _ _ (by omega)]; assumption) | (rw [hb4.cell (by simp <;> omega)]; assumption) | go_keep)
        (first | (go_at_call 126; (with_reducible refine ((CP _).out).mono ?_); rintro e w4 ⟨r4, rfl, hb4, hr4, hg4⟩; obtain ⟨r4a, r4l, r4c, rfl⟩ := hr4.form; have hF4 : Fresh w4 (w.heap.size + 2) := (by first | exact (HF3.out.drewN _).below hb4 | exact HF3.out.drew.below hb4); obtain ⟨t0, t1, t2, t3, t4, t5, t6⟩ := hF4; have hs4 := hb4.size))
      go_wp2
      have h34 : IsNat .i64 1000000 w4 (.slice r3a r3l r3c) (n * l) (p + q) := by first | exact (H3.out.drewN _).below hb4 (Nat.le_refl _) | exact H3.out.drew.below hb4 (Nat.le_refl _)
      have hB4 := hB3.trans (((below_drewN _ _)).trans (hb4.mono (by first | exact hB3.size | (simp; exact hB3.size))))
      have hfin := ((hB4.setCell (p := ⟨w.heap.size + 1 + 1, 0, none⟩) (by simp; omega) (.bool c)).setCell (p := ⟨w.heap.size + 1 + 1, 1, none⟩) (by simp; omega) (.slice r4a r4l r4c)).setCell (p := ⟨w.heap.size + 1 + 1, 2, none⟩) (by simp; omega) (.slice r3a r3l r3c)
      have g4 : (Value.slice r4a r4l r4c).ownBlock ≠ some (w.heap.size + 1 + 1) := hg4 _ (by first | (show _ < w3.heap.size; omega) | (simp; omega))
      have g3 : (Value.slice r3a r3l r3c).ownBlock ≠ some (w.heap.size + 1 + 1) := by rw [HG3.out]; intro e; have := Option.some.inj e; omega
      exact bodyPost_ret (v := .agg #[.bool c, .slice r4a r4l r4c, .slice r3a r3l r3c]) (by simp [results, Tryz.results97, go_sem, t1, t2, t3]) rfl ⟨_, rfl, hfin, ⟨c, _, _, ⟨_, _, rfl, (((hr4.put g4 _).put g4 _).put g4 _).up (by omega), (((h34.put g3 _).put g3 _).put g3 _).up (by omega)⟩, Nat.mul_pos hn hl, Fr.num_add_less b c m n k l hn hl HBC.out (Nat.le_of_lt HLT.out)⟩⟩
    · obtain ⟨cc, hc⟩ : ∃ cc, Limb.cmpN (m * l) (k * n) = cc := ⟨_, rfl⟩
      have hc0 : 0 ≤ cc := by rw [← Int.not_lt, ← hc, Limb.cmp_lt_zero]; exact hlt
      have CO := Lib.hid (rorder_nat H1.out H2.out hc)
      have CP := fun N => Lib.hid (rless_nat (u := r1) (v := r2) (H1.out.drewN N) (H2.out.drewN N) (by omega) (Nat.le_of_not_lt hlt))
      have HLT := Lib.hid (Nat.le_of_not_lt hlt)
      clear hlt hc
      go_wp2_with (go_at_call 92; refine (CO.out).mono ?_; rintro e w' ⟨rfl, n6, rfl⟩)
      go_region_held3 (fun W => W.cell? ⟨w.heap.size, 0, none⟩ = some (.bool b))
        (first | (rw [set3 _ _ _ _ (by omega)]; assumption) | (rw [hb4.cell (by simp <;> omega)]; assumption) | go_keep)
        (first | (go_at_call 126; (with_reducible refine ((CP _).out).mono ?_); rintro e w4 ⟨r4, rfl, hb4, hr4, hg4⟩; obtain ⟨r4a, r4l, r4c, rfl⟩ := hr4.form; have hF4 : Fresh w4 (w.heap.size + 2) := (by first | exact (HF3.out.drewN _).below hb4 | exact HF3.out.drew.below hb4); obtain ⟨t0, t1, t2, t3, t4, t5, t6⟩ := hF4; have hs4 := hb4.size))
      go_wp2
      have h34 : IsNat .i64 1000000 w4 (.slice r3a r3l r3c) (n * l) (p + q) := by first | exact (H3.out.drewN _).below hb4 (Nat.le_refl _) | exact H3.out.drew.below hb4 (Nat.le_refl _)
      have hB4 := hB3.trans (((below_drewN _ _)).trans (hb4.mono (by first | exact hB3.size | (simp; exact hB3.size))))
      have hfin := ((hB4.setCell (p := ⟨w.heap.size + 1 + 1, 0, none⟩) (by simp; omega) (.bool b)).setCell (p := ⟨w.heap.size + 1 + 1, 1, none⟩) (by simp; omega) (.slice r4a r4l r4c)).setCell (p := ⟨w.heap.size + 1 + 1, 2, none⟩) (by simp; omega) (.slice r3a r3l r3c)
      have g4 : (Value.slice r4a r4l r4c).ownBlock ≠ some (w.heap.size + 1 + 1) := hg4 _ (by first | (show _ < w3.heap.size; omega) | (simp; omega))
      have g3 : (Value.slice r3a r3l r3c).ownBlock ≠ some (w.heap.size + 1 + 1) := by rw [HG3.out]; intro e; have := Option.some.inj e; omega
      exact bodyPost_ret (v := .agg #[.bool b, .slice r4a r4l r4c, .slice r3a r3l r3c]) (by simp [results, Tryz.results97, go_sem, t1, t2, t3]) rfl ⟨_, rfl, hfin, ⟨b, _, _, ⟨_, _, rfl, (((hr4.put g4 _).put g4 _).put g4 _).up (by omega), (((h34.put g3 _).put g3 _).put g3 _).up (by omega)⟩, Nat.mul_pos hn hl, Fr.num_add_more b c m n k l hn hl HBC.out HLT.out⟩⟩


theorem rturned_q {x : Value} {q : Rat} {p : Nat} {w : World} (h : RQ w x q p) : Calls Tryz.prog 99 #[x] w (RQPost w (-q) p) := by
  obtain ⟨b, m, n, h1, h2, rfl⟩ := h
  exact (rturned_num x b m n p w h1).mono fun e w' ⟨y, r1, r2, r3⟩ => ⟨y, r1, r2, _, _, _, r3, h2, Fr.num_neg b m n⟩
theorem rproduct_q {x y : Value} {p q : Rat} {k l : Nat} {w : World} (hx : RQ w x p k) (hy : RQ w y q l) (hk : k ≤ 400) (hl : l ≤ 400) : Calls Tryz.prog 107 #[x, y] w (RQPost w (p * q) (k + l)) := by
  obtain ⟨b, m, n, h1, h2, rfl⟩ := hx
  obtain ⟨c, m', n', h3, h4, rfl⟩ := hy
  exact rproduct_num x y b c m n m' n' k l w h1 h3 h2 h4 hk hl
theorem rsum_q {x y : Value} {p q : Rat} {k l : Nat} {w : World} (hx : RQ w x p k) (hy : RQ w y q l) (hk : k ≤ 200) (hl : l ≤ 200) : Calls Tryz.prog 97 #[x, y] w (RQPost w (p + q) (2 * (k + l) + 1)) := by
  obtain ⟨b, m, n, h1, h2, rfl⟩ := hx
  obtain ⟨c, m', n', h3, h4, rfl⟩ := hy
  exact rsum_num x y b c m n m' n' k l w h1 h3 h2 h4 hk hl
theorem rmade_q {x : Value} {q : Rat} {p : Nat} {w : World} (h : RQ w x q p) (hp : p ≤ 300) (hp0 : 0 < p) : Calls Tryz.prog 101 #[x] w (OutPost w (Fr.out q)) := by
  obtain ⟨b, m, n, h1, h2, rfl⟩ := h
  exact rmade_any x b m n p w h1 h2 hp hp0
theorem inv_num (b : Bool) (m n : Nat) (hm : 0 < m) (hn : 0 < n) : Fr.num b n m = (Fr.num b m n)⁻¹ := by
  have h := Fr.num_div false b 1 1 m n hm hn
  have e1 : Fr.num false 1 1 = 1 := rfl
  rw [e1, Rat.div_def, Rat.one_mul, Nat.one_mul, Nat.one_mul] at h
  rw [← h]
  cases b <;> rfl
theorem rupside_q {x : Value} {q : Rat} {p : Nat} {w : World} (h : RQ w x q p) (hq : q ≠ 0) : Calls Tryz.prog 135 #[x] w (RQPost w q⁻¹ p) := by
  obtain ⟨b, m, n, h1, h2, rfl⟩ := h
  have hm : 0 < m := Nat.pos_of_ne_zero fun h => hq ((Fr.num_eq_zero b m n h2).2 h)
  exact (rupside_num x b m n p w h1).mono fun e w' ⟨y, r1, r2, r3⟩ => ⟨y, r1, r2, _, _, _, r3, hm, inv_num b m n hm h2⟩

end Go.Proofs.YtldclpdmcopgnaaGreatDoor

