/- The contract of the function of package fraction that writes a quotient as a fraction. -/
import Derived.Test.YtfphnoihkcnleaaGreatDoorPe
namespace Go.Proofs.YtfphnoihkcnleaaGreatDoor
open Go.RowKit

def renB (n : Nat) : ByteArray := ⟨(Fr.render n).toArray⟩
theorem renB_list (n : Nat) : (renB n).data.toList = Fr.render n := rfl
theorem text_ren (v : Value) (n p : Nat) (w : World) (hv : IsNat .u32 1000000000 w v n p) (hp : p ≤ 1000) :
    Calls Tryz.prog 104 #[v] w fun e w' => e = .returned (.string (renB n)) ∧ Below w.heap.size w w' :=
  text_any (fun s w => Tryz.strings_TrimLeft_one s 48 (by decide) w) v n p w hv hp

theorem isLong_ren (n : Nat) : Fr.isLong (Fr.render n) = !decide (n < 10 ^ 60) := by
  unfold Fr.isLong
  rw [Fr.bare_digs (Fr.render_all n)]
  have h := Fr.render_len n 60 (by omega)
  by_cases hn : n < 10 ^ 60
  · have := h.2 hn
    simp [hn]; omega
  · have h2 : ¬ (Fr.render n).length ≤ 60 := fun h3 => hn (h.1 h3)
    simp [hn]; omega

theorem render_le {n k : Nat} (hk : 0 < k) (h : n < 10 ^ k) : (renB n).size ≤ k := (Fr.render_len n k hk).2 h

theorem long_yes (n : Nat) (h : ¬ n < 10 ^ 60) (w : World) : Calls Tryz.prog 85 #[.string (renB n)] w fun e w' => e = .returned (.bool true) ∧ w = w' := by
  have h1 := isLong_any (renB n) w
  rw [renB_list, isLong_ren, decide_eq_false h] at h1
  exact h1
theorem long_no (n : Nat) (h : n < 10 ^ 60) (w : World) : Calls Tryz.prog 85 #[.string (renB n)] w fun e w' => e = .returned (.bool false) ∧ w = w' := by
  have h1 := isLong_any (renB n) w
  rw [renB_list, isLong_ren, decide_eq_true h] at h1
  exact h1
theorem ren_one {n : Nat} (h : n = 1) : ((renB n).toList == [49]) = true := by subst h; rw [ByteArray.toList_eq]; decide
theorem ren_more {n : Nat} (h : n ≠ 1) : ((renB n).toList == [49]) = false := by
  rw [ByteArray.toList_eq, renB_list, beq_eq_false_iff_ne]
  intro e
  have h1 := Fr.dv_render n
  rw [e] at h1
  exact h h1.symm

theorem bytes_eq {s : ByteArray} {l : List UInt8} (h : s.data.toList = l) : s = ⟨l.toArray⟩ := by
  subst h
  rfl
theorem end_text {q : Rat} {A D : Nat} {s : ByteArray} (hA : q.num.natAbs = A) (hD : q.den = D) (h : s.data.toList = (if q.num < 0 then [45] else []) ++ Fr.render A ++ (if D = 1 then [] else 47 :: Fr.render D)) :
    Ending.returned (.tuple #[.string s, .int .i64 0]) = .returned (.tuple #[.string ⟨(Fr.text q).toArray⟩, .int .i64 0]) := by
  subst hA
  subst hD
  rw [bytes_eq (s := s) (l := Fr.text q) h]

/-- What is returned: a text and an error. -/
def OutPost (w : World) (o : List UInt8 × Int) (e : Ending) (w' : World) : Prop := e = .returned (.tuple #[.string ⟨o.1.toArray⟩, .int .i64 o.2]) ∧ Below w.heap.size w w'

set_option maxRecDepth 100000 in
set_option maxHeartbeats 2000000 in
theorem frac_any (x : Value) (b : Bool) (m n p : Nat) (w : World) (hx : RatIs w x b m n p) (hn : 0 < n) (hp : p ≤ 300) :
    Calls Tryz.prog 76 #[x] w (OutPost w (Fr.out (Fr.num b m n))) := by
  have hparts := Fr.num_parts b m n hn
  have hg0 : 0 < Nat.gcd m n := Nat.gcd_pos_of_pos_right _ hn
  obtain ⟨g, hg⟩ : ∃ g, Nat.gcd m n = g := ⟨_, rfl⟩
  have CS := fun W (h : Below w.heap.size w W) => Lib.hid (sign_any x b m n p W (hx.below h (Nat.le_refl _)))
  obtain ⟨u1, v1, rfl, hu1, hv1⟩ := hx
  obtain ⟨u1a, u1l, u1c, rfl⟩ := hu1.form
  obtain ⟨v1a, v1l, v1c, rfl⟩ := hv1.form
  rw [hg] at hparts hg0
  have CG := fun W (h : Below w.heap.size w W) => Lib.hid (show Calls Tryz.prog 91 _ W (fun e w' => ∃ r, e = .returned r ∧ Below W.heap.size W w' ∧ IsNat .u32 1000000000 w' r g p) by rw [← hg]; exact common_any _ _ m n p W (hu1.below h (Nat.le_refl _)) (hv1.below h (Nat.le_refl _)) (by omega))
  have CA := fun W (h : Below w.heap.size w W) G (hG : IsNat .u32 1000000000 W G g p) => Lib.hid (over_any _ G m g p p W (hu1.below h (Nat.le_refl _)) hG (by omega) (by omega) hg0)
  have CB := fun W (h : Below w.heap.size w W) G (hG : IsNat .u32 1000000000 W G g p) => Lib.hid (over_any _ G n g p p W (hv1.below h (Nat.le_refl _)) hG (by omega) (by omega) hg0)
  have HP := Lib.hid hparts
  have HM := Lib.hid hg
  clear hu1 hv1 hg hparts
  obtain ⟨A, hA⟩ : ∃ A, m / g = A := ⟨_, rfl⟩
  obtain ⟨D, hD⟩ : ∃ D, n / g = D := ⟨_, rfl⟩
  rw [hA, hD] at HP
  have hb0 : ∀ o1, Below w.heap.size w (w.alloc o1) := fun o1 => (Below.refl _ _).alloc (Nat.le_refl _) _
  go_enter Tryz.func76, Tryz.ntmps76
  go_wp2_with fail
  refine ((CG _ (hb0 _)).out).mono ?_
  rintro e w1 ⟨G, rfl, hb1, hG⟩
  have hB1 := (hb0 _).trans (hb1.mono (by simp <;> omega))
  have k0 : w1.cell? ⟨w.heap.size, 0, none⟩ = some (.bool b) := (hb1.cell (p := ⟨w.heap.size, 0, none⟩) (by simp <;> omega)).trans (by simp)
  have k1 : w1.cell? ⟨w.heap.size, 1, none⟩ = some (.slice u1a u1l u1c) := (hb1.cell (p := ⟨w.heap.size, 1, none⟩) (by simp <;> omega)).trans (by simp)
  have k2 : w1.cell? ⟨w.heap.size, 2, none⟩ = some (.slice v1a v1l v1c) := (hb1.cell (p := ⟨w.heap.size, 2, none⟩) (by simp <;> omega)).trans (by simp)
  have hs1 : w.heap.size < w1.heap.size := by have := hb1.size; simp at this; omega
  have C1 := CA _ hB1 G hG
  rw [hA] at C1
  go_wp2_with fail
  refine (C1.out).mono ?_
  rintro e w2 ⟨a2, s2, rfl, hb2, ha2, _⟩
  have hB2 := hB1.trans (hb2.mono hB1.size)
  have m0 := (hb2.cell (p := ⟨w.heap.size, 0, none⟩) hs1).trans k0
  have m1 := (hb2.cell (p := ⟨w.heap.size, 1, none⟩) hs1).trans k1
  have m2 := (hb2.cell (p := ⟨w.heap.size, 2, none⟩) hs1).trans k2
  have hs2 : w.heap.size < w2.heap.size := Nat.lt_of_lt_of_le hs1 hb2.size
  have C2 := CB _ hB2 G (hG.below hb2 (Nat.le_refl _))
  rw [hD] at C2
  clear k0 k1 k2
  go_wp2_with fail
  refine (C2.out).mono ?_
  rintro e w3 ⟨a3, s3, rfl, hb3, ha3, _⟩
  have hB3 := hB2.trans (hb3.mono hB2.size)
  have k0 := (hb3.cell (p := ⟨w.heap.size, 0, none⟩) hs2).trans m0
  have k1 := (hb3.cell (p := ⟨w.heap.size, 1, none⟩) hs2).trans m1
  have k2 := (hb3.cell (p := ⟨w.heap.size, 2, none⟩) hs2).trans m2
  have hs3 : w.heap.size < w3.heap.size := Nat.lt_of_lt_of_le hs2 hb3.size
  clear m0 m1 m2 CA CB C1 C2 CG
  go_wp2_with fail
  refine (text_ren a2 A (p + 1) w3 (ha2.below hb3 (Nat.le_refl _)) (by omega)).mono ?_
  rintro e w4 ⟨rfl, hb4⟩
  go_wp2_with fail
  refine (text_ren a3 D (p + 1) w4 (ha3.below hb4 (Nat.le_refl _)) (by omega)).mono ?_
  rintro e w5 ⟨rfl, hb5⟩
  have hB4 := hB3.trans (hb4.mono hB3.size)
  have hB5 := hB4.trans (hb5.mono hB4.size)
  have hb45 := hb4.trans (hb5.mono hb4.size)
  have m0 := (hb45.cell (p := ⟨w.heap.size, 0, none⟩) hs3).trans k0
  have m1 := (hb45.cell (p := ⟨w.heap.size, 1, none⟩) hs3).trans k1
  have m2 := (hb45.cell (p := ⟨w.heap.size, 2, none⟩) hs3).trans k2
  have CSx := CS _ hB5
  clear k0 k1 k2 ha2 ha3 hb4 hb5 hb45 hb1 hb2 hb3 hB1 hB2 hB3 hB4 hG CS
  by_cases ha : A < 10 ^ 60
  · by_cases hd : D < 10 ^ 60
    · have hfit : Fr.fits (Fr.num b m n) = true := by unfold Fr.fits; rw [HP.out.1, HP.out.2.1, decide_eq_true ha, decide_eq_true hd]; rfl
      have la := render_le (by omega) ha
      have ld := render_le (by omega) hd
      have LA := Lib.hid (long_no A ha)
      have LD := Lib.hid (long_no D hd)
      have HO := Lib.hid (show Fr.out (Fr.num b m n) = (Fr.text (Fr.num b m n), 0) by unfold Fr.out; rw [if_pos hfit])
      obtain ⟨sv, hsv⟩ : ∃ sv : Int, (if m = 0 then 0 else if b then -1 else 1) = sv := ⟨_, rfl⟩
      rw [hsv] at CSx
      have hD1 : D = 1 ∨ D ≠ 1 := by omega
      by_cases hneg : b = true ∧ 0 < m
      · have hs : sv = -1 := by rw [← hsv, if_neg (by omega), if_pos hneg.1]
        have hs0 : sv < 0 := by omega
        have HN := Lib.hid (show (Fr.num b m n).num < 0 from HP.out.2.2.2 hneg)
        clear hsv hs hneg ha hd hfit hA hD
        rcases hD1 with hD1 | hD1
        · have hone := ren_one hD1
          have HD1 := Lib.hid hD1
          clear hD1
          go_wp2_with (first
            | (go_at_call 85; (with_reducible refine (LA.out _).mono ?_); rintro e w' ⟨rfl, rfl⟩)
            | (go_at_call 85; (with_reducible refine (LD.out _).mono ?_); rintro e w' ⟨rfl, rfl⟩)
            | (go_at_call 52; refine (CSx.out).mono ?_; rintro e w6 ⟨rfl, hb6⟩))
          go_ret2
          rw [HO.out]
          exact ⟨end_text HP.out.1 HP.out.2.1 (by rw [if_pos HN.out, if_pos HD1.out]; simp [renB_list]), hB5.trans (hb6.mono hB5.size)⟩
        · have hone := ren_more hD1
          have HD1 := Lib.hid hD1
          clear hD1
          go_wp2_with (first
            | (go_at_call 85; (with_reducible refine (LA.out _).mono ?_); rintro e w' ⟨rfl, rfl⟩)
            | (go_at_call 85; (with_reducible refine (LD.out _).mono ?_); rintro e w' ⟨rfl, rfl⟩)
            | (go_at_call 52; refine (CSx.out).mono ?_; rintro e w6 ⟨rfl, hb6⟩))
          go_ret2
          rw [HO.out]
          exact ⟨end_text HP.out.1 HP.out.2.1 (by rw [if_pos HN.out, if_neg HD1.out]; simp [renB_list]), hB5.trans (hb6.mono hB5.size)⟩
      · have hs0 : ¬ sv < 0 := by
          rw [← hsv]
          by_cases hm : m = 0
          · rw [if_pos hm]; omega
          · rw [if_neg hm, if_neg (fun hb => hneg ⟨hb, by omega⟩)]; omega
        have HN := Lib.hid (show 0 ≤ (Fr.num b m n).num from Int.not_lt.1 fun h => hneg (HP.out.2.2.1 h))
        clear hsv hneg ha hd hfit hA hD
        rcases hD1 with hD1 | hD1
        · have hone := ren_one hD1
          have HD1 := Lib.hid hD1
          clear hD1
          go_wp2_with (first
            | (go_at_call 85; (with_reducible refine (LA.out _).mono ?_); rintro e w' ⟨rfl, rfl⟩)
            | (go_at_call 85; (with_reducible refine (LD.out _).mono ?_); rintro e w' ⟨rfl, rfl⟩)
            | (go_at_call 52; refine (CSx.out).mono ?_; rintro e w6 ⟨rfl, hb6⟩))
          go_ret2
          rw [HO.out]
          exact ⟨end_text HP.out.1 HP.out.2.1 (by rw [if_neg (Int.not_lt.2 HN.out), if_pos HD1.out]; simp [renB_list]), hB5.trans (hb6.mono hB5.size)⟩
        · have hone := ren_more hD1
          have HD1 := Lib.hid hD1
          clear hD1
          go_wp2_with (first
            | (go_at_call 85; (with_reducible refine (LA.out _).mono ?_); rintro e w' ⟨rfl, rfl⟩)
            | (go_at_call 85; (with_reducible refine (LD.out _).mono ?_); rintro e w' ⟨rfl, rfl⟩)
            | (go_at_call 52; refine (CSx.out).mono ?_; rintro e w6 ⟨rfl, hb6⟩))
          go_ret2
          rw [HO.out]
          exact ⟨end_text HP.out.1 HP.out.2.1 (by rw [if_neg (Int.not_lt.2 HN.out), if_neg HD1.out]; simp [renB_list]), hB5.trans (hb6.mono hB5.size)⟩
    · have hfit : Fr.fits (Fr.num b m n) = false := by unfold Fr.fits; rw [HP.out.1, HP.out.2.1, decide_eq_false hd]; simp
      have LA := Lib.hid (long_no A ha)
      have LD := Lib.hid (long_yes D hd)
      have HO := Lib.hid (show Fr.out (Fr.num b m n) = ([], 11) by unfold Fr.out; rw [hfit]; rfl)
      clear ha hd hfit hA hD CSx
      go_wp2_with (first
        | (go_at_call 85; (with_reducible refine (LA.out _).mono ?_); rintro e w' ⟨rfl, rfl⟩)
        | (go_at_call 85; (with_reducible refine (LD.out _).mono ?_); rintro e w' ⟨rfl, rfl⟩))
      go_ret2
      rw [HO.out]
      exact ⟨rfl, hB5⟩
  · have hfit : Fr.fits (Fr.num b m n) = false := by unfold Fr.fits; rw [HP.out.1, decide_eq_false ha]; rfl
    have LA := Lib.hid (long_yes A ha)
    have HO := Lib.hid (show Fr.out (Fr.num b m n) = ([], 11) by unfold Fr.out; rw [hfit]; rfl)
    clear ha hfit hA hD CSx
    go_wp2_with (go_at_call 85; (with_reducible refine (LA.out _).mono ?_); rintro e w' ⟨rfl, rfl⟩)
    go_ret2
    rw [HO.out]
    exact ⟨rfl, hB5⟩

end Go.Proofs.YtfphnoihkcnleaaGreatDoor
