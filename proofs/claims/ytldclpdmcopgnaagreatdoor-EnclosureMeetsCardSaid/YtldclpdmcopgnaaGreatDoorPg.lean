/- The contracts of the functions of package fraction on quotients: subtract, floor, integer. The contract of the function of package fraction that writes a quotient as a fraction. The contracts of the functions of package fraction that read fractions: split, parse. -/
import Derived.Test.YtldclpdmcopgnaaGreatDoorPd
import Derived.WalkSmall
namespace Go.Proofs.YtldclpdmcopgnaaGreatDoor
open Go.RowKit

theorem RatIs.drewN {w : World} {x : Value} {b : Bool} {m n p : Nat} (h : RatIs w x b m n p) (N : Nat) : RatIs (w.drewN N) x b m n p := by
  obtain ⟨u, v, h1, h2, h3⟩ := h
  exact ⟨u, v, h1, h2.drewN N, h3.drewN N⟩
theorem ne_of_lt {v : Value} {g h : Nat} (hv : ∀ t, t < h → v.ownBlock ≠ some t) (hg : g < h) : v.ownBlock ≠ some g := hv g hg

set_option maxRecDepth 100000 in
set_option maxHeartbeats 4000000 in
theorem subtract_any (x y : Value) (b c : Bool) (m n k l p q : Nat) (w : World) (hx : RatIs w x b m n p) (hy : RatIs w y c k l q) (hn : 0 < n) (hl : 0 < l) (hp : p ≤ 200) (hq : q ≤ 200) :
    Calls Tryz.prog 123 #[x, y] w (QPost w (Fr.num b m n - Fr.num c k l) (p + q + 1)) := by
  have CO := fun W (h : Below w.heap.size w W) => Lib.hid (opposite_any y c k l q W (hy.below h (Nat.le_refl _)))
  have CA := fun W (h : Below w.heap.size w W) z (hz : RatIs W z (!c) k l q) => Lib.hid (add_any x z b (!c) m n k l p q W (hx.below h (Nat.le_refl _)) hz hn hl hp hq)
  obtain ⟨u1, v1, rfl, hu1, hv1⟩ := hx
  obtain ⟨u2, v2, rfl, hu2, hv2⟩ := hy
  obtain ⟨u1a, u1l, u1c, rfl⟩ := hu1.form
  obtain ⟨v1a, v1l, v1c, rfl⟩ := hv1.form
  obtain ⟨u2a, u2l, u2c, rfl⟩ := hu2.form
  obtain ⟨v2a, v2l, v2c, rfl⟩ := hv2.form
  clear hu1 hv1 hu2 hv2
  have hb0 : ∀ o1 o2 o3, Below w.heap.size w (((w.alloc o1).alloc o2).alloc o3).drew := fun o1 o2 o3 => ((((Below.refl _ _).alloc (Nat.le_refl _) _).alloc (by simp) _).alloc (by simp; omega) _).drew
  go_enter Tryz.func123, Tryz.ntmps123
  go_wp2_with fail
  go_region_held3 (fun W => W.cell? ⟨w.heap.size, 0, none⟩ = some (.bool b) ∧ W.cell? ⟨w.heap.size, 1, none⟩ = some (.slice u1a u1l u1c) ∧ W.cell? ⟨w.heap.size, 2, none⟩ = some (.slice v1a v1l v1c) ∧
      W.cell? ⟨w.heap.size + 1, 0, none⟩ = some (.bool c) ∧ W.cell? ⟨w.heap.size + 1, 1, none⟩ = some (.slice u2a u2l u2c) ∧ W.cell? ⟨w.heap.size + 1, 2, none⟩ = some (.slice v2a v2l v2c))
    (first
      | (go_split_ands; refine ⟨?_, ?_, ?_, ?_, ?_, ?_⟩ <;> (rw [hb2.cell (by simp <;> omega)]; assumption))
      | (go_split_ands; refine ⟨?_, ?_, ?_, ?_, ?_, ?_⟩ <;> (rw [hb1.cell (by simp <;> omega)]; assumption))
      | (go_split_ands; refine ⟨?_, ?_, ?_, ?_, ?_, ?_⟩ <;> (rw [set3 _ _ _ _ (by omega)]; assumption))
      | go_keep)
    (first
      | (go_at_call 136; (with_reducible refine ((CO _ (hb0 _ _ _)).out).mono ?_); rintro e w1 ⟨z, rfl, hb1, hz⟩; have hB1 := (hb0 _ _ _).trans (hb1.mono (by simp <;> omega)); have hF1 := (fresh_new _ _ _ _).below hb1; have hs1 := hF1.1)
      | (go_at_call 139; (with_reducible refine ((CA _ hB1 _ hz).out).mono ?_); rintro e w2 ⟨r, rfl, hb2, hr, hnew⟩; obtain ⟨d, rm, rn, ⟨ru, rv, rfl, hru, hrv⟩, hrn, hrq⟩ := hr; have g1 := (hnew _ _ _ rfl (w.heap.size + 1 + 1) (by omega)).1; have g2 := (hnew _ _ _ rfl (w.heap.size + 1 + 1) (by omega)).2; obtain ⟨rua, rul, ruc, rfl⟩ := hru.form; obtain ⟨rva, rvl, rvc, rfl⟩ := hrv.form; have hF2 := hF1.below hb2; obtain ⟨q0, q1, q2, q3, q4, q5, q6⟩ := hF2))
  go_wp2
  have hB2 := hB1.trans (hb2.mono hB1.size)
  have hfin := ((hB2.setCell (p := ⟨w.heap.size + 1 + 1, 0, none⟩) (by simp; omega) (.bool d)).setCell (p := ⟨w.heap.size + 1 + 1, 1, none⟩) (by simp; omega) (.slice rua rul ruc)).setCell (p := ⟨w.heap.size + 1 + 1, 2, none⟩) (by simp; omega) (.slice rva rvl rvc)
  refine bodyPost_ret (v := .agg #[.bool d, .slice rua rul ruc, .slice rva rvl rvc]) (by simp [results, Tryz.results123, go_sem, q1, q2, q3]) rfl ⟨_, rfl, hfin, ⟨_, _, _, ⟨_, _, rfl, ((hru.put g1 _).put g1 _).put g1 _, ((hrv.put g2 _).put g2 _).put g2 _⟩, hrn, ?_⟩, ?_⟩
  · rw [hrq, Fr.num_neg, Rat.sub_eq_add_neg]
  · intro b' u' v' he t ht
    exact hnew b' u' v' he t (by omega)

theorem one_digs : ((ByteArray.mk #[49]).data.toList.all Fr.isDig) = true := by decide
theorem one_any (w : World) : Calls Tryz.prog 117 #[.string ⟨#[49]⟩] w fun e w' => ∃ r, e = .returned r ∧ Below w.heap.size w w' ∧ IsNat .u32 1000000000 w' r 1 1 ∧ ∀ g, g < w.heap.size → r.ownBlock ≠ some g :=
  (read_own ⟨#[49]⟩ w (by decide) one_digs).mono fun _ _ ⟨r, h1, h2, h3, h4⟩ => ⟨r, h1, h2, h3, h4⟩

def IntPost (w : World) (b : Bool) (m p : Nat) (e : Ending) (w' : World) : Prop := ∃ x, e = .returned x ∧ Below w.heap.size w w' ∧ RatIs w' x b m 1 p ∧ Newer w.heap.size x

theorem fresh_lt {W : World} {g : Nat} (h : Fresh W g) : g < W.heap.size := h.1

set_option maxRecDepth 100000 in
set_option maxHeartbeats 1000000 in
theorem integer_any (s : ByteArray) (w : World) (hs : s.size ≤ 900) (hd : (Fr.bare s.data.toList).all Fr.isDig = true) :
    Calls Tryz.prog 116 #[.string s] w (IntPost w (Fr.isNeg s.data.toList) (Fr.dv (Fr.bare s.data.toList)) 120) := by
  have hsz : (bareB s).size ≤ 900 := by
    have h1 : (bareB s).size = (Fr.bare s.data.toList).length := by simp [bareB, ByteArray.size]
    have h2 : (Fr.bare s.data.toList).length ≤ s.data.toList.length := by
      cases s.data.toList with
      | nil => exact Nat.le_refl _
      | cons c l => simp only [Fr.bare]; split <;> simp
    have h3 : s.data.toList.length = s.size := rfl
    omega
  have CR := fun W => Lib.hid (read_own (bareB s) W (by omega) hd)
  have CC := Lib.hid (cutPrefix_any s)
  have hl := bareB_list s
  have HL := Lib.hid hl
  clear hl hd
  generalize Fr.isNeg s.data.toList = b at *
  generalize bareB s = d at *
  go_enter Tryz.func116, Tryz.ntmps116
  go_wp2_with (first
    | (go_at_call 145; refine (CC.out _).mono ?_; rintro e w' ⟨rfl, rfl⟩)
    | (go_at_call 117; (with_reducible refine ((CR _).out).mono ?_); rintro e w1 ⟨r1, rfl, hb1, hr1, hn1⟩; have hF1 := (fresh_one w _).below hb1)
    | (go_at_call 117; refine (one_any _).mono ?_; rintro e w2 ⟨r2, rfl, hb2, hr2, hn2⟩; obtain ⟨r1a, r1l, r1c, rfl⟩ := hr1.form; obtain ⟨r2a, r2l, r2c, rfl⟩ := hr2.form; have hF2 := hF1.below hb2; obtain ⟨q0, q1, q2, q3, q4, q5, q6⟩ := hF2))
  have hB1 : Below w.heap.size w w1 := ((Below.refl _ _).alloc (Nat.le_refl _) _).trans (hb1.mono (by simp))
  have hB2 := hB1.trans (hb2.mono hB1.size)
  have hfin := ((hB2.setCell (p := ⟨w.heap.size, 0, none⟩) (Nat.le_refl _) (.bool b)).setCell (p := ⟨w.heap.size, 1, none⟩) (Nat.le_refl _) (.slice r1a r1l r1c)).setCell (p := ⟨w.heap.size, 2, none⟩) (Nat.le_refl _) (.slice r2a r2l r2c)
  have g1 := hn1 w.heap.size (by simp)
  have g2 := hn2 w.heap.size hF1.1
  refine bodyPost_ret (v := .agg #[.bool b, .slice r1a r1l r1c, .slice r2a r2l r2c]) (by simp [results, Tryz.results116, go_sem, q1, q2, q3]) rfl ⟨_, rfl, hfin, ⟨_, _, rfl, ((((hr1.below hb2 (Nat.le_refl _)).put g1 _).put g1 _).put g1 _).up (by omega) |> (HL.out ▸ ·), (((hr2.put g2 _).put g2 _).put g2 _).up (by omega)⟩, ?_⟩
  intro b' u' v' he t ht
  cases he
  exact ⟨hn1 t (by simp; omega), hn2 t (by have := hF1.1; omega)⟩

end Go.Proofs.YtldclpdmcopgnaaGreatDoor

namespace Go.Proofs.YtldclpdmcopgnaaGreatDoor
open Go.RowKit

def renB (n : Nat) : ByteArray := ⟨(Fr.render n).toArray⟩
theorem renB_list (n : Nat) : (renB n).data.toList = Fr.render n := rfl
theorem text_ren (v : Value) (n p : Nat) (w : World) (hv : IsNat .u32 1000000000 w v n p) (hp : p ≤ 1000) :
    Calls Tryz.prog 143 #[v] w fun e w' => e = .returned (.string (renB n)) ∧ Below w.heap.size w w' :=
  text_any (fun s w => Tryz.strings_TrimLeft_one s 48 (by decide) w) v n p w hv hp

theorem isLong_ren (n : Nat) : Fr.isLong (Fr.render n) = !decide (n < 10 ^ 60) := by
  unfold Fr.isLong
  rw [Fr.bare_digs (Fr.render_all n)]
  have h := Fr.render_len n 60 (by omega)
  by_cases hn : n < 10 ^ 60
  · have := h.2 hn
    simp [hn]; omega
  · have h2 : ¬ (Fr.render n).length ≤ 60 := fun h3 => hn (h.1 h3)
    simp [hn]; omega

theorem render_le {n k : Nat} (hk : 0 < k) (h : n < 10 ^ k) : (renB n).size ≤ k := (Fr.render_len n k hk).2 h

theorem long_yes (n : Nat) (h : ¬ n < 10 ^ 60) (w : World) : Calls Tryz.prog 115 #[.string (renB n)] w fun e w' => e = .returned (.bool true) ∧ w = w' := by
  have h1 := isLong_any (renB n) w
  rw [renB_list, isLong_ren, decide_eq_false h] at h1
  exact h1
theorem long_no (n : Nat) (h : n < 10 ^ 60) (w : World) : Calls Tryz.prog 115 #[.string (renB n)] w fun e w' => e = .returned (.bool false) ∧ w = w' := by
  have h1 := isLong_any (renB n) w
  rw [renB_list, isLong_ren, decide_eq_true h] at h1
  exact h1
theorem ren_one {n : Nat} (h : n = 1) : ((renB n).toList == [49]) = true := by subst h; rw [ByteArray.toList_eq]; decide
theorem ren_more {n : Nat} (h : n ≠ 1) : ((renB n).toList == [49]) = false := by
  rw [ByteArray.toList_eq, renB_list, beq_eq_false_iff_ne]
  intro e
  have h1 := Fr.dv_render n
  rw [e] at h1
  exact h h1.symm

theorem bytes_eq {s : ByteArray} {l : List UInt8} (h : s.data.toList = l) : s = ⟨l.toArray⟩ := by
  subst h
  rfl
theorem end_text {q : Rat} {A D : Nat} {s : ByteArray} (hA : q.num.natAbs = A) (hD : q.den = D) (h : s.data.toList = (if q.num < 0 then [45] else []) ++ Fr.render A ++ (if D = 1 then [] else 47 :: Fr.render D)) :
    Ending.returned (.tuple #[.string s, .int .i64 0]) = .returned (.tuple #[.string ⟨(Fr.text q).toArray⟩, .int .i64 0]) := by
  subst hA
  subst hD
  rw [bytes_eq (s := s) (l := Fr.text q) h]

/-- What is returned: a text and an error. -/
def OutPost (w : World) (o : List UInt8 × Int) (e : Ending) (w' : World) : Prop := e = .returned (.tuple #[.string ⟨o.1.toArray⟩, .int .i64 o.2]) ∧ Below w.heap.size w w'

set_option maxRecDepth 100000 in
set_option maxHeartbeats 2000000 in
theorem frac_any (x : Value) (b : Bool) (m n p : Nat) (w : World) (hx : RatIs w x b m n p) (hn : 0 < n) (hp : p ≤ 300) :
    Calls Tryz.prog 112 #[x] w (OutPost w (Fr.out (Fr.num b m n))) := by
  have hparts := Fr.num_parts b m n hn
  have hg0 : 0 < Nat.gcd m n := Nat.gcd_pos_of_pos_right _ hn
  obtain ⟨g, hg⟩ : ∃ g, Nat.gcd m n = g := ⟨_, rfl⟩
  have CS := fun W (h : Below w.heap.size w W) => Lib.hid (sign_any x b m n p W (hx.below h (Nat.le_refl _)))
  obtain ⟨u1, v1, rfl, hu1, hv1⟩ := hx
  obtain ⟨u1a, u1l, u1c, rfl⟩ := hu1.form
  obtain ⟨v1a, v1l, v1c, rfl⟩ := hv1.form
  rw [hg] at hparts hg0
  have CG := fun W (h : Below w.heap.size w W) => Lib.hid (show Calls Tryz.prog 119 _ W (fun e w' => ∃ r, e = .returned r ∧ Below W.heap.size W w' ∧ IsNat .u32 1000000000 w' r g p) by rw [← hg]; exact common_any _ _ m n p W (hu1.below h (Nat.le_refl _)) (hv1.below h (Nat.le_refl _)) (by omega))
  have CA := fun W (h : Below w.heap.size w W) G (hG : IsNat .u32 1000000000 W G g p) => Lib.hid (over_any _ G m g p p W (hu1.below h (Nat.le_refl _)) hG (by omega) (by omega) hg0)
  have CB := fun W (h : Below w.heap.size w W) G (hG : IsNat .u32 1000000000 W G g p) => Lib.hid (over_any _ G n g p p W (hv1.below h (Nat.le_refl _)) hG (by omega) (by omega) hg0)
  have HP := Lib.hid hparts
  have HM := Lib.hid hg
  clear hu1 hv1 hg hparts
  obtain ⟨A, hA⟩ : ∃ A, m / g = A := ⟨_, rfl⟩
  obtain ⟨D, hD⟩ : ∃ D, n / g = D := ⟨_, rfl⟩
  rw [hA, hD] at HP
  have hb0 : ∀ o1, Below w.heap.size w (w.alloc o1) := fun o1 => (Below.refl _ _).alloc (Nat.le_refl _) _
  go_enter Tryz.func112, Tryz.ntmps112
  go_wp2_with fail
  refine ((CG _ (hb0 _)).out).mono ?_
  rintro e w1 ⟨G, rfl, hb1, hG⟩
  have hB1 := (hb0 _).trans (hb1.mono (by simp <;> omega))
  have k0 : w1.cell? ⟨w.heap.size, 0, none⟩ = some (.bool b) := (hb1.cell (p := ⟨w.heap.size, 0, none⟩) (by simp <;> omega)).trans (by simp)
  have k1 : w1.cell? ⟨w.heap.size, 1, none⟩ = some (.slice u1a u1l u1c) := (hb1.cell (p := ⟨w.heap.size, 1, none⟩) (by simp <;> omega)).trans (by simp)
  have k2 : w1.cell? ⟨w.heap.size, 2, none⟩ = some (.slice v1a v1l v1c) := (hb1.cell (p := ⟨w.heap.size, 2, none⟩) (by simp <;> omega)).trans (by simp)
  have hs1 : w.heap.size < w1.heap.size := by have := hb1.size; simp at this; omega
  have C1 := CA _ hB1 G hG
  rw [hA] at C1
  go_wp2_with fail
  refine (C1.out).mono ?_
  rintro e w2 ⟨a2, s2, rfl, hb2, ha2, _⟩
  have hB2 := hB1.trans (hb2.mono hB1.size)
  have m0 := (hb2.cell (p := ⟨w.heap.size, 0, none⟩) hs1).trans k0
  have m1 := (hb2.cell (p := ⟨w.heap.size, 1, none⟩) hs1).trans k1
  have m2 := (hb2.cell (p := ⟨w.heap.size, 2, none⟩) hs1).trans k2
  have hs2 : w.heap.size < w2.heap.size := Nat.lt_of_lt_of_le hs1 hb2.size
  have C2 := CB _ hB2 G (hG.below hb2 (Nat.le_refl _))
  rw [hD] at C2
  clear k0 k1 k2
  go_wp2_with fail
  refine (C2.out).mono ?_
  rintro e w3 ⟨a3, s3, rfl, hb3, ha3, _⟩
  have hB3 := hB2.trans (hb3.mono hB2.size)
  have k0 := (hb3.cell (p := ⟨w.heap.size, 0, none⟩) hs2).trans m0
  have k1 := (hb3.cell (p := ⟨w.heap.size, 1, none⟩) hs2).trans m1
  have k2 := (hb3.cell (p := ⟨w.heap.size, 2, none⟩) hs2).trans m2
  have hs3 : w.heap.size < w3.heap.size := Nat.lt_of_lt_of_le hs2 hb3.size
  clear m0 m1 m2 CA CB C1 C2 CG
  go_wp2_with fail
  refine (text_ren a2 A (p + 1) w3 (ha2.below hb3 (Nat.le_refl _)) (by omega)).mono ?_
  rintro e w4 ⟨rfl, hb4⟩
  go_wp2_with fail
  refine (text_ren a3 D (p + 1) w4 (ha3.below hb4 (Nat.le_refl _)) (by omega)).mono ?_
  rintro e w5 ⟨rfl, hb5⟩
  have hB4 := hB3.trans (hb4.mono hB3.size)
  have hB5 := hB4.trans (hb5.mono hB4.size)
  have hb45 := hb4.trans (hb5.mono hb4.size)
  have m0 := (hb45.cell (p := ⟨w.heap.size, 0, none⟩) hs3).trans k0
  have m1 := (hb45.cell (p := ⟨w.heap.size, 1, none⟩) hs3).trans k1
  have m2 := (hb45.cell (p := ⟨w.heap.size, 2, none⟩) hs3).trans k2
  have CSx := CS _ hB5
  clear k0 k1 k2 ha2 ha3 hb4 hb5 hb45 hb1 hb2 hb3 hB1 hB2 hB3 hB4 hG CS
  by_cases ha : A < 10 ^ 60
  · by_cases hd : D < 10 ^ 60
    · have hfit : Fr.fits (Fr.num b m n) = true := by unfold Fr.fits; rw [HP.out.1, HP.out.2.1, decide_eq_true ha, decide_eq_true hd]; rfl
      have la := render_le (by omega) ha
      have ld := render_le (by omega) hd
      have LA := Lib.hid (long_no A ha)
      have LD := Lib.hid (long_no D hd)
      have HO := Lib.hid (show Fr.out (Fr.num b m n) = (Fr.text (Fr.num b m n), 0) by unfold Fr.out; rw [if_pos hfit])
      obtain ⟨sv, hsv⟩ : ∃ sv : Int, (if m = 0 then 0 else if b then -1 else 1) = sv := ⟨_, rfl⟩
      rw [hsv] at CSx
      have hD1 : D = 1 ∨ D ≠ 1 := by omega
      by_cases hneg : b = true ∧ 0 < m
      · have hs : sv = -1 := by rw [← hsv, if_neg (by omega), if_pos hneg.1]
        have hs0 : sv < 0 := by omega
        have HN := Lib.hid (show (Fr.num b m n).num < 0 from HP.out.2.2.2 hneg)
        clear hsv hs hneg ha hd hfit hA hD
        rcases hD1 with hD1 | hD1
        · have hone := ren_one hD1
          have HD1 := Lib.hid hD1
          clear hD1
          go_wp2_with (first
            | (go_at_call 115; (with_reducible refine (LA.out _).mono ?_); rintro e w' ⟨rfl, rfl⟩)
            | (go_at_call 115; (with_reducible refine (LD.out _).mono ?_); rintro e w' ⟨rfl, rfl⟩)
            | (go_at_call 88; refine (CSx.out).mono ?_; rintro e w6 ⟨rfl, hb6⟩))
          go_ret2
          rw [HO.out]
          exact ⟨end_text HP.out.1 HP.out.2.1 (by rw [if_pos HN.out, if_pos HD1.out]; simp [renB_list]), hB5.trans (hb6.mono hB5.size)⟩
        · have hone := ren_more hD1
          have HD1 := Lib.hid hD1
          clear hD1
          go_wp2_with (first
            | (go_at_call 115; (with_reducible refine (LA.out _).mono ?_); rintro e w' ⟨rfl, rfl⟩)
            | (go_at_call 115; (with_reducible refine (LD.out _).mono ?_); rintro e w' ⟨rfl, rfl⟩)
            | (go_at_call 88; refine (CSx.out).mono ?_; rintro e w6 ⟨rfl, hb6⟩))
          go_ret2
          rw [HO.out]
          exact ⟨end_text HP.out.1 HP.out.2.1 (by rw [if_pos HN.out, if_neg HD1.out]; simp [renB_list]), hB5.trans (hb6.mono hB5.size)⟩
      · have hs0 : ¬ sv < 0 := by
          rw [← hsv]
          by_cases hm : m = 0
          · rw [if_pos hm]; omega
          · rw [if_neg hm, if_neg (fun hb => hneg ⟨hb, by omega⟩)]; omega
        have HN := Lib.hid (show 0 ≤ (Fr.num b m n).num from Int.not_lt.1 fun h => hneg (HP.out.2.2.1 h))
        clear hsv hneg ha hd hfit hA hD
        rcases hD1 with hD1 | hD1
        · have hone := ren_one hD1
          have HD1 := Lib.hid hD1
          clear hD1
          go_wp2_with (first
            | (go_at_call 115; (with_reducible refine (LA.out _).mono ?_); rintro e w' ⟨rfl, rfl⟩)
            | (go_at_call 115; (with_reducible refine (LD.out _).mono ?_); rintro e w' ⟨rfl, rfl⟩)
            | (go_at_call 88; refine (CSx.out).mono ?_; rintro e w6 ⟨rfl, hb6⟩))
          go_ret2
          rw [HO.out]
          exact ⟨end_text HP.out.1 HP.out.2.1 (by rw [if_neg (Int.not_lt.2 HN.out), if_pos HD1.out]; simp [renB_list]), hB5.trans (hb6.mono hB5.size)⟩
        · have hone := ren_more hD1
          have HD1 := Lib.hid hD1
          clear hD1
          go_wp2_with (first
            | (go_at_call 115; (with_reducible refine (LA.out _).mono ?_); rintro e w' ⟨rfl, rfl⟩)
            | (go_at_call 115; (with_reducible refine (LD.out _).mono ?_); rintro e w' ⟨rfl, rfl⟩)
            | (go_at_call 88; refine (CSx.out).mono ?_; rintro e w6 ⟨rfl, hb6⟩))
          go_ret2
          rw [HO.out]
          exact ⟨end_text HP.out.1 HP.out.2.1 (by rw [if_neg (Int.not_lt.2 HN.out), if_neg HD1.out]; simp [renB_list]), hB5.trans (hb6.mono hB5.size)⟩
    · have hfit : Fr.fits (Fr.num b m n) = false := by unfold Fr.fits; rw [HP.out.1, HP.out.2.1, decide_eq_false hd]; simp
      have LA := Lib.hid (long_no A ha)
      have LD := Lib.hid (long_yes D hd)
      have HO := Lib.hid (show Fr.out (Fr.num b m n) = ([], 11) by unfold Fr.out; rw [hfit]; rfl)
      clear ha hd hfit hA hD CSx
      go_wp2_with (first
        | (go_at_call 115; (with_reducible refine (LA.out _).mono ?_); rintro e w' ⟨rfl, rfl⟩)
        | (go_at_call 115; (with_reducible refine (LD.out _).mono ?_); rintro e w' ⟨rfl, rfl⟩))
      go_ret2
      rw [HO.out]
      exact ⟨rfl, hB5⟩
  · have hfit : Fr.fits (Fr.num b m n) = false := by unfold Fr.fits; rw [HP.out.1, decide_eq_false ha]; rfl
    have LA := Lib.hid (long_yes A ha)
    have HO := Lib.hid (show Fr.out (Fr.num b m n) = ([], 11) by unfold Fr.out; rw [hfit]; rfl)
    clear ha hfit hA hD CSx
    go_wp2_with (go_at_call 115; (with_reducible refine (LA.out _).mono ?_); rintro e w' ⟨rfl, rfl⟩)
    go_ret2
    rw [HO.out]
    exact ⟨rfl, hB5⟩

end Go.Proofs.YtldclpdmcopgnaaGreatDoor

namespace Go.Proofs.YtldclpdmcopgnaaGreatDoor
open Go.RowKit

/-- What the package variables of the library hold when a call begins. -/
structure St (w : World) : Prop where
  size : 3 ≤ w.heap.size
  maxLen : ∃ m : Int, w.cell? ⟨0, 0, none⟩ = some (.int .i64 m)
theorem St.below {w w' : World} (h : St w) {B : Nat} (hb : Below B w w') (hB : 3 ≤ B) : St w' := by
  obtain ⟨h1, ⟨m, h2⟩⟩ := h
  exact ⟨Nat.le_trans h1 hb.size, ⟨m, (hb.cell (p := ⟨0, 0, none⟩) (by show 0 < B; omega)).trans h2⟩⟩
theorem St.next {w w' : World} (h : St w) (hb : Below w.heap.size w w') : St w' := h.below hb h.size

theorem index_slash : ∀ l : List UInt8, (Lib.index l [47] = -1 ∧ Fr.cut l = (l, none)) ∨ (∃ k : Nat, Lib.index l [47] = k ∧ Fr.cut l = (l.take k, some (l.drop (k + 1))))
  | [] => .inl ⟨rfl, rfl⟩
  | c :: l => by
    by_cases hc : c = 47
    · subst hc
      exact .inr ⟨0, by simp [Lib.index, List.isPrefixOf], by simp [Fr.cut]⟩
    · have hp : ([47] : List UInt8).isPrefixOf (c :: l) = false := by
        simp [List.isPrefixOf]; exact fun h => hc h.symm
      rcases index_slash l with ⟨h1, h2⟩ | ⟨k, h1, h2⟩
      · left
        refine ⟨by rw [Lib.index, hp, h1]; rfl, by rw [Fr.cut, if_neg hc, h2]⟩
      · right
        refine ⟨k + 1, ?_, by rw [Fr.cut, if_neg hc, h2]; rfl⟩
        rw [Lib.index, hp, h1]
        have : (((k : Nat) : Int) == -1) = false := by rw [beq_eq_false_iff_ne]; omega
        rw [if_neg (by simp), if_neg (by rw [this]; simp)]
        omega
theorem cut_slash (l : List UInt8) : Lib.cut l [47] = (Fr.numT l, (Fr.cut l).2.getD [], (Fr.cut l).2.isSome) := by
  unfold Lib.cut Fr.numT
  rcases index_slash l with ⟨h1, h2⟩ | ⟨k, h1, h2⟩
  · rw [h1, h2, if_neg (by omega)]; rfl
  · rw [h1, h2, if_pos (by omega)]; simp

def numB (s : ByteArray) : ByteArray := ⟨(Fr.numT s.data.toList).toArray⟩
def denB (s : ByteArray) : ByteArray := ⟨(Fr.denT s.data.toList).toArray⟩

theorem split_any (s : ByteArray) (w : World) (hst : St w) (hs : s.size ≤ 1000000) :
    Calls Tryz.prog 113 #[.string s] w fun e w' => e = .returned (.tuple #[.string (numB s), .string (denB s), .bool (Fr.cut s.data.toList).2.isSome]) ∧ ∃ n, w' = w.drewN n := by
  obtain ⟨m, hm⟩ := hst.maxLen
  have CC := Lib.hid (Tryz.strings_Cut s ⟨#[47]⟩ m w (by omega) hm)
  have h0 : Lib.cut s.data.toList (ByteArray.mk #[47]).data.toList = _ := cut_slash s.data.toList
  rw [h0] at CC
  clear hm hst
  cases hcut : (Fr.cut s.data.toList).2 with
  | none =>
    have hd : denB s = ⟨#[49]⟩ := by unfold denB Fr.denT; rw [hcut]; rfl
    rw [hcut] at CC
    rw [hd]
    have HN := Lib.hid (show (⟨(Fr.numT s.data.toList).toArray⟩ : ByteArray) = numB s from rfl)
    rw [HN.out] at CC
    generalize numB s = a at *
    clear HN hd hcut h0
    go_enter Tryz.func113, Tryz.ntmps113
    go_wp2_with (go_at_call 144; refine (CC.out).mono ?_; rintro e w' ⟨rfl, n, rfl⟩)
    go_ret3
    exact ⟨rfl, n, rfl⟩
  | some d =>
    have hd : denB s = ⟨d.toArray⟩ := by unfold denB Fr.denT; rw [hcut]; rfl
    rw [hcut] at CC
    rw [hd]
    have HN := Lib.hid (show (⟨(Fr.numT s.data.toList).toArray⟩ : ByteArray) = numB s from rfl)
    rw [HN.out] at CC
    generalize numB s = a at *
    clear HN hd hcut h0
    go_enter Tryz.func113, Tryz.ntmps113
    go_wp2_with (go_at_call 144; refine (CC.out).mono ?_; rintro e w' ⟨rfl, n, rfl⟩)
    go_ret3
    exact ⟨rfl, n, rfl⟩

end Go.Proofs.YtldclpdmcopgnaaGreatDoor

