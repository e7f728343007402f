/- The contracts of the functions of package fraction on quotients: subtract, floor, integer. -/
import Derived.Test.YtfphnoihkcnleaaGreatDoorPd
namespace Go.Proofs.YtfphnoihkcnleaaGreatDoor
open Go.RowKit

theorem RatIs.drewN {w : World} {x : Value} {b : Bool} {m n p : Nat} (h : RatIs w x b m n p) (N : Nat) : RatIs (w.drewN N) x b m n p := by
  obtain ⟨u, v, h1, h2, h3⟩ := h
  exact ⟨u, v, h1, h2.drewN N, h3.drewN N⟩
theorem ne_of_lt {v : Value} {g h : Nat} (hv : ∀ t, t < h → v.ownBlock ≠ some t) (hg : g < h) : v.ownBlock ≠ some g := hv g hg

set_option maxRecDepth 100000 in
set_option maxHeartbeats 4000000 in
theorem subtract_any (x y : Value) (b c : Bool) (m n k l p q : Nat) (w : World) (hx : RatIs w x b m n p) (hy : RatIs w y c k l q) (hn : 0 < n) (hl : 0 < l) (hp : p ≤ 200) (hq : q ≤ 200) :
    Calls Tryz.prog 73 #[x, y] w (QPost w (Fr.num b m n - Fr.num c k l) (p + q + 1)) := by
  have CO := fun W (h : Below w.heap.size w W) => Lib.hid (opposite_any y c k l q W (hy.below h (Nat.le_refl _)))
  have CA := fun W (h : Below w.heap.size w W) z (hz : RatIs W z (!c) k l q) => Lib.hid (add_any x z b (!c) m n k l p q W (hx.below h (Nat.le_refl _)) hz hn hl hp hq)
  obtain ⟨u1, v1, rfl, hu1, hv1⟩ := hx
  obtain ⟨u2, v2, rfl, hu2, hv2⟩ := hy
  obtain ⟨u1a, u1l, u1c, rfl⟩ := hu1.form
  obtain ⟨v1a, v1l, v1c, rfl⟩ := hv1.form
  obtain ⟨u2a, u2l, u2c, rfl⟩ := hu2.form
  obtain ⟨v2a, v2l, v2c, rfl⟩ := hv2.form
  clear hu1 hv1 hu2 hv2
  have hb0 : ∀ o1 o2 o3, Below w.heap.size w (((w.alloc o1).alloc o2).alloc o3).drew := fun o1 o2 o3 => ((((Below.refl _ _).alloc (Nat.le_refl _) _).alloc (by simp) _).alloc (by simp; omega) _).drew
  go_enter Tryz.func73, Tryz.ntmps73
  go_wp2_with fail
  go_region_held3 (fun W => W.cell? ⟨w.heap.size, 0, none⟩ = some (.bool b) ∧ W.cell? ⟨w.heap.size, 1, none⟩ = some (.slice u1a u1l u1c) ∧ W.cell? ⟨w.heap.size, 2, none⟩ = some (.slice v1a v1l v1c) ∧
      W.cell? ⟨w.heap.size + 1, 0, none⟩ = some (.bool c) ∧ W.cell? ⟨w.heap.size + 1, 1, none⟩ = some (.slice u2a u2l u2c) ∧ W.cell? ⟨w.heap.size + 1, 2, none⟩ = some (.slice v2a v2l v2c))
    (first
      | (go_split_ands; refine ⟨?_, ?_, ?_, ?_, ?_, ?_⟩ <;> (rw [hb2.cell (by simp <;> omega)]; assumption))
      | (go_split_ands; refine ⟨?_, ?_, ?_, ?_, ?_, ?_⟩ <;> (rw [hb1.cell (by simp <;> omega)]; assumption))
      | (go_split_ands; refine ⟨?_, ?_, ?_, ?_, ?_, ?_⟩ <;> (rw [set3 _ _ _ _ (by omega)]; assumption))
      | go_keep)
    (first
      | (go_at_call 75; (with_reducible refine ((CO _ (hb0 _ _ _)).out).mono ?_); rintro e w1 ⟨z, rfl, hb1, hz⟩; have hB1 := (hb0 _ _ _).trans (hb1.mono (by simp <;> omega)); have hF1 := (fresh_new _ _ _ _).below hb1; have hs1 := hF1.1)
      | (go_at_call 102; (with_reducible refine ((CA _ hB1 _ hz).out).mono ?_); rintro e w2 ⟨r, rfl, hb2, hr, hnew⟩; obtain ⟨d, rm, rn, ⟨ru, rv, rfl, hru, hrv⟩, hrn, hrq⟩ := hr; have g1 := (hnew _ _ _ rfl (w.heap.size + 1 + 1) (by omega)).1; have g2 := (hnew _ _ _ rfl (w.heap.size + 1 + 1) (by omega)).2; obtain ⟨rua, rul, ruc, rfl⟩ := hru.form; obtain ⟨rva, rvl, rvc, rfl⟩ := hrv.form; have hF2 := hF1.below hb2; obtain ⟨q0, q1, q2, q3, q4, q5, q6⟩ := hF2))
  go_wp2
  have hB2 := hB1.trans (hb2.mono hB1.size)
  have hfin := ((hB2.setCell (p := ⟨w.heap.size + 1 + 1, 0, none⟩) (by simp; omega) (.bool d)).setCell (p := ⟨w.heap.size + 1 + 1, 1, none⟩) (by simp; omega) (.slice rua rul ruc)).setCell (p := ⟨w.heap.size + 1 + 1, 2, none⟩) (by simp; omega) (.slice rva rvl rvc)
  refine bodyPost_ret (v := .agg #[.bool d, .slice rua rul ruc, .slice rva rvl rvc]) (by simp [results, Tryz.results73, go_sem, q1, q2, q3]) rfl ⟨_, rfl, hfin, ⟨_, _, _, ⟨_, _, rfl, ((hru.put g1 _).put g1 _).put g1 _, ((hrv.put g2 _).put g2 _).put g2 _⟩, hrn, ?_⟩, ?_⟩
  · rw [hrq, Fr.num_neg, Rat.sub_eq_add_neg]
  · intro b' u' v' he t ht
    exact hnew b' u' v' he t (by omega)

theorem one_digs : ((ByteArray.mk #[49]).data.toList.all Fr.isDig) = true := by decide
theorem one_any (w : World) : Calls Tryz.prog 89 #[.string ⟨#[49]⟩] w fun e w' => ∃ r, e = .returned r ∧ Below w.heap.size w w' ∧ IsNat .u32 1000000000 w' r 1 1 ∧ ∀ g, g < w.heap.size → r.ownBlock ≠ some g :=
  (read_own ⟨#[49]⟩ w (by decide) one_digs).mono fun _ _ ⟨r, h1, h2, h3, h4⟩ => ⟨r, h1, h2, h3, h4⟩

def IntPost (w : World) (b : Bool) (m p : Nat) (e : Ending) (w' : World) : Prop := ∃ x, e = .returned x ∧ Below w.heap.size w w' ∧ RatIs w' x b m 1 p ∧ Newer w.heap.size x

theorem fresh_lt {W : World} {g : Nat} (h : Fresh W g) : g < W.heap.size := h.1

set_option maxRecDepth 100000 in
set_option maxHeartbeats 1000000 in
theorem integer_any (s : ByteArray) (w : World) (hs : s.size ≤ 900) (hd : (Fr.bare s.data.toList).all Fr.isDig = true) :
    Calls Tryz.prog 87 #[.string s] w (IntPost w (Fr.isNeg s.data.toList) (Fr.dv (Fr.bare s.data.toList)) 120) := by
  have hsz : (bareB s).size ≤ 900 := by
    have h1 : (bareB s).size = (Fr.bare s.data.toList).length := by simp [bareB, ByteArray.size]
    have h2 : (Fr.bare s.data.toList).length ≤ s.data.toList.length := by
      cases s.data.toList with
      | nil => exact Nat.le_refl _
      | cons c l => simp only [Fr.bare]; split <;> simp
    have h3 : s.data.toList.length = s.size := rfl
    omega
  have CR := fun W => Lib.hid (read_own (bareB s) W (by omega) hd)
  have CC := Lib.hid (cutPrefix_any s)
  have hl := bareB_list s
  have HL := Lib.hid hl
  clear hl hd
  generalize Fr.isNeg s.data.toList = b at *
  generalize bareB s = d at *
  go_enter Tryz.func87, Tryz.ntmps87
  go_wp2_with (first
    | (go_at_call 109; refine (CC.out _).mono ?_; rintro e w' ⟨rfl, rfl⟩)
    | (go_at_call 89; (with_reducible refine ((CR _).out).mono ?_); rintro e w1 ⟨r1, rfl, hb1, hr1, hn1⟩; have hF1 := (fresh_one w _).below hb1)
    | (go_at_call 89; refine (one_any _).mono ?_; rintro e w2 ⟨r2, rfl, hb2, hr2, hn2⟩; obtain ⟨r1a, r1l, r1c, rfl⟩ := hr1.form; obtain ⟨r2a, r2l, r2c, rfl⟩ := hr2.form; have hF2 := hF1.below hb2; obtain ⟨q0, q1, q2, q3, q4, q5, q6⟩ := hF2))
  have hB1 : Below w.heap.size w w1 := ((Below.refl _ _).alloc (Nat.le_refl _) _).trans (hb1.mono (by simp))
  have hB2 := hB1.trans (hb2.mono hB1.size)
  have hfin := ((hB2.setCell (p := ⟨w.heap.size, 0, none⟩) (Nat.le_refl _) (.bool b)).setCell (p := ⟨w.heap.size, 1, none⟩) (Nat.le_refl _) (.slice r1a r1l r1c)).setCell (p := ⟨w.heap.size, 2, none⟩) (Nat.le_refl _) (.slice r2a r2l r2c)
  have g1 := hn1 w.heap.size (by simp)
  have g2 := hn2 w.heap.size hF1.1
  refine bodyPost_ret (v := .agg #[.bool b, .slice r1a r1l r1c, .slice r2a r2l r2c]) (by simp [results, Tryz.results87, go_sem, q1, q2, q3]) rfl ⟨_, rfl, hfin, ⟨_, _, rfl, ((((hr1.below hb2 (Nat.le_refl _)).put g1 _).put g1 _).put g1 _).up (by omega) |> (HL.out ▸ ·), (((hr2.put g2 _).put g2 _).put g2 _).up (by omega)⟩, ?_⟩
  intro b' u' v' he t ht
  cases he
  exact ⟨hn1 t (by simp; omega), hn2 t (by have := hF1.1; omega)⟩

set_option maxRecDepth 100000 in
set_option maxHeartbeats 2000000 in
theorem floor_any (x : Value) (b : Bool) (m n p : Nat) (w : World) (hx : RatIs w x b m n p) (hn : 0 < n) (hp : p ≤ 200) :
    Calls Tryz.prog 78 #[x] w (QPost w (((Fr.num b m n).floor : Int) : Rat) (p + 2)) := by
  obtain ⟨u1, v1, rfl, hu1, hv1⟩ := hx
  obtain ⟨u1a, u1l, u1c, rfl⟩ := hu1.form
  obtain ⟨v1a, v1l, v1c, rfl⟩ := hv1.form
  have CV := fun W (h : Below w.heap.size w W) => Lib.hid (over_own _ _ m n p p W (hu1.below h (Nat.le_refl _)) (hv1.below h (Nat.le_refl _)) (by omega) (by omega) hn)
  clear hu1 hv1
  have hb0 : ∀ o1 o2, Below w.heap.size w ((w.alloc o1).alloc o2) := fun o1 o2 => ((Below.refl _ _).alloc (Nat.le_refl _) _).alloc (by simp) _
  have hFl := Lib.hid (Fr.floor_num b m n hn)
  have hfresh : ∀ o1 T, Fresh ((w.alloc o1).alloc (.cells #[.bool false, .slice none 0 0, .slice none 0 0] T)) (w.heap.size + 1) := by
    intro o1 T
    have h := fresh_one (w.alloc o1) T
    have e : (w.alloc o1).heap.size = w.heap.size + 1 := by simp
    rw [e] at h
    exact h
  go_enter Tryz.func78, Tryz.ntmps78
  go_wp2_with fail
  refine (one_any _).mono ?_
  rintro e w1 ⟨r1, rfl, hb1, hr1, hn1⟩
  have hB1 := (hb0 _ _).trans (hb1.mono (by simp <;> omega))
  have hF1 := (hfresh _ _).below hb1
  have k0 : w1.cell? ⟨w.heap.size, 0, none⟩ = some (.bool b) := (hb1.cell (p := ⟨w.heap.size, 0, none⟩) (by simp <;> omega)).trans (by simp)
  have k1 : w1.cell? ⟨w.heap.size, 1, none⟩ = some (.slice u1a u1l u1c) := (hb1.cell (p := ⟨w.heap.size, 1, none⟩) (by simp <;> omega)).trans (by simp)
  have k2 : w1.cell? ⟨w.heap.size, 2, none⟩ = some (.slice v1a v1l v1c) := (hb1.cell (p := ⟨w.heap.size, 2, none⟩) (by simp <;> omega)).trans (by simp)
  have hs1 := hF1.1
  go_wp2_with fail
  refine ((CV _ hB1).out).mono ?_
  rintro e w2 ⟨r2, s2, rfl, hb2, hr2, hs2, g2, hg2, hg2w⟩
  have hB2 := hB1.trans (hb2.mono hB1.size)
  have hF2 := hF1.below hb2
  have m0 : w2.cell? ⟨w.heap.size, 0, none⟩ = some (.bool b) := (hb2.cell (p := ⟨w.heap.size, 0, none⟩) (by simp <;> omega)).trans k0
  obtain ⟨sl, ss, sn, se, sll⟩ := hs2
  obtain ⟨sa, sc, rfl, _, sc2, _⟩ := ss.opened
  obtain ⟨r1a, r1l, r1c, rfl⟩ := hr1.form
  obtain ⟨r2a, r2l, r2c, rfl⟩ := hr2.form
  have hs2 := hF2.1
  by_cases hcase : b = true ∧ 0 < m % n
  · obtain ⟨hbt, hmn⟩ := hcase
    subst hbt
    have hpos : 0 < sl.length := by rw [← Limb.norm_pos (B := 1000000000) (by omega) sn, se]; exact hmn
    have CP := Lib.hid (plus_own _ _ _ _ _ _ w2 hr2 (hr1.below hb2 (Nat.le_refl _)) (by omega) (by omega))
    have HFX := Lib.hid (show Fr.num true (m / n + 1) 1 = (((Fr.num true m n).floor : Int) : Rat) by rw [← hFl.out, if_pos ⟨rfl, hmn⟩])
    have H1 := Lib.hid (hr1.below hb2 (Nat.le_refl _))
    have HF2 := Lib.hid hF2
    clear hr1 hr2 se sn hmn hFl CV hF1 hF2 hfresh
    go_wp2_with (go_at_call 105; refine (CP.out).mono ?_; rintro e w3 ⟨r3, rfl, hb3, hr3, hg3⟩; obtain ⟨r3a, r3l, r3c, rfl⟩ := hr3.form; have hF3 := HF2.out.below hb3; obtain ⟨t0, t1, t2, t3, t4, t5, t6⟩ := hF3; have m3 : w3.cell? ⟨w.heap.size, 0, none⟩ = some (.bool true) := (hb3.cell (p := ⟨w.heap.size, 0, none⟩) (by simp <;> omega)).trans m0)
    have hBX := hB2.trans (hb3.mono hB2.size)
    have HRX := hr3
    have HR1 := H1.out.below hb3 (Nat.le_refl _)
    have g3 : (Value.slice r3a r3l r3c).ownBlock ≠ some (w.heap.size + 1) := by rw [hg3]; intro e; have := Option.some.inj e; omega
    have g1 := hn1 (w.heap.size + 1) (by simp)
    have hfin := ((hBX.setCell (p := ⟨w.heap.size + 1, 0, none⟩) (by simp) (.bool true)).setCell (p := ⟨w.heap.size + 1, 1, none⟩) (by simp) (.slice r3a r3l r3c)).setCell (p := ⟨w.heap.size + 1, 2, none⟩) (by simp) (.slice r1a r1l r1c)
    exact bodyPost_ret (v := .agg #[.bool true, .slice r3a r3l r3c, .slice r1a r1l r1c]) (by simp [results, Tryz.results78, go_sem, t1, t2, t3]) rfl ⟨_, rfl, hfin, ⟨true, _, 1, ⟨_, _, rfl, (((HRX.put g3 _).put g3 _).put g3 _).up (by omega), (((HR1.put g1 _).put g1 _).put g1 _).up (by omega)⟩, by omega, HFX.out⟩, fun b' u' v' he t ht => by cases he; exact ⟨fun e => by first | (rw [hg2] at e; have := Option.some.inj e; omega) | (rw [hg3] at e; have := Option.some.inj e; omega), hn1 t (by simp; omega)⟩⟩
  · have HFX := Lib.hid (show Fr.num b (m / n) 1 = (((Fr.num b m n).floor : Int) : Rat) by rw [← hFl.out, if_neg hcase])
    have HR1 := hr1.below hb2 (Nat.le_refl _)
    have HRX := hr2
    obtain ⟨t0, t1, t2, t3, t4, t5, t6⟩ := hF2
    have hBX := hB2
    have g3 : (Value.slice r2a r2l r2c).ownBlock ≠ some (w.heap.size + 1) := by rw [hg2]; intro e; have := Option.some.inj e; omega
    have g1 := hn1 (w.heap.size + 1) (by simp)
    have HRX := Lib.hid HRX
    have HR1 := Lib.hid HR1
    have hway : b = false ∨ (b = true ∧ sl.length = 0) := by
      cases b with
      | false => exact .inl rfl
      | true =>
        right
        refine ⟨rfl, ?_⟩
        rcases Nat.eq_zero_or_pos sl.length with h | h
        · exact h
        · exact absurd ⟨rfl, by rw [← se]; exact (Limb.norm_pos (by omega) sn).2 h⟩ hcase
    clear hr1 hr2 se sn hFl CV hF1 hfresh hcase
    rcases hway with rfl | ⟨rfl, hz⟩
    · go_wp2
      have hfin := ((hBX.setCell (p := ⟨w.heap.size + 1, 0, none⟩) (by simp) (.bool false)).setCell (p := ⟨w.heap.size + 1, 1, none⟩) (by simp) (.slice r2a r2l r2c)).setCell (p := ⟨w.heap.size + 1, 2, none⟩) (by simp) (.slice r1a r1l r1c)
      exact bodyPost_ret (v := .agg #[.bool false, .slice r2a r2l r2c, .slice r1a r1l r1c]) (by simp [results, Tryz.results78, go_sem, t1, t2, t3]) rfl ⟨_, rfl, hfin, ⟨false, _, 1, ⟨_, _, rfl, (((HRX.out.put g3 _).put g3 _).put g3 _).up (by omega), (((HR1.out.put g1 _).put g1 _).put g1 _).up (by omega)⟩, by omega, HFX.out⟩, fun b' u' v' he t ht => by cases he; exact ⟨fun e => by first | (rw [hg2] at e; have := Option.some.inj e; omega) | (rw [hg3] at e; have := Option.some.inj e; omega), hn1 t (by simp; omega)⟩⟩
    · have hneg : ¬ 0 < sl.length := by omega
      clear hz
      go_wp2
      have hfin := ((hBX.setCell (p := ⟨w.heap.size + 1, 0, none⟩) (by simp) (.bool true)).setCell (p := ⟨w.heap.size + 1, 1, none⟩) (by simp) (.slice r2a r2l r2c)).setCell (p := ⟨w.heap.size + 1, 2, none⟩) (by simp) (.slice r1a r1l r1c)
      exact bodyPost_ret (v := .agg #[.bool true, .slice r2a r2l r2c, .slice r1a r1l r1c]) (by simp [results, Tryz.results78, go_sem, t1, t2, t3]) rfl ⟨_, rfl, hfin, ⟨true, _, 1, ⟨_, _, rfl, (((HRX.out.put g3 _).put g3 _).put g3 _).up (by omega), (((HR1.out.put g1 _).put g1 _).put g1 _).up (by omega)⟩, by omega, HFX.out⟩, fun b' u' v' he t ht => by cases he; exact ⟨fun e => by first | (rw [hg2] at e; have := Option.some.inj e; omega) | (rw [hg3] at e; have := Option.some.inj e; omega), hn1 t (by simp; omega)⟩⟩

end Go.Proofs.YtfphnoihkcnleaaGreatDoor
