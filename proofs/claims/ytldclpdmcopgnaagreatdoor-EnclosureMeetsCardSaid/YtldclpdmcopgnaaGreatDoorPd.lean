/- The contracts of the functions of package fraction on two quotients: add, subtract. -/
import Derived.Test.YtldclpdmcopgnaaGreatDoorPc
namespace Go.Proofs.YtldclpdmcopgnaaGreatDoor
open Go.RowKit

theorem IsNat.drewN {k : IntKind} {B : Nat} {w : World} {v : Value} {n m : Nat} (h : IsNat k B w v n m) (N : Nat) : IsNat k B (w.drewN N) v n m := by
  obtain ⟨l, h1, h2⟩ := h
  exact ⟨l, h1.drewN N, h2⟩
theorem IsNat.drew {k : IntKind} {B : Nat} {w : World} {v : Value} {n m : Nat} (h : IsNat k B w v n m) : IsNat k B w.drew v n m := by
  obtain ⟨l, h1, h2⟩ := h
  exact ⟨l, h1.drewN 1, h2⟩
theorem Fresh.drewN {W : World} {g : Nat} (h : Fresh W g) (N : Nat) : Fresh (W.drewN N) g := h
theorem Fresh.drew {W : World} {g : Nat} (h : Fresh W g) : Fresh W.drew g := h

set_option maxRecDepth 100000 in
set_option maxHeartbeats 4000000 in
theorem add_any (x y : Value) (b c : Bool) (m n k l p q : Nat) (w : World) (hx : RatIs w x b m n p) (hy : RatIs w y c k l q) (hn : 0 < n) (hl : 0 < l) (hp : p ≤ 200) (hq : q ≤ 200) :
    Calls Tryz.prog 139 #[x, y] w (QPost w (Fr.num b m n + Fr.num c k l) (p + q + 1)) := by
  obtain ⟨u1, v1, rfl, hu1, hv1⟩ := hx
  obtain ⟨u2, v2, rfl, hu2, hv2⟩ := hy
  obtain ⟨u1a, u1l, u1c, rfl⟩ := hu1.form
  obtain ⟨v1a, v1l, v1c, rfl⟩ := hv1.form
  obtain ⟨u2a, u2l, u2c, rfl⟩ := hu2.form
  obtain ⟨v2a, v2l, v2c, rfl⟩ := hv2.form
  have C1 := fun W (h : Below w.heap.size w W) => Lib.hid (times_nat (hu1.below h (Nat.le_refl _)) (hv2.below h (Nat.le_refl _)) (by omega) (by omega))
  have C2 := fun W (h : Below w.heap.size w W) => Lib.hid (times_nat (hu2.below h (Nat.le_refl _)) (hv1.below h (Nat.le_refl _)) (by omega) (by omega))
  have C3 := fun W (h : Below w.heap.size w W) => Lib.hid (times_nat (hv1.below h (Nat.le_refl _)) (hv2.below h (Nat.le_refl _)) (by omega) (by omega))
  clear hu1 hv1 hu2 hv2
  have hb0 : ∀ o1 o2 o3, Below w.heap.size w (((w.alloc o1).alloc o2).alloc o3).drew := fun o1 o2 o3 => ((((Below.refl _ _).alloc (Nat.le_refl _) _).alloc (by simp) _).alloc (by simp; omega) _).drew
  go_enter Tryz.func139, Tryz.ntmps139
  go_wp2_with fail
  go_region_held3 (fun W => W.cell? ⟨w.heap.size, 0, none⟩ = some (.bool b) ∧ W.cell? ⟨w.heap.size, 1, none⟩ = some (.slice u1a u1l u1c) ∧ W.cell? ⟨w.heap.size, 2, none⟩ = some (.slice v1a v1l v1c) ∧
      W.cell? ⟨w.heap.size + 1, 0, none⟩ = some (.bool c) ∧ W.cell? ⟨w.heap.size + 1, 1, none⟩ = some (.slice u2a u2l u2c) ∧ W.cell? ⟨w.heap.size + 1, 2, none⟩ = some (.slice v2a v2l v2c))
    (first
      | (go_split_ands; refine ⟨?_, ?_, ?_, ?_, ?_, ?_⟩ <;> (rw [hb3.cell (by simp <;> omega)]; assumption))
      | (go_split_ands; refine ⟨?_, ?_, ?_, ?_, ?_, ?_⟩ <;> (rw [hb2.cell (by simp <;> omega)]; assumption))
      | (go_split_ands; refine ⟨?_, ?_, ?_, ?_, ?_, ?_⟩ <;> (rw [hb1.cell (by simp <;> omega)]; assumption))
      | go_keep)
    (first
      | (go_at_call 153; (with_reducible refine ((C1 _ (hb0 _ _ _)).out).mono ?_); rintro e w1 ⟨r1, rfl, hb1, hr1, hg1⟩; have hB1 := (hb0 _ _ _).trans (hb1.mono (by simp <;> omega)); have hF1 := (fresh_new _ _ _ _).below hb1; have hs1 := hF1.1)
      | (go_at_call 153; (with_reducible refine ((C2 _ hB1).out).mono ?_); rintro e w2 ⟨r2, rfl, hb2, hr2, hg2⟩; have hB2 := hB1.trans (hb2.mono hB1.size); have hF2 := hF1.below hb2; have hs2 := hF2.1)
      | (go_at_call 153; (with_reducible refine ((C3 _ hB2).out).mono ?_); rintro e w3 ⟨r3, rfl, hb3, hr3, hg3⟩; have hF3 := hF2.below hb3))
  have hB3 := hB2.trans (hb3.mono hB2.size)
  have HF3 := Lib.hid hF3
  have q0 := hF3.1
  have hS : w3.cell? ⟨w.heap.size, 0, none⟩ = some (Value.bool b) ∧ w3.cell? ⟨w.heap.size, 1, none⟩ = some (Value.slice u1a u1l u1c) ∧ w3.cell? ⟨w.heap.size, 2, none⟩ = some (Value.slice v1a v1l v1c) ∧
      w3.cell? ⟨w.heap.size + 1, 0, none⟩ = some (Value.bool c) ∧ w3.cell? ⟨w.heap.size + 1, 1, none⟩ = some (Value.slice u2a u2l u2c) ∧ w3.cell? ⟨w.heap.size + 1, 2, none⟩ = some (Value.slice v2a v2l v2c) := by assumption
  have k1 := hS.1
  have k4 := hS.2.2.2.1
  have H1 := Lib.hid ((hr1.below hb2 (Nat.le_refl _)).below hb3 (Nat.le_refl _))
  have H2 := Lib.hid (hr2.below hb3 (Nat.le_refl _))
  have H3 := Lib.hid hr3
  have HG3 := Lib.hid hg3
  obtain ⟨r3a, r3l, r3c, rfl⟩ := hr3.form
  have hs3 : w2.heap.size ≤ w3.heap.size := hb3.size
  clear hr1 hr2 hr3 hg1 hg2 hg3 C1 C2 C3 hb1 hb2 hb3 hB1 hB2 hF1 hF2 hF3
  cases hbc : (b == c) with
  | true =>
    have hbc2 : b = c := by simpa using hbc
    have CP := Lib.hid (plus_own r1 r2 _ _ _ _ w3.drew H1.out.drew H2.out.drew (by omega) (by omega))
    have HBC := Lib.hid hbc2
    clear hbc2
    go_wp2_with fail
    go_region_held3 (fun W => W.cell? ⟨w.heap.size, 0, none⟩ = some (.bool b))
      (first | (rw [set3 _ _ _ _ (by omega)]; assumption) | (rw [hb4.cell (by simp <;> omega)]; assumption) | go_keep)
      (first | (go_at_call 154; (with_reducible refine (CP.out).mono ?_); rintro e w4 ⟨r4, rfl, hb4, hr4, hg4⟩; obtain ⟨r4a, r4l, r4c, rfl⟩ := hr4.form; have hF4 : Fresh w4 (w.heap.size + 2) := (by first | exact (HF3.out.drewN _).below hb4 | exact HF3.out.drew.below hb4); obtain ⟨t0, t1, t2, t3, t4, t5, t6⟩ := hF4; have hs4 := hb4.size))
    go_wp2
    have h34 : IsNat .u32 1000000000 w4 (.slice r3a r3l r3c) (n * l) (p + q) := by first | exact (H3.out.drewN _).below hb4 (Nat.le_refl _) | exact H3.out.drew.below hb4 (Nat.le_refl _)
    have hB4 := hB3.trans (((Below.refl _ _).drew).trans (hb4.mono (by first | exact hB3.size | (simp; exact hB3.size))))
    have hfin := ((hB4.setCell (p := ⟨w.heap.size + 1 + 1, 0, none⟩) (by simp; omega) (.bool b)).setCell (p := ⟨w.heap.size + 1 + 1, 1, none⟩) (by simp; omega) (.slice r4a r4l r4c)).setCell (p := ⟨w.heap.size + 1 + 1, 2, none⟩) (by simp; omega) (.slice r3a r3l r3c)
    have g4 : (Value.slice r4a r4l r4c).ownBlock ≠ some (w.heap.size + 1 + 1) := by rw [hg4]; intro e; have := Option.some.inj e; simp at this; omega
    have g3 : (Value.slice r3a r3l r3c).ownBlock ≠ some (w.heap.size + 1 + 1) := by rw [HG3.out]; intro e; have := Option.some.inj e; omega
    exact bodyPost_ret (v := .agg #[.bool b, .slice r4a r4l r4c, .slice r3a r3l r3c]) (by simp [results, Tryz.results139, go_sem, t1, t2, t3]) rfl ⟨_, rfl, hfin, ⟨b, _, _, ⟨_, _, rfl, (((hr4.put g4 _).put g4 _).put g4 _).up (by omega), (((h34.put g3 _).put g3 _).put g3 _).up (by omega)⟩, Nat.mul_pos hn hl, by rw [← HBC.out]; exact Fr.num_add_same b m n k l hn hl⟩, Newer.mk hg4 HG3.out (by simp; omega) (by omega)⟩
  | false =>
    have hbc2 : b ≠ c := by simpa using hbc
    have HBC := Lib.hid hbc2
    clear hbc2
    by_cases hlt : m * l < k * n
    · have CO := Lib.hid (order_nat H1.out H2.out (Limb.cmp_lt hlt))
      have CP := fun N => Lib.hid (minus_own r2 r1 _ _ _ _ (w3.drewN N) (H2.out.drewN N) (H1.out.drewN N) (by omega) (Nat.le_of_lt hlt))
      have HLT := Lib.hid hlt
      clear hlt
      go_wp2_with (go_at_call 118; refine (CO.out).mono ?_; rintro e w' ⟨rfl, n6, rfl⟩)
      go_region_held3 (fun W => W.cell? ⟨w.heap.size + 1, 0, none⟩ = some (.bool c))
        (first | (rw [set3 _ _ _ _ (by omega)]; assumption) | (rw [hb4.cell (by simp <;> omega)]; assumption) | go_keep)
        (first | (go_at_call 155; (with_reducible refine ((CP _).out).mono ?_); rintro e w4 ⟨r4, rfl, hb4, hr4, hg4⟩; obtain ⟨r4a, r4l, r4c, rfl⟩ := hr4.form; have hF4 : Fresh w4 (w.heap.size + 2) := (by first | exact (HF3.out.drewN _).below hb4 | exact HF3.out.drew.below hb4); obtain ⟨t0, t1, t2, t3, t4, t5, t6⟩ := hF4; have hs4 := hb4.size))
      go_wp2
      have h34 : IsNat .u32 1000000000 w4 (.slice r3a r3l r3c) (n * l) (p + q) := by first | exact (H3.out.drewN _).below hb4 (Nat.le_refl _) | exact H3.out.drew.below hb4 (Nat.le_refl _)
      have hB4 := hB3.trans (((below_drewN _ _)).trans (hb4.mono (by first | exact hB3.size | (simp; exact hB3.size))))
      have hfin := ((hB4.setCell (p := ⟨w.heap.size + 1 + 1, 0, none⟩) (by simp; omega) (.bool c)).setCell (p := ⟨w.heap.size + 1 + 1, 1, none⟩) (by simp; omega) (.slice r4a r4l r4c)).setCell (p := ⟨w.heap.size + 1 + 1, 2, none⟩) (by simp; omega) (.slice r3a r3l r3c)
      have g4 : (Value.slice r4a r4l r4c).ownBlock ≠ some (w.heap.size + 1 + 1) := by rw [hg4]; intro e; have := Option.some.inj e; simp at this; omega
      have g3 : (Value.slice r3a r3l r3c).ownBlock ≠ some (w.heap.size + 1 + 1) := by rw [HG3.out]; intro e; have := Option.some.inj e; omega
      exact bodyPost_ret (v := .agg #[.bool c, .slice r4a r4l r4c, .slice r3a r3l r3c]) (by simp [results, Tryz.results139, go_sem, t1, t2, t3]) rfl ⟨_, rfl, hfin, ⟨c, _, _, ⟨_, _, rfl, (((hr4.put g4 _).put g4 _).put g4 _).up (by omega), (((h34.put g3 _).put g3 _).put g3 _).up (by omega)⟩, Nat.mul_pos hn hl, Fr.num_add_less b c m n k l hn hl HBC.out (Nat.le_of_lt HLT.out)⟩, Newer.mk hg4 HG3.out (by simp; omega) (by omega)⟩
    · obtain ⟨cc, hc⟩ : ∃ cc, Limb.cmpN (m * l) (k * n) = cc := ⟨_, rfl⟩
      have hc0 : ¬ cc < 0 := by rw [← hc, Limb.cmp_lt_zero]; exact hlt
      have CO := Lib.hid (order_nat H1.out H2.out hc)
      have CP := fun N => Lib.hid (minus_own r1 r2 _ _ _ _ (w3.drewN N) (H1.out.drewN N) (H2.out.drewN N) (by omega) (Nat.le_of_not_lt hlt))
      have HLT := Lib.hid (Nat.le_of_not_lt hlt)
      clear hlt hc
      go_wp2_with (go_at_call 118; refine (CO.out).mono ?_; rintro e w' ⟨rfl, n6, rfl⟩)
      go_region_held3 (fun W => W.cell? ⟨w.heap.size, 0, none⟩ = some (.bool b))
        (first | (rw [set3 _ _ _ _ (by omega)]; assumption) | (rw [hb4.cell (by simp <;> omega)]; assumption) | go_keep)
        (first | (go_at_call 155; (with_reducible refine ((CP _).out).mono ?_); rintro e w4 ⟨r4, rfl, hb4, hr4, hg4⟩; obtain ⟨r4a, r4l, r4c, rfl⟩ := hr4.form; have hF4 : Fresh w4 (w.heap.size + 2) := (by first | exact (HF3.out.drewN _).below hb4 | exact HF3.out.drew.below hb4); obtain ⟨t0, t1, t2, t3, t4, t5, t6⟩ := hF4; have hs4 := hb4.size))
      go_wp2
      have h34 : IsNat .u32 1000000000 w4 (.slice r3a r3l r3c) (n * l) (p + q) := by first | exact (H3.out.drewN _).below hb4 (Nat.le_refl _) | exact H3.out.drew.below hb4 (Nat.le_refl _)
      have hB4 := hB3.trans (((below_drewN _ _)).trans (hb4.mono (by first | exact hB3.size | (simp; exact hB3.size))))
      have hfin := ((hB4.setCell (p := ⟨w.heap.size + 1 + 1, 0, none⟩) (by simp; omega) (.bool b)).setCell (p := ⟨w.heap.size + 1 + 1, 1, none⟩) (by simp; omega) (.slice r4a r4l r4c)).setCell (p := ⟨w.heap.size + 1 + 1, 2, none⟩) (by simp; omega) (.slice r3a r3l r3c)
      have g4 : (Value.slice r4a r4l r4c).ownBlock ≠ some (w.heap.size + 1 + 1) := by rw [hg4]; intro e; have := Option.some.inj e; simp at this; omega
      have g3 : (Value.slice r3a r3l r3c).ownBlock ≠ some (w.heap.size + 1 + 1) := by rw [HG3.out]; intro e; have := Option.some.inj e; omega
      exact bodyPost_ret (v := .agg #[.bool b, .slice r4a r4l r4c, .slice r3a r3l r3c]) (by simp [results, Tryz.results139, go_sem, t1, t2, t3]) rfl ⟨_, rfl, hfin, ⟨b, _, _, ⟨_, _, rfl, (((hr4.put g4 _).put g4 _).put g4 _).up (by omega), (((h34.put g3 _).put g3 _).put g3 _).up (by omega)⟩, Nat.mul_pos hn hl, Fr.num_add_more b c m n k l hn hl HBC.out HLT.out⟩, Newer.mk hg4 HG3.out (by simp; omega) (by omega)⟩

end Go.Proofs.YtldclpdmcopgnaaGreatDoor

