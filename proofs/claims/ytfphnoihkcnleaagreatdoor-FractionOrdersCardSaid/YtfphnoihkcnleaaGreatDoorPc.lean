/- The contracts of the functions of package fraction on two quotients: multiply, divide, add, subtract. -/
import Derived.Test.YtfphnoihkcnleaaGreatDoorPb
import Derived.Deep.RegionHeld3
namespace Go.Proofs.YtfphnoihkcnleaaGreatDoor
open Go.RowKit

theorem times_nat {u v : Value} {m n p q : Nat} {w : World} (hu : IsNat .u32 1000000000 w u m p) (hv : IsNat .u32 1000000000 w v n q) (hp : p ≤ 900) (hq : q ≤ 900) :
    Calls Tryz.prog 108 #[u, v] w fun e w' => ∃ r, e = .returned r ∧ Below w.heap.size w w' ∧ IsNat .u32 1000000000 w' r (m * n) (p + q) ∧ r.ownBlock = some w.heap.size := by
  obtain ⟨a, sa, na, ea, la⟩ := hu
  obtain ⟨b, sb, nb, eb, lb⟩ := hv
  have h := times_own u v a b w sa sb na.1 nb.1 (by omega) (by omega)
  rw [ea, eb] at h
  exact h.mono fun e w' ⟨r, h1, h2, h3, h4⟩ => ⟨r, h1, h2, h3.up (by omega), h4⟩

/-- A struct of a quotient that has just been laid, and not yet written. -/
def Fresh (W : World) (g : Nat) : Prop :=
  g < W.heap.size ∧ W.cell? ⟨g, 0, none⟩ = some (.bool false) ∧ W.cell? ⟨g, 1, none⟩ = some (.slice none 0 0) ∧ W.cell? ⟨g, 2, none⟩ = some (.slice none 0 0) ∧
  W.frozen? ⟨g, 0, none⟩ = false ∧ W.frozen? ⟨g, 1, none⟩ = false ∧ W.frozen? ⟨g, 2, none⟩ = false
theorem Fresh.below {W W' : World} {g : Nat} (h : Fresh W g) (hb : Below W.heap.size W W') : Fresh W' g := by
  obtain ⟨h0, h1, h2, h3, h4, h5, h6⟩ := h
  exact ⟨Nat.lt_of_lt_of_le h0 hb.size, (hb.cell (p := ⟨g, 0, none⟩) h0).trans h1, (hb.cell (p := ⟨g, 1, none⟩) h0).trans h2, (hb.cell (p := ⟨g, 2, none⟩) h0).trans h3,
    (hb.frozen (p := ⟨g, 0, none⟩) h0).trans h4, (hb.frozen (p := ⟨g, 1, none⟩) h0).trans h5, (hb.frozen (p := ⟨g, 2, none⟩) h0).trans h6⟩
theorem set3 (w : World) (g b o : Nat) (h : b ≠ g) (x y z : Value) : (((w.setCell ⟨g, 0, none⟩ x).setCell ⟨g, 1, none⟩ y).setCell ⟨g, 2, none⟩ z).cell? ⟨b, o, none⟩ = w.cell? ⟨b, o, none⟩ :=
  World.cell?_of_block (by rw [Below.heap_setCell _ _ _ _ h, Below.heap_setCell _ _ _ _ h, Below.heap_setCell _ _ _ _ h])

theorem fresh_one (w : World) (T : TypeId) : Fresh (w.alloc (.cells #[.bool false, .slice none 0 0, .slice none 0 0] T)) w.heap.size := by
  unfold Fresh
  simp
theorem fresh_new (w : World) (o1 o2 : Obj) (T : TypeId) : Fresh (((w.alloc o1).alloc o2).alloc (.cells #[.bool false, .slice none 0 0, .slice none 0 0] T)).drew (w.heap.size + 2) := by
  have h := fresh_one ((w.alloc o1).alloc o2) T
  have e : ((w.alloc o1).alloc o2).heap.size = w.heap.size + 2 := by simp
  rw [e] at h
  exact h

set_option maxRecDepth 100000 in
set_option maxHeartbeats 2000000 in
theorem multiply_any (x y : Value) (b c : Bool) (m n k l p q : Nat) (w : World) (hx : RatIs w x b m n p) (hy : RatIs w y c k l q) (hn : 0 < n) (hl : 0 < l) (hp : p ≤ 400) (hq : q ≤ 400) :
    Calls Tryz.prog 121 #[x, y] w (QPost w (Fr.num b m n * Fr.num c k l) (p + q)) := by
  obtain ⟨u1, v1, rfl, hu1, hv1⟩ := hx
  obtain ⟨u2, v2, rfl, hu2, hv2⟩ := hy
  obtain ⟨u1a, u1l, u1c, rfl⟩ := hu1.form
  obtain ⟨v1a, v1l, v1c, rfl⟩ := hv1.form
  obtain ⟨u2a, u2l, u2c, rfl⟩ := hu2.form
  obtain ⟨v2a, v2l, v2c, rfl⟩ := hv2.form
  have C1 := fun W (h : Below w.heap.size w W) => Lib.hid (times_nat (hu1.below h (Nat.le_refl _)) (hu2.below h (Nat.le_refl _)) (by omega) (by omega))
  have C2 := fun W (h : Below w.heap.size w W) => Lib.hid (times_nat (hv1.below h (Nat.le_refl _)) (hv2.below h (Nat.le_refl _)) (by omega) (by omega))
  clear hu1 hv1 hu2 hv2
  have hb0 : ∀ o1 o2 o3, Below w.heap.size w (((w.alloc o1).alloc o2).alloc o3).drew := fun o1 o2 o3 => ((((Below.refl _ _).alloc (Nat.le_refl _) _).alloc (by simp) _).alloc (by simp; omega) _).drew
  go_enter Tryz.func121, Tryz.ntmps121
  go_wp2_with fail
  go_region_held3 (fun W => W.cell? ⟨w.heap.size, 0, none⟩ = some (.bool b) ∧ W.cell? ⟨w.heap.size, 1, none⟩ = some (.slice u1a u1l u1c) ∧ W.cell? ⟨w.heap.size, 2, none⟩ = some (.slice v1a v1l v1c) ∧
      W.cell? ⟨w.heap.size + 1, 0, none⟩ = some (.bool c) ∧ W.cell? ⟨w.heap.size + 1, 1, none⟩ = some (.slice u2a u2l u2c) ∧ W.cell? ⟨w.heap.size + 1, 2, none⟩ = some (.slice v2a v2l v2c))
    (first
      | (go_split_ands; refine ⟨?_, ?_, ?_, ?_, ?_, ?_⟩ <;> (rw [hb2.cell (by simp <;> omega)]; assumption))
      | (go_split_ands; refine ⟨?_, ?_, ?_, ?_, ?_, ?_⟩ <;> (rw [hb1.cell (by simp <;> omega)]; assumption))
      | (go_split_ands; refine ⟨?_, ?_, ?_, ?_, ?_, ?_⟩ <;> (rw [set3 _ _ _ _ (by omega)]; assumption))
      | go_keep)
    (first
      | (go_at_call 108; (with_reducible refine ((C1 _ (hb0 _ _ _)).out).mono ?_); rintro e w1 ⟨r1, rfl, hb1, hr1, hg1⟩; have hB1 := (hb0 _ _ _).trans (hb1.mono (by simp <;> omega)); have hF1 := (fresh_new _ _ _ _).below hb1; have hs1 := hF1.1)
      | (go_at_call 108; (with_reducible refine ((C2 _ (hb0 _ _ _)).out).mono ?_); rintro e w1 ⟨r1, rfl, hb1, hr1, hg1⟩; have hB1 := (hb0 _ _ _).trans (hb1.mono (by simp <;> omega)); have hF1 := (fresh_new _ _ _ _).below hb1; have hs1 := hF1.1)
      | (go_at_call 108; (with_reducible refine ((C1 _ hB1).out).mono ?_); rintro e w2 ⟨r2, rfl, hb2, hr2, hg2⟩; obtain ⟨r1a, r1l, r1c, rfl⟩ := hr1.form; obtain ⟨r2a, r2l, r2c, rfl⟩ := hr2.form; have hF2 := hF1.below hb2; obtain ⟨q0, q1, q2, q3, q4, q5, q6⟩ := hF2)
      | (go_at_call 108; (with_reducible refine ((C2 _ hB1).out).mono ?_); rintro e w2 ⟨r2, rfl, hb2, hr2, hg2⟩; obtain ⟨r1a, r1l, r1c, rfl⟩ := hr1.form; obtain ⟨r2a, r2l, r2c, rfl⟩ := hr2.form; have hF2 := hF1.below hb2; obtain ⟨q0, q1, q2, q3, q4, q5, q6⟩ := hF2))
  go_wp2
  have hB2 := hB1.trans (hb2.mono hB1.size)
  have hfin := ((hB2.setCell (p := ⟨w.heap.size + 1 + 1, 0, none⟩) (by simp; omega) (.bool !(b == c))).setCell (p := ⟨w.heap.size + 1 + 1, 1, none⟩) (by simp; omega) (.slice r1a r1l r1c)).setCell (p := ⟨w.heap.size + 1 + 1, 2, none⟩) (by simp; omega) (.slice r2a r2l r2c)
  have g1 : (Value.slice r1a r1l r1c).ownBlock ≠ some (w.heap.size + 1 + 1) := by rw [hg1]; intro e; have := Option.some.inj e; simp at this
  have g2 : (Value.slice r2a r2l r2c).ownBlock ≠ some (w.heap.size + 1 + 1) := by rw [hg2]; intro e; have := Option.some.inj e; omega
  exact bodyPost_ret (v := .agg #[.bool !(b == c), .slice r1a r1l r1c, .slice r2a r2l r2c]) (by simp [results, Tryz.results121, go_sem, q1, q2, q3]) rfl ⟨_, rfl, hfin, ⟨_, _, _, ⟨_, _, rfl, (((hr1.below hb2 (Nat.le_refl _)).put g1 _).put g1 _).put g1 _, ((hr2.put g2 _).put g2 _).put g2 _⟩, Nat.mul_pos hn hl, Fr.num_mul b c m n k l⟩, Newer.mk hg1 hg2 (by simp; omega) (by omega)⟩

set_option maxRecDepth 100000 in
set_option maxHeartbeats 2000000 in
theorem divide_any (x y : Value) (b c : Bool) (m n k l p q : Nat) (w : World) (hx : RatIs w x b m n p) (hy : RatIs w y c k l q) (hn : 0 < n) (hk : 0 < k) (hl : 0 < l) (hp : p ≤ 400) (hq : q ≤ 400) :
    Calls Tryz.prog 86 #[x, y] w (QPost w (Fr.num b m n / Fr.num c k l) (p + q)) := by
  obtain ⟨u1, v1, rfl, hu1, hv1⟩ := hx
  obtain ⟨u2, v2, rfl, hu2, hv2⟩ := hy
  obtain ⟨u1a, u1l, u1c, rfl⟩ := hu1.form
  obtain ⟨v1a, v1l, v1c, rfl⟩ := hv1.form
  obtain ⟨u2a, u2l, u2c, rfl⟩ := hu2.form
  obtain ⟨v2a, v2l, v2c, rfl⟩ := hv2.form
  have C1 := fun W (h : Below w.heap.size w W) => Lib.hid (times_nat (hu1.below h (Nat.le_refl _)) (hv2.below h (Nat.le_refl _)) (by omega) (by omega))
  have C2 := fun W (h : Below w.heap.size w W) => Lib.hid (times_nat (hv1.below h (Nat.le_refl _)) (hu2.below h (Nat.le_refl _)) (by omega) (by omega))
  clear hu1 hv1 hu2 hv2
  have hb0 : ∀ o1 o2 o3, Below w.heap.size w (((w.alloc o1).alloc o2).alloc o3).drew := fun o1 o2 o3 => ((((Below.refl _ _).alloc (Nat.le_refl _) _).alloc (by simp) _).alloc (by simp; omega) _).drew
  go_enter Tryz.func86, Tryz.ntmps86
  go_wp2_with fail
  go_region_held3 (fun W => W.cell? ⟨w.heap.size, 0, none⟩ = some (.bool b) ∧ W.cell? ⟨w.heap.size, 1, none⟩ = some (.slice u1a u1l u1c) ∧ W.cell? ⟨w.heap.size, 2, none⟩ = some (.slice v1a v1l v1c) ∧
      W.cell? ⟨w.heap.size + 1, 0, none⟩ = some (.bool c) ∧ W.cell? ⟨w.heap.size + 1, 1, none⟩ = some (.slice u2a u2l u2c) ∧ W.cell? ⟨w.heap.size + 1, 2, none⟩ = some (.slice v2a v2l v2c))
    (first
      | (go_split_ands; refine ⟨?_, ?_, ?_, ?_, ?_, ?_⟩ <;> (rw [hb2.cell (by simp <;> omega)]; assumption))
      | (go_split_ands; refine ⟨?_, ?_, ?_, ?_, ?_, ?_⟩ <;> (rw [hb1.cell (by simp <;> omega)]; assumption))
      | (go_split_ands; refine ⟨?_, ?_, ?_, ?_, ?_, ?_⟩ <;> (rw [set3 _ _ _ _ (by omega)]; assumption))
      | go_keep)
    (first
      | (go_at_call 108; (with_reducible refine ((C1 _ (hb0 _ _ _)).out).mono ?_); rintro e w1 ⟨r1, rfl, hb1, hr1, hg1⟩; have hB1 := (hb0 _ _ _).trans (hb1.mono (by simp <;> omega)); have hF1 := (fresh_new _ _ _ _).below hb1; have hs1 := hF1.1)
      | (go_at_call 108; (with_reducible refine ((C2 _ (hb0 _ _ _)).out).mono ?_); rintro e w1 ⟨r1, rfl, hb1, hr1, hg1⟩; have hB1 := (hb0 _ _ _).trans (hb1.mono (by simp <;> omega)); have hF1 := (fresh_new _ _ _ _).below hb1; have hs1 := hF1.1)
      | (go_at_call 108; (with_reducible refine ((C1 _ hB1).out).mono ?_); rintro e w2 ⟨r2, rfl, hb2, hr2, hg2⟩; obtain ⟨r1a, r1l, r1c, rfl⟩ := hr1.form; obtain ⟨r2a, r2l, r2c, rfl⟩ := hr2.form; have hF2 := hF1.below hb2; obtain ⟨q0, q1, q2, q3, q4, q5, q6⟩ := hF2)
      | (go_at_call 108; (with_reducible refine ((C2 _ hB1).out).mono ?_); rintro e w2 ⟨r2, rfl, hb2, hr2, hg2⟩; obtain ⟨r1a, r1l, r1c, rfl⟩ := hr1.form; obtain ⟨r2a, r2l, r2c, rfl⟩ := hr2.form; have hF2 := hF1.below hb2; obtain ⟨q0, q1, q2, q3, q4, q5, q6⟩ := hF2))
  go_wp2
  have hB2 := hB1.trans (hb2.mono hB1.size)
  have hfin := ((hB2.setCell (p := ⟨w.heap.size + 1 + 1, 0, none⟩) (by simp; omega) (.bool !(b == c))).setCell (p := ⟨w.heap.size + 1 + 1, 1, none⟩) (by simp; omega) (.slice r1a r1l r1c)).setCell (p := ⟨w.heap.size + 1 + 1, 2, none⟩) (by simp; omega) (.slice r2a r2l r2c)
  have g1 : (Value.slice r1a r1l r1c).ownBlock ≠ some (w.heap.size + 1 + 1) := by rw [hg1]; intro e; have := Option.some.inj e; simp at this
  have g2 : (Value.slice r2a r2l r2c).ownBlock ≠ some (w.heap.size + 1 + 1) := by rw [hg2]; intro e; have := Option.some.inj e; omega
  exact bodyPost_ret (v := .agg #[.bool !(b == c), .slice r1a r1l r1c, .slice r2a r2l r2c]) (by simp [results, Tryz.results86, go_sem, q1, q2, q3]) rfl ⟨_, rfl, hfin, ⟨_, _, _, ⟨_, _, rfl, (((hr1.below hb2 (Nat.le_refl _)).put g1 _).put g1 _).put g1 _, ((hr2.put g2 _).put g2 _).put g2 _⟩, Nat.mul_pos hn hk, Fr.num_div b c m n k l hk hl⟩, Newer.mk hg1 hg2 (by simp; omega) (by omega)⟩

end Go.Proofs.YtfphnoihkcnleaaGreatDoor
