/- The contracts of compute of package fraction: Add, Sub, Mul, Div, Compare. -/
import Derived.Test.YtldclpdmcopgnaaGreatDoorPj
import Derived.Laws.EntriesVeiled
namespace Go.Proofs.YtldclpdmcopgnaaGreatDoor
open Go.RowKit

theorem table_any (w : World) : Calls Tryz.prog 111 #[] w fun e w' => e = .returned (.agg #[.func (.func 139) #[] #[], .func (.func 123) #[] #[], .func (.func 140) #[] #[], .func (.func 141) #[] #[]]) ∧ Below w.heap.size w w' := by
  go_enter Tryz.func111, Tryz.ntmps111
  go_wp2
  refine bodyPost_ret (v := .agg #[.func (.func 139) #[] #[], .func (.func 123) #[] #[], .func (.func 140) #[] #[], .func (.func 141) #[] #[]]) (by simp [results, Tryz.results111, go_sem]) rfl ⟨rfl, (Below.refl _ _).alloc (Nat.le_refl _) _⟩

theorem index_0 (w : World) : Sem.run Tryz.prog (Instr.index 135 (.agg #[.func (.func 139) #[] #[], .func (.func 123) #[] #[], .func (.func 140) #[] #[], .func (.func 141) #[] #[]]) (.int .i64 0)) w = .ok (.func (.func 139) #[] #[]) w := by kernel_rfl
theorem index_1 (w : World) : Sem.run Tryz.prog (Instr.index 135 (.agg #[.func (.func 139) #[] #[], .func (.func 123) #[] #[], .func (.func 140) #[] #[], .func (.func 141) #[] #[]]) (.int .i64 1)) w = .ok (.func (.func 123) #[] #[]) w := by kernel_rfl
theorem index_2 (w : World) : Sem.run Tryz.prog (Instr.index 135 (.agg #[.func (.func 139) #[] #[], .func (.func 123) #[] #[], .func (.func 140) #[] #[], .func (.func 141) #[] #[]]) (.int .i64 2)) w = .ok (.func (.func 140) #[] #[]) w := by kernel_rfl
theorem index_3 (w : World) : Sem.run Tryz.prog (Instr.index 135 (.agg #[.func (.func 139) #[] #[], .func (.func 123) #[] #[], .func (.func 140) #[] #[], .func (.func 141) #[] #[]]) (.int .i64 3)) w = .ok (.func (.func 141) #[] #[]) w := by kernel_rfl

theorem add_q {x y : Value} {p q : Rat} {w : World} (hx : RatQ w x p 120) (hy : RatQ w y q 120) : Calls Tryz.prog 139 #[x, y] w (QPost w (p + q) 241) := by
  obtain ⟨b, m, n, h1, h2, rfl⟩ := hx
  obtain ⟨c, k, l, h3, h4, rfl⟩ := hy
  exact add_any x y b c m n k l 120 120 w h1 h3 h2 h4 (by omega) (by omega)
theorem subtract_q {x y : Value} {p q : Rat} {w : World} (hx : RatQ w x p 120) (hy : RatQ w y q 120) : Calls Tryz.prog 123 #[x, y] w (QPost w (p - q) 241) := by
  obtain ⟨b, m, n, h1, h2, rfl⟩ := hx
  obtain ⟨c, k, l, h3, h4, rfl⟩ := hy
  exact subtract_any x y b c m n k l 120 120 w h1 h3 h2 h4 (by omega) (by omega)
theorem QPost.up {w : World} {q : Rat} {p p' : Nat} {e : Ending} {w' : World} (h : QPost w q p e w') (hp : p ≤ p') : QPost w q p' e w' := by
  obtain ⟨x, h1, h2, ⟨b, m, n, ⟨u, v, h3, h4, h5⟩, h6⟩, h7⟩ := h
  exact ⟨x, h1, h2, ⟨b, m, n, ⟨u, v, h3, h4.up hp, h5.up hp⟩, h6⟩, h7⟩
theorem multiply_q {x y : Value} {p q : Rat} {w : World} (hx : RatQ w x p 120) (hy : RatQ w y q 120) : Calls Tryz.prog 140 #[x, y] w (QPost w (p * q) 241) := by
  obtain ⟨b, m, n, h1, h2, rfl⟩ := hx
  obtain ⟨c, k, l, h3, h4, rfl⟩ := hy
  exact (multiply_any x y b c m n k l 120 120 w h1 h3 h2 h4 (by omega) (by omega)).mono fun e w' h => h.up (by omega)
theorem divide_q {x y : Value} {p q : Rat} {w : World} (hx : RatQ w x p 120) (hy : RatQ w y q 120) (hq : q ≠ 0) : Calls Tryz.prog 141 #[x, y] w (QPost w (p / q) 241) := by
  obtain ⟨b, m, n, h1, h2, rfl⟩ := hx
  obtain ⟨c, k, l, h3, h4, rfl⟩ := hy
  exact (divide_any x y b c m n k l 120 120 w h1 h3 h2 (Nat.pos_of_ne_zero fun h => hq ((Fr.num_eq_zero c k l h4).2 h)) h4 (by omega) (by omega)).mono fun e w' h => h.up (by omega)

/-- What a function with two texts returns: the error of the texts, or a result. -/
def bi (s t : List UInt8) (o : List UInt8 × Int) : List UInt8 × Int := if two s t = 0 then o else ([], two s t)
theorem two_zero {s t : List UInt8} (h : two s t = 0) : Fr.chk s = 0 ∧ Fr.chk t = 0 := by
  unfold two at h
  by_cases h1 : Fr.chk s = 0
  · rw [if_pos h1] at h; exact ⟨h1, h⟩
  · rw [if_neg h1] at h; exact absurd h h1

set_option maxRecDepth 100000 in
set_option maxHeartbeats 1000000 in
theorem compute_bad (op : Int) (s t : ByteArray) (w : World) (hst : St w) (hs : s.size ≤ 800) (ht : t.size ≤ 800) (h : two s.data.toList t.data.toList ≠ 0) :
    Calls Tryz.prog 86 #[.int .i64 op, .string s, .string t] w (OutPost w ([], two s.data.toList t.data.toList)) := by
  have CB := fun W hW => Lib.hid (both_bad s t W (hst.next hW) hs ht h)
  have hne : (two s.data.toList t.data.toList != 0) = true := by simpa using h
  clear hst h
  generalize two s.data.toList t.data.toList = c at *
  go_enter Tryz.func86, Tryz.ntmps86
  go_wp2_with fail
  refine ((CB _ (by first | exact Below.refl _ _ | exact (Below.refl _ _).alloc (Nat.le_refl _) _ | exact ((Below.refl _ _).alloc (Nat.le_refl _) _).alloc (by simp) _)).out).mono ?_
  rintro e w1 ⟨rfl, hb1⟩
  go_wp2
  refine bodyPost_ret (v := .tuple #[.string ⟨#[]⟩, .int .i64 c]) (by simp [results, Tryz.results86, go_sem]) rfl ⟨rfl, (hb1.alloc hb1.size _).alloc (by simp; have := hb1.size; omega) _⟩

set_option maxRecDepth 100000 in
set_option maxHeartbeats 2000000 in
theorem compute_add (s t : ByteArray) (w : World) (hst : St w) (hs : s.size ≤ 800) (ht : t.size ≤ 800) (h : two s.data.toList t.data.toList = 0) :
    Calls Tryz.prog 86 #[.int .i64 0, .string s, .string t] w (OutPost w (Fr.out (Fr.rat s.data.toList + Fr.rat t.data.toList))) := by
  obtain ⟨h1, h2⟩ := two_zero h
  have CB := fun W hW => Lib.hid (both_good s t W (hst.next hW) hs ht h1 h2)
  clear hst h h1 h2
  generalize Fr.rat s.data.toList = p at *
  generalize Fr.rat t.data.toList = q at *
  go_enter Tryz.func86, Tryz.ntmps86
  go_wp2_with fail
  refine ((CB _ (by first | exact Below.refl _ _ | exact (Below.refl _ _).alloc (Nat.le_refl _) _ | exact ((Below.refl _ _).alloc (Nat.le_refl _) _).alloc (by simp) _)).out).mono ?_
  rintro e w1 ⟨x, y, rfl, hb1, hx, hy⟩
  obtain ⟨xb, xa, xl, xc, ya, yl, yc, rfl⟩ := hx.form
  obtain ⟨zb, za, zl, zc, ta, tl, tc, rfl⟩ := hy.form
  have hA : Below w1.heap.size w1 ((w1.alloc (.cells #[.bool xb, .slice xa xl xc, .slice ya yl yc] 105)).alloc (.cells #[.bool zb, .slice za zl zc, .slice ta tl tc] 105)) := ((Below.refl _ _).alloc (Nat.le_refl _) _).alloc (by simp) _
  have HX := Lib.hid ((hx.below hA (Nat.le_refl _)).drew)
  have HY := Lib.hid ((hy.below hA (Nat.le_refl _)).drew)
  have hB1 := hb1.trans (hA.mono hb1.size)
  have hs1 : w1.heap.size + 2 ≤ ((w1.alloc (.cells #[.bool xb, .slice xa xl xc, .slice ya yl yc] 105)).alloc (.cells #[.bool zb, .slice za zl zc, .slice ta tl tc] 105)).heap.size := by simp
  have hc : ∀ W', W' = ((w1.alloc (.cells #[.bool xb, .slice xa xl xc, .slice ya yl yc] 105)).alloc (.cells #[.bool zb, .slice za zl zc, .slice ta tl tc] 105)) → (W'.cell? ⟨w1.heap.size, 0, none⟩ = some (.bool xb) ∧ W'.cell? ⟨w1.heap.size, 1, none⟩ = some (.slice xa xl xc) ∧ W'.cell? ⟨w1.heap.size, 2, none⟩ = some (.slice ya yl yc)) ∧ (W'.cell? ⟨w1.heap.size + 1, 0, none⟩ = some (.bool zb) ∧ W'.cell? ⟨w1.heap.size + 1, 1, none⟩ = some (.slice za zl zc) ∧ W'.cell? ⟨w1.heap.size + 1, 2, none⟩ = some (.slice ta tl tc)) := by
    rintro _ rfl; simp
  have hc := hc _ rfl
  clear hx hy hb1 hA
  go_wp2_with fail
  have hix := index_0
  generalize ((w1.alloc (.cells #[.bool xb, .slice xa xl xc, .slice ya yl yc] 105)).alloc (.cells #[.bool zb, .slice za zl zc, .slice ta tl tc] 105)) = W1 at *
  obtain ⟨⟨k1, k2, k3⟩, k4, k5, k6⟩ := hc
  go_region_held3 (fun W => W.cell? ⟨w1.heap.size, 0, none⟩ = some (.bool xb) ∧ W.cell? ⟨w1.heap.size, 1, none⟩ = some (.slice xa xl xc) ∧ W.cell? ⟨w1.heap.size, 2, none⟩ = some (.slice ya yl yc) ∧
      W.cell? ⟨w1.heap.size + 1, 0, none⟩ = some (.bool zb) ∧ W.cell? ⟨w1.heap.size + 1, 1, none⟩ = some (.slice za zl zc) ∧ W.cell? ⟨w1.heap.size + 1, 2, none⟩ = some (.slice ta tl tc))
    (first
      | (go_split_ands; refine ⟨?_, ?_, ?_, ?_, ?_, ?_⟩ <;> (rw [hb2.cell (by simp <;> omega)]; assumption))
      | (go_split_ands; refine ⟨?_, ?_, ?_, ?_, ?_, ?_⟩ <;> (rw [hb3.cell (by simp <;> omega)]; assumption))
      | (go_split_ands; refine ⟨?_, ?_, ?_, ?_, ?_, ?_⟩ <;> (rw [hb4.cell (by simp <;> omega)]; assumption))
      | go_keep)
    (first
      | (go_at_call 111; (with_reducible refine (table_any _).mono ?_); rintro e w2 ⟨rfl, hb2⟩; have hz2 : W1.heap.size ≤ w2.heap.size := hb2.size)
      | (go_at_call 139; (with_reducible refine (add_q (HX.out.below hb2 (Nat.le_refl _)) (HY.out.below hb2 (Nat.le_refl _))).mono ?_); rintro e w3 ⟨v3, rfl, hb3, hv3, _⟩; have hz3 := hb3.size)
      | (go_at_call 112; (with_reducible refine (frac_q hv3 (by omega)).mono ?_); rintro e w4 ⟨rfl, hb4⟩))
  go_wp2
  go_ret2
  have hB2 := hB1.drew.trans (hb2.mono hB1.size)
  have hB3 := hB2.trans (hb3.mono hB2.size)
  exact ⟨rfl, hB3.trans (hb4.mono hB3.size)⟩

set_option maxRecDepth 100000 in
set_option maxHeartbeats 2000000 in
theorem compute_subtract (s t : ByteArray) (w : World) (hst : St w) (hs : s.size ≤ 800) (ht : t.size ≤ 800) (h : two s.data.toList t.data.toList = 0) :
    Calls Tryz.prog 86 #[.int .i64 1, .string s, .string t] w (OutPost w (Fr.out (Fr.rat s.data.toList - Fr.rat t.data.toList))) := by
  obtain ⟨h1, h2⟩ := two_zero h
  have CB := fun W hW => Lib.hid (both_good s t W (hst.next hW) hs ht h1 h2)
  clear hst h h1 h2
  generalize Fr.rat s.data.toList = p at *
  generalize Fr.rat t.data.toList = q at *
  go_enter Tryz.func86, Tryz.ntmps86
  go_wp2_with fail
  refine ((CB _ (by first | exact Below.refl _ _ | exact (Below.refl _ _).alloc (Nat.le_refl _) _ | exact ((Below.refl _ _).alloc (Nat.le_refl _) _).alloc (by simp) _)).out).mono ?_
  rintro e w1 ⟨x, y, rfl, hb1, hx, hy⟩
  obtain ⟨xb, xa, xl, xc, ya, yl, yc, rfl⟩ := hx.form
  obtain ⟨zb, za, zl, zc, ta, tl, tc, rfl⟩ := hy.form
  have hA : Below w1.heap.size w1 ((w1.alloc (.cells #[.bool xb, .slice xa xl xc, .slice ya yl yc] 105)).alloc (.cells #[.bool zb, .slice za zl zc, .slice ta tl tc] 105)) := ((Below.refl _ _).alloc (Nat.le_refl _) _).alloc (by simp) _
  have HX := Lib.hid ((hx.below hA (Nat.le_refl _)).drew)
  have HY := Lib.hid ((hy.below hA (Nat.le_refl _)).drew)
  have hB1 := hb1.trans (hA.mono hb1.size)
  have hs1 : w1.heap.size + 2 ≤ ((w1.alloc (.cells #[.bool xb, .slice xa xl xc, .slice ya yl yc] 105)).alloc (.cells #[.bool zb, .slice za zl zc, .slice ta tl tc] 105)).heap.size := by simp
  have hc : ∀ W', W' = ((w1.alloc (.cells #[.bool xb, .slice xa xl xc, .slice ya yl yc] 105)).alloc (.cells #[.bool zb, .slice za zl zc, .slice ta tl tc] 105)) → (W'.cell? ⟨w1.heap.size, 0, none⟩ = some (.bool xb) ∧ W'.cell? ⟨w1.heap.size, 1, none⟩ = some (.slice xa xl xc) ∧ W'.cell? ⟨w1.heap.size, 2, none⟩ = some (.slice ya yl yc)) ∧ (W'.cell? ⟨w1.heap.size + 1, 0, none⟩ = some (.bool zb) ∧ W'.cell? ⟨w1.heap.size + 1, 1, none⟩ = some (.slice za zl zc) ∧ W'.cell? ⟨w1.heap.size + 1, 2, none⟩ = some (.slice ta tl tc)) := by
    rintro _ rfl; simp
  have hc := hc _ rfl
  clear hx hy hb1 hA
  go_wp2_with fail
  have hix := index_1
  generalize ((w1.alloc (.cells #[.bool xb, .slice xa xl xc, .slice ya yl yc] 105)).alloc (.cells #[.bool zb, .slice za zl zc, .slice ta tl tc] 105)) = W1 at *
  obtain ⟨⟨k1, k2, k3⟩, k4, k5, k6⟩ := hc
  go_region_held3 (fun W => W.cell? ⟨w1.heap.size, 0, none⟩ = some (.bool xb) ∧ W.cell? ⟨w1.heap.size, 1, none⟩ = some (.slice xa xl xc) ∧ W.cell? ⟨w1.heap.size, 2, none⟩ = some (.slice ya yl yc) ∧
      W.cell? ⟨w1.heap.size + 1, 0, none⟩ = some (.bool zb) ∧ W.cell? ⟨w1.heap.size + 1, 1, none⟩ = some (.slice za zl zc) ∧ W.cell? ⟨w1.heap.size + 1, 2, none⟩ = some (.slice ta tl tc))
    (first
      | (go_split_ands; refine ⟨?_, ?_, ?_, ?_, ?_, ?_⟩ <;> (rw [hb2.cell (by simp <;> omega)]; assumption))
      | (go_split_ands; refine ⟨?_, ?_, ?_, ?_, ?_, ?_⟩ <;> (rw [hb3.cell (by simp <;> omega)]; assumption))
      | (go_split_ands; refine ⟨?_, ?_, ?_, ?_, ?_, ?_⟩ <;> (rw [hb4.cell (by simp <;> omega)]; assumption))
      | go_keep)
    (first
      | (go_at_call 111; (with_reducible refine (table_any _).mono ?_); rintro e w2 ⟨rfl, hb2⟩; have hz2 : W1.heap.size ≤ w2.heap.size := hb2.size)
      | (go_at_call 123; (with_reducible refine (subtract_q (HX.out.below hb2 (Nat.le_refl _)) (HY.out.below hb2 (Nat.le_refl _))).mono ?_); rintro e w3 ⟨v3, rfl, hb3, hv3, _⟩; have hz3 := hb3.size)
      | (go_at_call 112; (with_reducible refine (frac_q hv3 (by omega)).mono ?_); rintro e w4 ⟨rfl, hb4⟩))
  go_wp2
  go_ret2
  have hB2 := hB1.drew.trans (hb2.mono hB1.size)
  have hB3 := hB2.trans (hb3.mono hB2.size)
  exact ⟨rfl, hB3.trans (hb4.mono hB3.size)⟩

set_option maxRecDepth 100000 in
set_option maxHeartbeats 2000000 in
theorem compute_multiply (s t : ByteArray) (w : World) (hst : St w) (hs : s.size ≤ 800) (ht : t.size ≤ 800) (h : two s.data.toList t.data.toList = 0) :
    Calls Tryz.prog 86 #[.int .i64 2, .string s, .string t] w (OutPost w (Fr.out (Fr.rat s.data.toList * Fr.rat t.data.toList))) := by
  obtain ⟨h1, h2⟩ := two_zero h
  have CB := fun W hW => Lib.hid (both_good s t W (hst.next hW) hs ht h1 h2)
  clear hst h h1 h2
  generalize Fr.rat s.data.toList = p at *
  generalize Fr.rat t.data.toList = q at *
  go_enter Tryz.func86, Tryz.ntmps86
  go_wp2_with fail
  refine ((CB _ (by first | exact Below.refl _ _ | exact (Below.refl _ _).alloc (Nat.le_refl _) _ | exact ((Below.refl _ _).alloc (Nat.le_refl _) _).alloc (by simp) _)).out).mono ?_
  rintro e w1 ⟨x, y, rfl, hb1, hx, hy⟩
  obtain ⟨xb, xa, xl, xc, ya, yl, yc, rfl⟩ := hx.form
  obtain ⟨zb, za, zl, zc, ta, tl, tc, rfl⟩ := hy.form
  have hA : Below w1.heap.size w1 ((w1.alloc (.cells #[.bool xb, .slice xa xl xc, .slice ya yl yc] 105)).alloc (.cells #[.bool zb, .slice za zl zc, .slice ta tl tc] 105)) := ((Below.refl _ _).alloc (Nat.le_refl _) _).alloc (by simp) _
  have HX := Lib.hid ((hx.below hA (Nat.le_refl _)).drew)
  have HY := Lib.hid ((hy.below hA (Nat.le_refl _)).drew)
  have hB1 := hb1.trans (hA.mono hb1.size)
  have hs1 : w1.heap.size + 2 ≤ ((w1.alloc (.cells #[.bool xb, .slice xa xl xc, .slice ya yl yc] 105)).alloc (.cells #[.bool zb, .slice za zl zc, .slice ta tl tc] 105)).heap.size := by simp
  have hc : ∀ W', W' = ((w1.alloc (.cells #[.bool xb, .slice xa xl xc, .slice ya yl yc] 105)).alloc (.cells #[.bool zb, .slice za zl zc, .slice ta tl tc] 105)) → (W'.cell? ⟨w1.heap.size, 0, none⟩ = some (.bool xb) ∧ W'.cell? ⟨w1.heap.size, 1, none⟩ = some (.slice xa xl xc) ∧ W'.cell? ⟨w1.heap.size, 2, none⟩ = some (.slice ya yl yc)) ∧ (W'.cell? ⟨w1.heap.size + 1, 0, none⟩ = some (.bool zb) ∧ W'.cell? ⟨w1.heap.size + 1, 1, none⟩ = some (.slice za zl zc) ∧ W'.cell? ⟨w1.heap.size + 1, 2, none⟩ = some (.slice ta tl tc)) := by
    rintro _ rfl; simp
  have hc := hc _ rfl
  clear hx hy hb1 hA
  go_wp2_with fail
  have hix := index_2
  generalize ((w1.alloc (.cells #[.bool xb, .slice xa xl xc, .slice ya yl yc] 105)).alloc (.cells #[.bool zb, .slice za zl zc, .slice ta tl tc] 105)) = W1 at *
  obtain ⟨⟨k1, k2, k3⟩, k4, k5, k6⟩ := hc
  go_region_held3 (fun W => W.cell? ⟨w1.heap.size, 0, none⟩ = some (.bool xb) ∧ W.cell? ⟨w1.heap.size, 1, none⟩ = some (.slice xa xl xc) ∧ W.cell? ⟨w1.heap.size, 2, none⟩ = some (.slice ya yl yc) ∧
      W.cell? ⟨w1.heap.size + 1, 0, none⟩ = some (.bool zb) ∧ W.cell? ⟨w1.heap.size + 1, 1, none⟩ = some (.slice za zl zc) ∧ W.cell? ⟨w1.heap.size + 1, 2, none⟩ = some (.slice ta tl tc))
    (first
      | (go_split_ands; refine ⟨?_, ?_, ?_, ?_, ?_, ?_⟩ <;> (rw [hb2.cell (by simp <;> omega)]; assumption))
      | (go_split_ands; refine ⟨?_, ?_, ?_, ?_, ?_, ?_⟩ <;> (rw [hb3.cell (by simp <;> omega)]; assumption))
      | (go_split_ands; refine ⟨?_, ?_, ?_, ?_, ?_, ?_⟩ <;> (rw [hb4.cell (by simp <;> omega)]; assumption))
      | go_keep)
    (first
      | (go_at_call 111; (with_reducible refine (table_any _).mono ?_); rintro e w2 ⟨rfl, hb2⟩; have hz2 : W1.heap.size ≤ w2.heap.size := hb2.size)
      | (go_at_call 140; (with_reducible refine (multiply_q (HX.out.below hb2 (Nat.le_refl _)) (HY.out.below hb2 (Nat.le_refl _))).mono ?_); rintro e w3 ⟨v3, rfl, hb3, hv3, _⟩; have hz3 := hb3.size)
      | (go_at_call 112; (with_reducible refine (frac_q hv3 (by omega)).mono ?_); rintro e w4 ⟨rfl, hb4⟩))
  go_wp2
  go_ret2
  have hB2 := hB1.drew.trans (hb2.mono hB1.size)
  have hB3 := hB2.trans (hb3.mono hB2.size)
  exact ⟨rfl, hB3.trans (hb4.mono hB3.size)⟩

set_option maxRecDepth 100000 in
set_option maxHeartbeats 2000000 in
theorem compute_divide (s t : ByteArray) (w : World) (hst : St w) (hs : s.size ≤ 800) (ht : t.size ≤ 800) (h : two s.data.toList t.data.toList = 0) (hq : Fr.rat t.data.toList ≠ 0) :
    Calls Tryz.prog 86 #[.int .i64 3, .string s, .string t] w (OutPost w (Fr.out (Fr.rat s.data.toList / Fr.rat t.data.toList))) := by
  obtain ⟨h1, h2⟩ := two_zero h
  have CB := fun W hW => Lib.hid (both_good s t W (hst.next hW) hs ht h1 h2)
  clear hst h h1 h2
  generalize Fr.rat s.data.toList = p at *
  generalize Fr.rat t.data.toList = q at *
  have HQ := Lib.hid hq
  have hne : (Fr.sgnQ q == 0) = false := by
    rw [beq_eq_false_iff_ne]; unfold Fr.sgnQ; split
    · omega
    · first | omega | (rw [if_neg hq]; omega)
  clear hq
  go_enter Tryz.func86, Tryz.ntmps86
  go_wp2_with fail
  refine ((CB _ (by first | exact Below.refl _ _ | exact (Below.refl _ _).alloc (Nat.le_refl _) _ | exact ((Below.refl _ _).alloc (Nat.le_refl _) _).alloc (by simp) _)).out).mono ?_
  rintro e w1 ⟨x, y, rfl, hb1, hx, hy⟩
  obtain ⟨xb, xa, xl, xc, ya, yl, yc, rfl⟩ := hx.form
  obtain ⟨zb, za, zl, zc, ta, tl, tc, rfl⟩ := hy.form
  have hA : Below w1.heap.size w1 ((w1.alloc (.cells #[.bool xb, .slice xa xl xc, .slice ya yl yc] 105)).alloc (.cells #[.bool zb, .slice za zl zc, .slice ta tl tc] 105)) := ((Below.refl _ _).alloc (Nat.le_refl _) _).alloc (by simp) _
  have HX := Lib.hid ((hx.below hA (Nat.le_refl _)).drew)
  have HY := Lib.hid ((hy.below hA (Nat.le_refl _)).drew)
  have hB1 := hb1.trans (hA.mono hb1.size)
  have hs1 : w1.heap.size + 2 ≤ ((w1.alloc (.cells #[.bool xb, .slice xa xl xc, .slice ya yl yc] 105)).alloc (.cells #[.bool zb, .slice za zl zc, .slice ta tl tc] 105)).heap.size := by simp
  have hc : ∀ W', W' = ((w1.alloc (.cells #[.bool xb, .slice xa xl xc, .slice ya yl yc] 105)).alloc (.cells #[.bool zb, .slice za zl zc, .slice ta tl tc] 105)) → (W'.cell? ⟨w1.heap.size, 0, none⟩ = some (.bool xb) ∧ W'.cell? ⟨w1.heap.size, 1, none⟩ = some (.slice xa xl xc) ∧ W'.cell? ⟨w1.heap.size, 2, none⟩ = some (.slice ya yl yc)) ∧ (W'.cell? ⟨w1.heap.size + 1, 0, none⟩ = some (.bool zb) ∧ W'.cell? ⟨w1.heap.size + 1, 1, none⟩ = some (.slice za zl zc) ∧ W'.cell? ⟨w1.heap.size + 1, 2, none⟩ = some (.slice ta tl tc)) := by
    rintro _ rfl; simp
  have hc := hc _ rfl
  clear hx hy hb1 hA
  go_wp2_with fail
  have hix := index_3
  generalize ((w1.alloc (.cells #[.bool xb, .slice xa xl xc, .slice ya yl yc] 105)).alloc (.cells #[.bool zb, .slice za zl zc, .slice ta tl tc] 105)) = W1 at *
  refine (sign_q (show RatQ W1 _ q 120 from HY.out)).mono ?_
  rintro e w5 ⟨rfl, hb5⟩
  have hz5 := hb5.size
  have hx5 := Lib.hid (((show RatQ W1 _ p 120 from HX.out).below hb5 (Nat.le_refl _)).drew)
  have hy5 := Lib.hid (((show RatQ W1 _ q 120 from HY.out).below hb5 (Nat.le_refl _)).drew)
  have hB5 := hB1.trans (hb5.mono hB1.size)
  have hc5 : (w5.cell? ⟨w1.heap.size, 0, none⟩ = some (.bool xb) ∧ w5.cell? ⟨w1.heap.size, 1, none⟩ = some (.slice xa xl xc) ∧ w5.cell? ⟨w1.heap.size, 2, none⟩ = some (.slice ya yl yc)) ∧ (w5.cell? ⟨w1.heap.size + 1, 0, none⟩ = some (.bool zb) ∧ w5.cell? ⟨w1.heap.size + 1, 1, none⟩ = some (.slice za zl zc) ∧ w5.cell? ⟨w1.heap.size + 1, 2, none⟩ = some (.slice ta tl tc)) := by
    obtain ⟨⟨k1, k2, k3⟩, k4, k5, k6⟩ := hc
    refine ⟨⟨?_, ?_, ?_⟩, ?_, ?_, ?_⟩ <;> (rw [hb5.cell (by simp <;> omega)]; assumption)
  have hs5 : w1.heap.size + 2 ≤ w5.heap.size := by omega
  clear HX HY hB1 hc hs1 hb5 hz5
  go_wp2_with fail
  clear hne
  rename Hid (RatQ w5.drew (.agg #[.bool xb, .slice xa xl xc, .slice ya yl yc]) p 120) => HX
  rename Hid (RatQ w5.drew (.agg #[.bool zb, .slice za zl zc, .slice ta tl tc]) q 120) => HY
  rename Below w.heap.size w w5 => hB1
  rename w1.heap.size + 2 ≤ w5.heap.size => hs1
  have hc := hc5
  clear hc5
  generalize w5 = W1 at *
  obtain ⟨⟨k1, k2, k3⟩, k4, k5, k6⟩ := hc
  go_region_held3 (fun W => W.cell? ⟨w1.heap.size, 0, none⟩ = some (.bool xb) ∧ W.cell? ⟨w1.heap.size, 1, none⟩ = some (.slice xa xl xc) ∧ W.cell? ⟨w1.heap.size, 2, none⟩ = some (.slice ya yl yc) ∧
      W.cell? ⟨w1.heap.size + 1, 0, none⟩ = some (.bool zb) ∧ W.cell? ⟨w1.heap.size + 1, 1, none⟩ = some (.slice za zl zc) ∧ W.cell? ⟨w1.heap.size + 1, 2, none⟩ = some (.slice ta tl tc))
    (first
      | (go_split_ands; refine ⟨?_, ?_, ?_, ?_, ?_, ?_⟩ <;> (rw [hb2.cell (by simp <;> omega)]; assumption))
      | (go_split_ands; refine ⟨?_, ?_, ?_, ?_, ?_, ?_⟩ <;> (rw [hb3.cell (by simp <;> omega)]; assumption))
      | (go_split_ands; refine ⟨?_, ?_, ?_, ?_, ?_, ?_⟩ <;> (rw [hb4.cell (by simp <;> omega)]; assumption))
      | go_keep)
    (first
      | (go_at_call 111; (with_reducible refine (table_any _).mono ?_); rintro e w2 ⟨rfl, hb2⟩; have hz2 : W1.heap.size ≤ w2.heap.size := hb2.size)
      | (go_at_call 141; (with_reducible refine (divide_q (HX.out.below hb2 (Nat.le_refl _)) (HY.out.below hb2 (Nat.le_refl _)) HQ.out).mono ?_); rintro e w3 ⟨v3, rfl, hb3, hv3, _⟩; have hz3 := hb3.size)
      | (go_at_call 112; (with_reducible refine (frac_q hv3 (by omega)).mono ?_); rintro e w4 ⟨rfl, hb4⟩))
  go_wp2
  go_ret2
  have hB2 := hB1.drew.trans (hb2.mono hB1.size)
  have hB3 := hB2.trans (hb3.mono hB2.size)
  exact ⟨rfl, hB3.trans (hb4.mono hB3.size)⟩

set_option maxRecDepth 100000 in
set_option maxHeartbeats 2000000 in
theorem compute_zero (s t : ByteArray) (w : World) (hst : St w) (hs : s.size ≤ 800) (ht : t.size ≤ 800) (h : two s.data.toList t.data.toList = 0) (hq : Fr.rat t.data.toList = 0) :
    Calls Tryz.prog 86 #[.int .i64 3, .string s, .string t] w (OutPost w ([], 10)) := by
  obtain ⟨h1, h2⟩ := two_zero h
  have CB := fun W hW => Lib.hid (both_good s t W (hst.next hW) hs ht h1 h2)
  clear hst h h1 h2
  rw [hq] at CB
  have h0 : Fr.sgnQ 0 = 0 := by decide
  clear hq
  generalize Fr.rat s.data.toList = p at *
  go_enter Tryz.func86, Tryz.ntmps86
  go_wp2_with fail
  refine ((CB _ (by first | exact Below.refl _ _ | exact (Below.refl _ _).alloc (Nat.le_refl _) _ | exact ((Below.refl _ _).alloc (Nat.le_refl _) _).alloc (by simp) _)).out).mono ?_
  rintro e w1 ⟨x, y, rfl, hb1, hx, hy⟩
  obtain ⟨xb, xa, xl, xc, ya, yl, yc, rfl⟩ := hx.form
  obtain ⟨zb, za, zl, zc, ta, tl, tc, rfl⟩ := hy.form
  have hA : Below w1.heap.size w1 ((w1.alloc (.cells #[.bool xb, .slice xa xl xc, .slice ya yl yc] 105)).alloc (.cells #[.bool zb, .slice za zl zc, .slice ta tl tc] 105)) := ((Below.refl _ _).alloc (Nat.le_refl _) _).alloc (by simp) _
  have HY := Lib.hid (hy.below hA (Nat.le_refl _))
  have hB1 := hb1.trans (hA.mono hb1.size)
  clear hx hy hb1 hA
  go_wp2_with fail
  refine (sign_q HY.out).mono ?_
  rintro e w5 ⟨rfl, hb5⟩
  go_wp2
  go_wp2
  go_ret2
  exact ⟨rfl, hB1.trans (hb5.mono hB1.size)⟩

end Go.Proofs.YtldclpdmcopgnaaGreatDoor

