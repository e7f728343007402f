/- What parse returns, in terms of the texts of fractions and their numbers; Check, Sign, Neg, Floor, Ceil. The contracts of Check, Sign, Neg, Floor and Ceil of package fraction. The contracts of Sign, Parts, Small and parseBoth of package fraction. -/
import Derived.Test.YtldclpdmcopgnaaGreatDoorPh
import Derived.Test.YtldclpdmcopgnaaGreatDoorNum
namespace Go.Proofs.YtldclpdmcopgnaaGreatDoor
open Go.RowKit

/-- What parse leaves for a fraction. -/
def GoodQ (w : World) (q : Rat) (e : Ending) (w' : World) : Prop := ∃ x, e = .returned (.tuple #[x, .int .i64 0]) ∧ Below w.heap.size w w' ∧ RatQ w' x q 120 ∧ Newer w.heap.size x

theorem chk_cond (l : List UInt8) : (Fr.isNeg (Fr.denT l) || ((Fr.cut l).2.isSome && decide (Fr.dv (Fr.bare (Fr.denT l)) ≤ 1)) || (Nat.gcd (Fr.dv (Fr.bare (Fr.numT l))) (Fr.dv (Fr.bare (Fr.denT l))) != 1)) =
    (Fr.isNeg (Fr.denT l) || ((Fr.cut l).2.isSome && decide (Fr.dv (Fr.denT l) ≤ 1)) || (Nat.gcd (Fr.dv (Fr.bare (Fr.numT l))) (Fr.dv (Fr.denT l)) != 1)) := by
  cases h : Fr.isNeg (Fr.denT l) with
  | true => simp
  | false => rw [Fr.bare_of_not h]

theorem parse_bad (s : ByteArray) (w : World) (hst : St w) (hs : s.size ≤ 800) (h : Fr.chk s.data.toList ≠ 0) :
    Calls Tryz.prog 87 #[.string s] w (BadPost w (Fr.chk s.data.toList)) := by
  unfold Fr.chk at h ⊢
  by_cases h1 : (!Fr.isInt (Fr.numT s.data.toList) || !Fr.isInt (Fr.denT s.data.toList)) = true
  · rw [if_pos h1]
    refine parse_form s w hst hs ?_
    cases hn : Fr.isInt (Fr.numT s.data.toList) with
    | false => exact .inl rfl
    | true => rw [hn] at h1; exact .inr ⟨rfl, by simpa using h1⟩
  · rw [if_neg h1] at h ⊢
    simp only [Bool.or_eq_true, Bool.not_eq_true', not_or, Bool.not_eq_false] at h1
    by_cases h2 : (Fr.isLong (Fr.numT s.data.toList) || Fr.isLong (Fr.denT s.data.toList)) = true
    · rw [if_pos h2]
      refine parse_large s w hst hs h1.1 h1.2 ?_
      cases hn : Fr.isLong (Fr.numT s.data.toList) with
      | true => exact .inl rfl
      | false => rw [hn] at h2; exact .inr ⟨rfl, by simpa using h2⟩
    · rw [if_neg h2] at h ⊢
      simp only [Bool.or_eq_true, not_or, Bool.not_eq_true] at h2
      refine parse_rest s w hst hs h1.1 h1.2 h2.1 h2.2 _ ?_ ?_
      · intro hc e w' hb
        rw [chk_cond] at hc
        rw [if_pos hc]
        exact hb
      · intro hc e w' hb
        rw [chk_cond] at hc
        rw [hc] at h
        exact absurd rfl h

theorem parse_good (s : ByteArray) (w : World) (hst : St w) (hs : s.size ≤ 800) (h : Fr.chk s.data.toList = 0) :
    Calls Tryz.prog 87 #[.string s] w (GoodQ w (Fr.rat s.data.toList)) := by
  obtain ⟨h1, h2, h3, h4, h5, h6, h7⟩ := Fr.chk_zero h
  have hd := Fr.den_pos h
  refine parse_rest s w hst hs h1 h2 h3 h4 _ ?_ ?_
  · intro hc
    exfalso
    rw [chk_cond] at hc
    unfold Fr.chk at h
    rw [h1, h2, h3, h4, hc] at h
    exact absurd h (by decide)
  · rintro hc e w' ⟨x, r1, r2, r3, r4⟩
    rw [Fr.bare_of_not h5] at r3
    exact ⟨x, r1, r2, ⟨_, _, _, r3, hd, (Fr.rat_num h).symm⟩, r4⟩

end Go.Proofs.YtldclpdmcopgnaaGreatDoor

namespace Go.Proofs.YtldclpdmcopgnaaGreatDoor
open Go.RowKit

theorem RatQ.form {w : World} {x : Value} {q : Rat} {p : Nat} (h : RatQ w x q p) : ∃ b ua ul uc va vl vc, x = .agg #[.bool b, .slice ua ul uc, .slice va vl vc] := by
  obtain ⟨b, m, n, ⟨u, v, rfl, hu, hv⟩, _⟩ := h
  obtain ⟨ua, ul, uc, rfl⟩ := hu.form
  obtain ⟨va, vl, vc, rfl⟩ := hv.form
  exact ⟨b, ua, ul, uc, va, vl, vc, rfl⟩
theorem frac_q {x : Value} {q : Rat} {p : Nat} {w : World} (h : RatQ w x q p) (hp : p ≤ 300) : Calls Tryz.prog 112 #[x] w (OutPost w (Fr.out q)) := by
  obtain ⟨b, m, n, h1, h2, rfl⟩ := h
  exact frac_any x b m n p w h1 h2 hp
theorem opposite_q {x : Value} {q : Rat} {p : Nat} {w : World} (h : RatQ w x q p) : Calls Tryz.prog 136 #[x] w fun e w' => ∃ y, e = .returned y ∧ Below w.heap.size w w' ∧ RatQ w' y (-q) p := by
  obtain ⟨b, m, n, h1, h2, rfl⟩ := h
  exact (opposite_any x b m n p w h1).mono fun e w' ⟨y, r1, r2, r3⟩ => ⟨y, r1, r2, _, _, _, r3, h2, Fr.num_neg b m n⟩
theorem sign_q {x : Value} {q : Rat} {p : Nat} {w : World} (h : RatQ w x q p) : Calls Tryz.prog 88 #[x] w fun e w' => e = .returned (.int .i64 (Fr.sgnQ q)) ∧ Below w.heap.size w w' := by
  obtain ⟨b, m, n, h1, h2, rfl⟩ := h
  rw [Fr.sgnQ_num b m n h2]
  exact sign_any x b m n p w h1

set_option maxRecDepth 100000 in
theorem fCheck_any (s : ByteArray) (w : World) (hst : St w) (hs : s.size ≤ 800) :
    Calls Tryz.prog 52 #[.string s] w fun e w' => e = .returned (.int .i64 (Fr.chk s.data.toList)) ∧ Below w.heap.size w w' := by
  by_cases h : Fr.chk s.data.toList = 0
  · have CP := Lib.hid (parse_good s w hst hs h)
    rw [h]
    clear hst h
    go_enter Tryz.func52, Tryz.ntmps52
    go_wp2_with (go_at_call 87; refine (CP.out).mono ?_; rintro e w1 ⟨x, rfl, hb1, hx, _⟩; obtain ⟨xb, xa, xl, xc, ya, yl, yc, rfl⟩ := hx.form)
    go_ret
    exact ⟨rfl, hb1.alloc hb1.size _⟩
  · have CP := Lib.hid (parse_bad s w hst hs h)
    generalize Fr.chk s.data.toList = c at *
    clear hst h
    go_enter Tryz.func52, Tryz.ntmps52
    go_wp2_with (go_at_call 87; refine (CP.out).mono ?_; rintro e w1 ⟨rfl, hb1⟩)
    go_ret
    exact ⟨rfl, hb1.alloc hb1.size _⟩

/-- What a function with one text returns: the error of the text, or a result. -/
def un (s : List UInt8) (o : List UInt8 × Int) : List UInt8 × Int := if Fr.chk s = 0 then o else ([], Fr.chk s)

set_option maxRecDepth 100000 in
set_option maxHeartbeats 1000000 in
theorem fNeg_any (s : ByteArray) (w : World) (hst : St w) (hs : s.size ≤ 800) :
    Calls Tryz.prog 106 #[.string s] w (OutPost w (un s.data.toList (Fr.out (-(Fr.rat s.data.toList))))) := by
  by_cases h : Fr.chk s.data.toList = 0
  · have CP := Lib.hid (parse_good s w hst hs h)
    have HU := Lib.hid (show un s.data.toList (Fr.out (-(Fr.rat s.data.toList))) = Fr.out (-(Fr.rat s.data.toList)) from if_pos h)
    rw [HU.out]
    clear hst h HU
    generalize Fr.rat s.data.toList = q at *
    go_enter Tryz.func106, Tryz.ntmps106
    go_wp2_with (go_at_call 87; refine (CP.out).mono ?_; rintro e w1 ⟨x, rfl, hb1, hx, _⟩; obtain ⟨xb, xa, xl, xc, ya, yl, yc, rfl⟩ := hx.form)
    have hB1 := hb1.alloc hb1.size (.cells #[.bool xb, .slice xa xl xc, .slice ya yl yc] 105)
    have H1 := hx.below ((Below.refl w1.heap.size w1).alloc (Nat.le_refl _) (.cells #[.bool xb, .slice xa xl xc, .slice ya yl yc] 105)) (Nat.le_refl _)
    refine (opposite_q H1).mono ?_
    rintro e w3 ⟨y2, rfl, hb3, H2⟩
    have hB2 := hB1.trans (hb3.mono (by first | exact hB1.size | (simp; have := hb1.size; omega)))
    go_wp2_with fail
    refine (frac_q H2 (by omega)).mono ?_
    rintro e w4 ⟨rfl, hb4⟩
    have hB3 := hB2.trans (hb4.mono (by first | exact hB2.size | (simp; have := hb1.size; omega)))
    go_wp2
    go_ret2
    exact ⟨rfl, hB3⟩
  · have CP := Lib.hid (parse_bad s w hst hs h)
    have HU := Lib.hid (show un s.data.toList (Fr.out (-(Fr.rat s.data.toList))) = ([], Fr.chk s.data.toList) from if_neg h)
    rw [HU.out]
    have hne : (Fr.chk s.data.toList != 0) = true := by simpa using h
    clear hst h HU
    generalize Fr.chk s.data.toList = c at *
    go_enter Tryz.func106, Tryz.ntmps106
    go_wp2_with (go_at_call 87; refine (CP.out).mono ?_; rintro e w1 ⟨rfl, hb1⟩)
    go_ret2
    exact ⟨rfl, hb1.alloc hb1.size _⟩

end Go.Proofs.YtldclpdmcopgnaaGreatDoor

namespace Go.Proofs.YtldclpdmcopgnaaGreatDoor
open Go.RowKit

/-- What the package variables for errors of numbers hold when a call begins. -/
structure StE (w : World) : Prop where
  range : ∃ tp p, w.var? Tryz.prog "strconv.ErrRange" = some #[.iface tp p]
  form : ∃ tp p, w.var? Tryz.prog "strconv.ErrSyntax" = some #[.iface tp p]
set_option maxRecDepth 100000 in
set_option maxHeartbeats 1000000 in
theorem fSign_any (s : ByteArray) (w : World) (hst : St w) (hs : s.size ≤ 800) :
    Calls Tryz.prog 49 #[.string s] w fun e w' => e = .returned (.tuple #[.int .i64 (if Fr.chk s.data.toList = 0 then Fr.sgnQ (Fr.rat s.data.toList) else 0), .int .i64 (Fr.chk s.data.toList)]) ∧ Below w.heap.size w w' := by
  by_cases h : Fr.chk s.data.toList = 0
  · have CP := Lib.hid (parse_good s w hst hs h)
    rw [if_pos h, h]
    clear hst h
    generalize Fr.rat s.data.toList = q at *
    go_enter Tryz.func49, Tryz.ntmps49
    go_wp2_with (go_at_call 87; refine (CP.out).mono ?_; rintro e w1 ⟨x, rfl, hb1, hx, _⟩; obtain ⟨xb, xa, xl, xc, ya, yl, yc, rfl⟩ := hx.form)
    have hB1 := hb1.alloc hb1.size (.cells #[.bool xb, .slice xa xl xc, .slice ya yl yc] 105)
    have H1 := hx.below ((Below.refl w1.heap.size w1).alloc (Nat.le_refl _) (.cells #[.bool xb, .slice xa xl xc, .slice ya yl yc] 105)) (Nat.le_refl _)
    refine (sign_q H1).mono ?_
    rintro e w3 ⟨rfl, hb3⟩
    have hB2 := hB1.trans (hb3.mono (by first | exact hB1.size | (simp; have := hb1.size; omega)))
    go_wp2
    go_ret2
    exact ⟨rfl, hB2⟩
  · have CP := Lib.hid (parse_bad s w hst hs h)
    rw [if_neg h]
    have hne : (Fr.chk s.data.toList != 0) = true := by simpa using h
    clear hst h
    generalize Fr.chk s.data.toList = c at *
    go_enter Tryz.func49, Tryz.ntmps49
    go_wp2_with (go_at_call 87; refine (CP.out).mono ?_; rintro e w1 ⟨rfl, hb1⟩)
    go_ret2
    exact ⟨rfl, hb1.alloc hb1.size _⟩

/-- Both texts of a fraction, or none. -/
def partsV (s : ByteArray) : ByteArray × ByteArray := if Fr.chk s.data.toList = 0 then (numB s, denB s) else (⟨#[]⟩, ⟨#[]⟩)

set_option maxRecDepth 100000 in
set_option maxHeartbeats 1000000 in
theorem fParts_any (s : ByteArray) (w : World) (hst : St w) (hs : s.size ≤ 800) :
    Calls Tryz.prog 128 #[.string s] w fun e w' => e = .returned (.tuple #[.string (partsV s).1, .string (partsV s).2, .int .i64 (Fr.chk s.data.toList)]) ∧ Below w.heap.size w w' := by
  have CC := Lib.hid (fCheck_any s w hst hs)
  have CS := fun W hW => Lib.hid (split_any s W (hst.next hW) (by omega))
  unfold partsV
  by_cases h : Fr.chk s.data.toList = 0
  · rw [if_pos h, h]
    rw [h] at CC
    clear hst h
    generalize numB s = a at *
    generalize denB s = b at *
    generalize (Fr.cut s.data.toList).2.isSome = t at *
    go_enter Tryz.func128, Tryz.ntmps128
    go_wp2_with (first
      | (go_at_call 52; refine (CC.out).mono ?_; rintro e w1 ⟨rfl, hb1⟩)
      | (go_at_call 113; refine ((CS _ hb1).out).mono ?_; rintro e w2 ⟨rfl, n, rfl⟩))
    go_ret3
    exact ⟨rfl, hb1.trans ⟨rfl, rfl, rfl, Nat.le_refl _, fun _ _ => rfl⟩⟩
  · rw [if_neg h]
    have hne : (Fr.chk s.data.toList != 0) = true := by simpa using h
    clear hst h
    generalize Fr.chk s.data.toList = c at *
    go_enter Tryz.func128, Tryz.ntmps128
    go_wp2_with (go_at_call 52; refine (CC.out).mono ?_; rintro e w1 ⟨rfl, hb1⟩)
    go_ret3
    exact ⟨rfl, hb1⟩

/-- What parseBoth leaves for two fractions. -/
def GoodTwo (w : World) (p q : Rat) (e : Ending) (w' : World) : Prop := ∃ x y, e = .returned (.tuple #[x, y, .int .i64 0]) ∧ Below w.heap.size w w' ∧ RatQ w' x p 120 ∧ RatQ w' y q 120
/-- What parseBoth leaves where a text is none. -/
def BadTwo (w : World) (c : Int) (e : Ending) (w' : World) : Prop := e = .returned (.tuple #[.agg #[.bool false, .slice none 0 0, .slice none 0 0], .agg #[.bool false, .slice none 0 0, .slice none 0 0], .int .i64 c]) ∧ Below w.heap.size w w'

/-- The first error of two texts. -/
def two (s t : List UInt8) : Int := if Fr.chk s = 0 then Fr.chk t else Fr.chk s

theorem RatQ.put3 {w : World} {x : Value} {q : Rat} {p B g : Nat} (h : RatQ w x q p) (hn : Newer B x) (hg : g < B) (a b c : Value) : RatQ (((w.setCell ⟨g, 0, none⟩ a).setCell ⟨g, 1, none⟩ b).setCell ⟨g, 2, none⟩ c) x q p := by
  obtain ⟨s, m, n, ⟨u, v, rfl, hu, hv⟩, h2, h3⟩ := h
  obtain ⟨hu1, hv1⟩ := hn s u v rfl g hg
  exact ⟨s, m, n, ⟨u, v, rfl, ((hu.put hu1 _).put hu1 _).put hu1 _, ((hv.put hv1 _).put hv1 _).put hv1 _⟩, h2, h3⟩
theorem below_put3 {B : Nat} {w W : World} (h : Below B w W) {g : Nat} (hg : B ≤ g) (a b c : Value) : Below B w (((W.setCell ⟨g, 0, none⟩ a).setCell ⟨g, 1, none⟩ b).setCell ⟨g, 2, none⟩ c) :=
  ((h.setCell (p := ⟨g, 0, none⟩) hg a).setCell (p := ⟨g, 1, none⟩) hg b).setCell (p := ⟨g, 2, none⟩) hg c
theorem fresh_two (w : World) (o : Obj) (T : TypeId) : Fresh ((w.alloc (.cells #[.bool false, .slice none 0 0, .slice none 0 0] T)).alloc o) w.heap.size :=
  (fresh_one w T).below ((Below.refl _ _).alloc (Nat.le_refl _) _)
theorem fresh_two2 (w : World) (o : Obj) (T : TypeId) : Fresh ((w.alloc o).alloc (.cells #[.bool false, .slice none 0 0, .slice none 0 0] T)) (w.heap.size + 1) := by
  have h := fresh_one (w.alloc o) T
  have e : (w.alloc o).heap.size = w.heap.size + 1 := by simp
  rw [e] at h; exact h

theorem RatQ.drew {w : World} {x : Value} {q : Rat} {p : Nat} (h : RatQ w x q p) : RatQ w.drew x q p := by
  obtain ⟨b, m, n, ⟨u, v, h1, h2, h3⟩, h4⟩ := h
  exact ⟨b, m, n, ⟨u, v, h1, h2.drew, h3.drew⟩, h4⟩

set_option maxRecDepth 100000 in
set_option maxHeartbeats 1000000 in
theorem both_good (s t : ByteArray) (w : World) (hst : St w) (hs : s.size ≤ 800) (ht : t.size ≤ 800) (h1 : Fr.chk s.data.toList = 0) (h2 : Fr.chk t.data.toList = 0) :
    Calls Tryz.prog 110 #[.string s, .string t] w (GoodTwo w (Fr.rat s.data.toList) (Fr.rat t.data.toList)) := by
  have CP := fun W hW => Lib.hid (parse_good s W (hst.next hW) hs h1)
  have CQ := fun W hW => Lib.hid (parse_good t W (hst.next hW) ht h2)
  clear hst h1 h2
  generalize Fr.rat s.data.toList = p at *
  generalize Fr.rat t.data.toList = q at *
  have hb0 : ∀ o1 o2, Below w.heap.size w ((w.alloc o1).alloc o2) := fun o1 o2 => ((Below.refl _ _).alloc (Nat.le_refl _) _).alloc (by simp) _
  go_enter Tryz.func110, Tryz.ntmps110
  go_wp2_with fail
  refine ((CP _ (hb0 _ _)).out).mono ?_
  rintro e w1 ⟨x, rfl, hb1, hx, hn1⟩
  have F1 := (fresh_two w _ _).below hb1
  have F2 := (fresh_two2 w _ _).below hb1
  have hs0 := F2.1
  have HN1 := Lib.hid (show Newer (w.heap.size + 2) x by simpa using hn1)
  clear hn1
  obtain ⟨xb, xa, xl, xc, ya, yl, yc, rfl⟩ := hx.form
  have hB1 := (hb0 _ _).trans (hb1.mono (by simp <;> omega))
  have hA := (Below.refl w1.heap.size w1).alloc (Nat.le_refl _) (.cells #[.bool xb, .slice xa xl xc, .slice ya yl yc] 105)
  have H1 := Lib.hid (hx.below hA (Nat.le_refl _))
  have hB2 := hB1.trans (hA.mono hB1.size)
  clear hx hb1
  go_wp2_with fail
  refine ((CQ _ hB2).out).mono ?_
  rintro e w2 ⟨y, rfl, hb2, hy, hn2⟩
  have F3 := (F1.below hA).below hb2
  have F4 := (F2.below hA).below hb2
  have HN2 := Lib.hid (show Newer (w.heap.size + 2) y from fun b u v he g hg => hn2 b u v he g (by simp; omega))
  clear hn2 F1 F2
  obtain ⟨zb, za, zl, zc, ta, tl, tc, rfl⟩ := hy.form
  have HX := Lib.hid (H1.out.below hb2 (Nat.le_refl _))
  have hB3 := hB2.trans (hb2.mono hB2.size)
  have c0 : w2.cell? ⟨w1.heap.size, 0, none⟩ = some (.bool xb) := (hb2.cell (p := ⟨w1.heap.size, 0, none⟩) (by simp <;> omega)).trans (by simp)
  have c1 : w2.cell? ⟨w1.heap.size, 1, none⟩ = some (.slice xa xl xc) := (hb2.cell (p := ⟨w1.heap.size, 1, none⟩) (by simp <;> omega)).trans (by simp)
  have c2 : w2.cell? ⟨w1.heap.size, 2, none⟩ = some (.slice ya yl yc) := (hb2.cell (p := ⟨w1.heap.size, 2, none⟩) (by simp <;> omega)).trans (by simp)
  have hsz : w1.heap.size < w2.heap.size := by have := hb2.size; simp at this; omega
  have hA2 := (Below.refl w2.heap.size w2).alloc (Nat.le_refl _) (.cells #[.bool zb, .slice za zl zc, .slice ta tl tc] 105)
  have HY := Lib.hid (hy.below hA2 (Nat.le_refl _))
  have HX2 := Lib.hid (HX.out.below hA2 (Nat.le_refl _))
  have HY2 := Lib.hid HY.out
  have hB4 := hB3.trans (hA2.mono hB3.size)
  have F5 := F3.below hA2
  have F6 := F4.below hA2
  have past : ∀ (o : Obj) (i : Nat), (w2.alloc o).cell? ⟨w1.heap.size, i, none⟩ = w2.cell? ⟨w1.heap.size, i, none⟩ := fun o i => World.cell?_of_block (w := w2) (Below.heap_alloc w2 o _ hsz)
  have g0 := (past (.cells #[.bool zb, .slice za zl zc, .slice ta tl tc] 105) 0).trans c0
  have g1 := (past (.cells #[.bool zb, .slice za zl zc, .slice ta tl tc] 105) 1).trans c1
  have g2 := (past (.cells #[.bool zb, .slice za zl zc, .slice ta tl tc] 105) 2).trans c2
  have d0 : (w2.alloc (.cells #[.bool zb, .slice za zl zc, .slice ta tl tc] 105)).cell? ⟨w2.heap.size, 0, none⟩ = some (.bool zb) := by simp
  have d1 : (w2.alloc (.cells #[.bool zb, .slice za zl zc, .slice ta tl tc] 105)).cell? ⟨w2.heap.size, 1, none⟩ = some (.slice za zl zc) := by simp
  have d2 : (w2.alloc (.cells #[.bool zb, .slice za zl zc, .slice ta tl tc] 105)).cell? ⟨w2.heap.size, 2, none⟩ = some (.slice ta tl tc) := by simp
  have hs2 : w.heap.size + 1 < w2.heap.size := F4.1
  clear hy hb2 hA hA2 F3 F4 c0 c1 c2 past
  go_wp2
  generalize w2.alloc (.cells #[.bool zb, .slice za zl zc, .slice ta tl tc] 105) = W4 at *
  obtain ⟨q0, q1, q2, q3, q4, q5, q6⟩ := F5
  obtain ⟨r0, r1, r2, r3, r4, r5, r6⟩ := F6
  clear H1 HX HY hB1 hB2 hB3
  go_region
  all_goals (try go_wp2)
  all_goals refine bodyPost_ret (v := .tuple #[.agg #[.bool xb, .slice xa xl xc, .slice ya yl yc], .agg #[.bool zb, .slice za zl zc, .slice ta tl tc], .int .i64 0]) (by simp [results, Tryz.results110, go_sem, q1, q2, q3, r1, r2, r3]) rfl ?_
  all_goals exact ⟨_, _, rfl, (below_put3 (below_put3 hB4 (Nat.le_refl _) _ _ _) (Nat.le_succ _) _ _ _).drew, ((HX2.out.put3 HN1.out (by omega) _ _ _).put3 HN1.out (by omega) _ _ _).drew, ((HY2.out.put3 HN2.out (by omega) _ _ _).put3 HN2.out (by omega) _ _ _).drew⟩

set_option maxRecDepth 100000 in
set_option maxHeartbeats 1000000 in
theorem both_bad (s t : ByteArray) (w : World) (hst : St w) (hs : s.size ≤ 800) (ht : t.size ≤ 800) (h : two s.data.toList t.data.toList ≠ 0) :
    Calls Tryz.prog 110 #[.string s, .string t] w (BadTwo w (two s.data.toList t.data.toList)) := by
  unfold two at h ⊢
  by_cases h1 : Fr.chk s.data.toList = 0
  · rw [if_pos h1] at h ⊢
    have CP := fun W hW => Lib.hid (parse_good s W (hst.next hW) hs h1)
    have CQ := fun W hW => Lib.hid (parse_bad t W (hst.next hW) ht h)
    have hne : (Fr.chk t.data.toList != 0) = true := by simpa using h
    clear hst h h1
    generalize Fr.chk t.data.toList = c at *
    generalize Fr.rat s.data.toList = q at *
    have hb0 : ∀ o1 o2, Below w.heap.size w ((w.alloc o1).alloc o2) := fun o1 o2 => ((Below.refl _ _).alloc (Nat.le_refl _) _).alloc (by simp) _
    go_enter Tryz.func110, Tryz.ntmps110
    go_wp2_with fail
    refine ((CP _ (hb0 _ _)).out).mono ?_
    rintro e w1 ⟨x, rfl, hb1, hx, hn1⟩
    obtain ⟨xb, xa, xl, xc, ya, yl, yc, rfl⟩ := hx.form
    have F1 := (fresh_two w _ _).below hb1
    have F2 := (fresh_two2 w _ _).below hb1
    have hB1 := (hb0 _ _).trans (hb1.mono (by simp <;> omega))
    have hA := (Below.refl w1.heap.size w1).alloc (Nat.le_refl _) (.cells #[.bool xb, .slice xa xl xc, .slice ya yl yc] 105)
    have hB2 := hB1.trans (hA.mono hB1.size)
    clear hx hb1 hn1
    go_wp2_with fail
    refine ((CQ _ hB2).out).mono ?_
    rintro e w2 ⟨rfl, hb2⟩
    have hB3 := hB2.trans (hb2.mono hB2.size)
    have hA2 := (Below.refl w2.heap.size w2).alloc (Nat.le_refl _) (.cells #[.bool false, .slice none 0 0, .slice none 0 0] 105)
    have hB4 := hB3.trans (hA2.mono hB3.size)
    obtain ⟨q0, q1, q2, q3, q4, q5, q6⟩ := ((F1.below hA).below hb2).below hA2
    obtain ⟨r0, r1, r2, r3, r4, r5, r6⟩ := ((F2.below hA).below hb2).below hA2
    clear F1 F2 hb2 hA hA2
    go_wp2
    generalize w2.alloc (.cells #[.bool false, .slice none 0 0, .slice none 0 0] 105) = W4 at *
    all_goals (try go_wp2)
    all_goals refine bodyPost_ret (v := .tuple #[.agg #[.bool false, .slice none 0 0, .slice none 0 0], .agg #[.bool false, .slice none 0 0, .slice none 0 0], .int .i64 c]) (by simp [results, Tryz.results110, go_sem, q1, q2, q3, r1, r2, r3]) rfl ?_
    all_goals exact ⟨rfl, below_put3 (below_put3 hB4 (Nat.le_refl _) _ _ _) (Nat.le_succ _) _ _ _⟩
  · rw [if_neg h1] at h ⊢
    have CP := fun W hW => Lib.hid (parse_bad s W (hst.next hW) hs h1)
    have hne : (Fr.chk s.data.toList != 0) = true := by simpa using h
    clear hst h h1
    generalize Fr.chk s.data.toList = c at *
    have hb0 : ∀ o1 o2, Below w.heap.size w ((w.alloc o1).alloc o2) := fun o1 o2 => ((Below.refl _ _).alloc (Nat.le_refl _) _).alloc (by simp) _
    go_enter Tryz.func110, Tryz.ntmps110
    go_wp2_with fail
    refine ((CP _ (hb0 _ _)).out).mono ?_
    rintro e w1 ⟨rfl, hb1⟩
    have hB1 := (hb0 _ _).trans (hb1.mono (by simp <;> omega))
    have hA2 := (Below.refl w1.heap.size w1).alloc (Nat.le_refl _) (.cells #[.bool false, .slice none 0 0, .slice none 0 0] 105)
    have hB4 := hB1.trans (hA2.mono hB1.size)
    obtain ⟨q0, q1, q2, q3, q4, q5, q6⟩ := ((fresh_two w _ _).below hb1).below hA2
    obtain ⟨r0, r1, r2, r3, r4, r5, r6⟩ := ((fresh_two2 w _ _).below hb1).below hA2
    clear hb1 hA2
    go_wp2
    generalize w1.alloc (.cells #[.bool false, .slice none 0 0, .slice none 0 0] 105) = W4 at *
    all_goals (try go_wp2)
    all_goals refine bodyPost_ret (v := .tuple #[.agg #[.bool false, .slice none 0 0, .slice none 0 0], .agg #[.bool false, .slice none 0 0, .slice none 0 0], .int .i64 c]) (by simp [results, Tryz.results110, go_sem, q1, q2, q3, r1, r2, r3]) rfl ?_
    all_goals exact ⟨rfl, below_put3 (below_put3 hB4 (Nat.le_refl _) _ _ _) (Nat.le_succ _) _ _ _⟩

end Go.Proofs.YtldclpdmcopgnaaGreatDoor

