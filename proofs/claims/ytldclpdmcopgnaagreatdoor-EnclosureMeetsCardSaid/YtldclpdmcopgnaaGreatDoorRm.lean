/- The contracts of the reference's functions on numbers: num, turned, upside, product. -/
import Derived.Test.YtldclpdmcopgnaaGreatDoorRk
namespace Go.Proofs.YtldclpdmcopgnaaGreatDoor
open Go.RowKit

/-- A struct value of the reference is a quotient with a sign. -/
def RNum (w : World) (x : Value) (b : Bool) (m n p : Nat) : Prop := ∃ u v, x = .agg #[.bool b, u, v] ∧ IsNat .i64 1000000 w u m p ∧ IsNat .i64 1000000 w v n p
theorem RNum.below {w w' : World} {x : Value} {b : Bool} {m n p : Nat} (h : RNum w x b m n p) {C : Nat} (hb : Below C w w') (hC : w.heap.size ≤ C) : RNum w' x b m n p := by
  obtain ⟨u, v, h1, h2, h3⟩ := h
  exact ⟨u, v, h1, h2.below hb hC, h3.below hb hC⟩
theorem RNum.form {w : World} {x : Value} {b : Bool} {m n p : Nat} (h : RNum w x b m n p) : ∃ ua ul uc va vl vc, x = .agg #[.bool b, .slice ua ul uc, .slice va vl vc] := by
  obtain ⟨u, v, rfl, hu, hv⟩ := h
  obtain ⟨ua, ul, uc, rfl⟩ := hu.form
  obtain ⟨va, vl, vc, rfl⟩ := hv.form
  exact ⟨ua, ul, uc, va, vl, vc, rfl⟩
def RNumPost (w : World) (b : Bool) (m n p : Nat) (e : Ending) (w' : World) : Prop := ∃ x, e = .returned x ∧ Below w.heap.size w w' ∧ RNum w' x b m n p
/-- A struct value of the reference is a rational number. -/
def RQ (w : World) (x : Value) (q : Rat) (p : Nat) : Prop := ∃ b m n, RNum w x b m n p ∧ 0 < n ∧ Fr.num b m n = q
theorem RQ.below {w w' : World} {x : Value} {q : Rat} {p : Nat} (h : RQ w x q p) {C : Nat} (hb : Below C w w') (hC : w.heap.size ≤ C) : RQ w' x q p := by
  obtain ⟨b, m, n, h1, h2⟩ := h
  exact ⟨b, m, n, h1.below hb hC, h2⟩
def RQPost (w : World) (q : Rat) (p : Nat) (e : Ending) (w' : World) : Prop := ∃ x, e = .returned x ∧ Below w.heap.size w w' ∧ RQ w' x q p

theorem first_is {a : ByteArray} {b : Bool} (hp : 0 < a.size) (h : Fr.isNeg a.data.toList = b) : (((a[0]'hp).toNat : Int) == 45) = b := by
  rcases first_neg hp with ⟨f1, f2⟩ | ⟨f1, f2⟩
  · rw [h] at f2; rw [f2, beq_iff_eq]; exact f1
  · rw [h] at f2; rw [f2, beq_eq_false_iff_ne]; exact f1

set_option maxRecDepth 100000 in
set_option maxHeartbeats 2000000 in
theorem rnum_any (s : ByteArray) (w : World) (hs : s.size ≤ 800) (h : Fr.chk s.data.toList = 0) :
    Calls Tryz.prog 98 #[.string s] w (RQPost w (Fr.rat s.data.toList) 20) := by
  obtain ⟨h1, h2, h3, h4, h5, h6, h7⟩ := Fr.chk_zero h
  have hd := Fr.den_pos h
  rw [Fr.rat_num h]
  have n1 := numB_size s
  have n2 := denB_size s
  have l1 := short_bare (s := numB s) h3
  have l2 : (denB s).size ≤ 60 := by
    have h8 := short_bare (s := denB s) h4
    have h9 : (bareB (denB s)).size = (Fr.bare (Fr.denT s.data.toList)).length := bareB_size (denB s)
    rw [Fr.bare_of_not h5] at h9
    have h10 : (denB s).size = (Fr.denT s.data.toList).length := rfl
    omega
  have k1 : (bareB (numB s)).data.toList.all Fr.isDig = true := Fr.isInt_all h1
  have k2 : (denB s).data.toList.all Fr.isDig = true := by
    have h8 := Fr.isInt_all h2
    rw [Fr.bare_of_not h5] at h8
    exact h8
  have hpos : 0 < (numB s).size := by
    rcases Nat.eq_zero_or_pos (numB s).size with h8 | h8
    · exact absurd (List.eq_nil_of_length_eq_zero (show (Fr.numT s.data.toList).length = 0 from h8)) (Fr.isInt_nonempty h1)
    · exact h8
  have CS := fun W => Lib.hid (rSplit_any s W (by omega))
  have CB := Lib.hid (rbare_any (numB s))
  have CR := fun W => Lib.hid (rread_own (bareB (numB s)) W (by omega) k1)
  have CQ := fun W => Lib.hid (rread_own (denB s) W (by omega) k2)
  have hv1 : Fr.dv (bareB (numB s)).data.toList = Fr.dv (Fr.bare (Fr.numT s.data.toList)) := rfl
  have hv2 : Fr.dv (denB s).data.toList = Fr.dv (Fr.denT s.data.toList) := rfl
  rw [hv1] at CR
  rw [hv2] at CQ
  have hf := first_is hpos (show Fr.isNeg (numB s).data.toList = Fr.isNeg (Fr.numT s.data.toList) from rfl)
  clear h h1 h2 h3 h4 h5 h6 h7 k1 k2 n1 n2 hv1 hv2
  generalize Fr.isNeg (Fr.numT s.data.toList) = c at *
  generalize Fr.dv (Fr.bare (Fr.numT s.data.toList)) = M at *
  generalize Fr.dv (Fr.denT s.data.toList) = K at *
  generalize bareB (numB s) = ab at *
  generalize numB s = a at *
  generalize denB s = b at *
  go_enter Tryz.func98, Tryz.ntmps98
  go_wp2_with (go_at_call 89; refine ((CS _).out).mono ?_; rintro e w' ⟨rfl, n0, rfl⟩)
  have hF0 : ∀ k, Fresh ((w.alloc (.cells #[.bool false, .slice none 0 0, .slice none 0 0] 119)).drewN k) w.heap.size := fun k => (fresh_one w _).drewN k
  have hb0 : ∀ k, Below w.heap.size w ((w.alloc (.cells #[.bool false, .slice none 0 0, .slice none 0 0] 119)).drewN k) := fun k => ((Below.refl _ _).alloc (Nat.le_refl _) _).trans (below_drewN _ _)
  go_region_with (first
    | (go_at_call 95; refine (CB.out _).mono ?_; rintro e w' ⟨rfl, rfl⟩)
    | (go_at_call 94; (with_reducible refine ((CR _).out).mono ?_); rintro e w1 ⟨r1, rfl, hb1, hr1, hn1⟩; have hF1 := (by first | exact (hF0 _).below hb1 | exact ((hF0 _).drew).below hb1 : Fresh w1 w.heap.size); have hB1 := (hb0 _).trans (hb1.mono (by simp)); have hs1 := hF1.1)
    | (go_at_call 94; (with_reducible refine ((CQ _).out).mono ?_); rintro e w2 ⟨r2, rfl, hb2, hr2, hn2⟩; obtain ⟨r1a, r1l, r1c, rfl⟩ := hr1.form; obtain ⟨r2a, r2l, r2c, rfl⟩ := hr2.form; have hF2 := hF1.below hb2; obtain ⟨q0, q1, q2, q3, q4, q5, q6⟩ := hF2))
  all_goals
    go_wp2
    have hB2 := hB1.trans (hb2.mono hB1.size)
    have g1 := hn1 w.heap.size (by simp)
    have g2 := hn2 w.heap.size hF1.1
    have hfin := ((hB2.setCell (p := ⟨w.heap.size, 0, none⟩) (Nat.le_refl _) (.bool c)).setCell (p := ⟨w.heap.size, 1, none⟩) (Nat.le_refl _) (.slice r1a r1l r1c)).setCell (p := ⟨w.heap.size, 2, none⟩) (Nat.le_refl _) (.slice r2a r2l r2c)
    refine bodyPost_ret (v := .agg #[.bool c, .slice r1a r1l r1c, .slice r2a r2l r2c]) (by simp [results, Tryz.results98, go_sem, q1, q2, q3]) rfl ⟨_, rfl, hfin, c, M, K, ⟨_, _, rfl, ((((hr1.below hb2 (Nat.le_refl _)).put g1 _).put g1 _).put g1 _).up (by omega), (((hr2.put g2 _).put g2 _).put g2 _).up (by omega)⟩, hd, rfl⟩

end Go.Proofs.YtldclpdmcopgnaaGreatDoor

