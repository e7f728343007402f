/- The contract of the function of package fraction that reads fractions: parse. -/
import Derived.Test.YtldclpdmcopgnaaGreatDoorPg
namespace Go.Proofs.YtldclpdmcopgnaaGreatDoor
open Go.RowKit

theorem cut_len : ∀ l : List UInt8, (Fr.numT l).length ≤ l.length ∧ (Fr.denT l).length ≤ l.length + 1
  | [] => by decide
  | c :: l => by
    have ih := cut_len l
    unfold Fr.numT Fr.denT at *
    rw [Fr.cut]
    split
    · simp; omega
    · simp only [List.length_cons]; omega
theorem numB_size (s : ByteArray) : (numB s).size ≤ s.size := (cut_len s.data.toList).1
theorem denB_size (s : ByteArray) : (denB s).size ≤ s.size + 1 := (cut_len s.data.toList).2

theorem isInt_lit {s : ByteArray} {b : Bool} (h : Fr.isInt s.data.toList = b) (hs : s.size ≤ 1000000) (w : World) :
    Calls Tryz.prog 114 #[.string s] w fun e w' => e = .returned (.bool b) ∧ w = w' := by
  rw [← h]; exact isInteger_any s w hs
theorem isLong_lit {s : ByteArray} {b : Bool} (h : Fr.isLong s.data.toList = b) (w : World) :
    Calls Tryz.prog 115 #[.string s] w fun e w' => e = .returned (.bool b) ∧ w = w' := by
  rw [← h]; exact isLong_any s w

/-- What parse leaves for a text that is no fraction. -/
def BadPost (w : World) (c : Int) (e : Ending) (w' : World) : Prop := e = .returned (.tuple #[.agg #[.bool false, .slice none 0 0, .slice none 0 0], .int .i64 c]) ∧ Below w.heap.size w w'
/-- What parse leaves for a fraction. -/
def GoodPost (w : World) (b : Bool) (m n p : Nat) (e : Ending) (w' : World) : Prop := ∃ x, e = .returned (.tuple #[x, .int .i64 0]) ∧ Below w.heap.size w w' ∧ RatIs w' x b m n p ∧ Newer w.heap.size x

set_option maxRecDepth 100000 in
set_option maxHeartbeats 1000000 in
theorem parse_form (s : ByteArray) (w : World) (hst : St w) (hs : s.size ≤ 800) (h : Fr.isInt (Fr.numT s.data.toList) = false ∨ (Fr.isInt (Fr.numT s.data.toList) = true ∧ Fr.isInt (Fr.denT s.data.toList) = false)) :
    Calls Tryz.prog 87 #[.string s] w (BadPost w 3) := by
  have h1 := numB_size s
  have h2 := denB_size s
  have hb0 : ∀ o1, Below w.heap.size w (w.alloc o1) := fun o1 => (Below.refl _ _).alloc (Nat.le_refl _) _
  have CS := fun W (h : Below w.heap.size w W) => Lib.hid (split_any s W (hst.next h) (by omega))
  rcases h with h | ⟨h, h'⟩
  · have CN := Lib.hid (isInt_lit (s := numB s) h (by omega))
    clear hst h h1 h2
    generalize numB s = a at *
    generalize denB s = d at *
    go_enter Tryz.func87, Tryz.ntmps87
    go_wp2_with (first
      | (go_at_call 113; refine ((CS _ (hb0 _)).out).mono ?_; rintro e w' ⟨rfl, n, rfl⟩)
      | (go_at_call 114; (with_reducible refine (CN.out _).mono ?_); rintro e w' ⟨rfl, rfl⟩))
    refine bodyPost_ret (v := .tuple #[.agg #[.bool false, .slice none 0 0, .slice none 0 0], .int .i64 3]) (by simp [results, Tryz.results87, go_sem]) rfl ⟨rfl, ?_⟩
    exact ((((hb0 _).trans (below_drewN _ n)).setCell (Nat.le_refl _) _).setCell (Nat.le_refl _) _).setCell (Nat.le_refl _) _
  · have CN := Lib.hid (isInt_lit (s := numB s) h (by omega))
    have CD := Lib.hid (isInt_lit (s := denB s) h' (by omega))
    clear hst h h' h1 h2
    generalize numB s = a at *
    generalize denB s = d at *
    go_enter Tryz.func87, Tryz.ntmps87
    go_wp2_with (first
      | (go_at_call 113; refine ((CS _ (hb0 _)).out).mono ?_; rintro e w' ⟨rfl, n, rfl⟩)
      | (go_at_call 114; (with_reducible refine (CN.out _).mono ?_); rintro e w' ⟨rfl, rfl⟩)
      | (go_at_call 114; (with_reducible refine (CD.out _).mono ?_); rintro e w' ⟨rfl, rfl⟩))
    refine bodyPost_ret (v := .tuple #[.agg #[.bool false, .slice none 0 0, .slice none 0 0], .int .i64 3]) (by simp [results, Tryz.results87, go_sem]) rfl ⟨rfl, ?_⟩
    exact ((((hb0 _).trans (below_drewN _ n)).setCell (Nat.le_refl _) _).setCell (Nat.le_refl _) _).setCell (Nat.le_refl _) _

set_option maxRecDepth 100000 in
set_option maxHeartbeats 1000000 in
theorem parse_large (s : ByteArray) (w : World) (hst : St w) (hs : s.size ≤ 800) (hn : Fr.isInt (Fr.numT s.data.toList) = true) (hd : Fr.isInt (Fr.denT s.data.toList) = true)
    (h : Fr.isLong (Fr.numT s.data.toList) = true ∨ (Fr.isLong (Fr.numT s.data.toList) = false ∧ Fr.isLong (Fr.denT s.data.toList) = true)) :
    Calls Tryz.prog 87 #[.string s] w (BadPost w 11) := by
  have h1 := numB_size s
  have h2 := denB_size s
  have hb0 : ∀ o1, Below w.heap.size w (w.alloc o1) := fun o1 => (Below.refl _ _).alloc (Nat.le_refl _) _
  have CS := fun W (h : Below w.heap.size w W) => Lib.hid (split_any s W (hst.next h) (by omega))
  have CN := Lib.hid (isInt_lit (s := numB s) hn (by omega))
  have CD := Lib.hid (isInt_lit (s := denB s) hd (by omega))
  rcases h with h | ⟨h, h'⟩
  · have LN := Lib.hid (isLong_lit (s := numB s) h)
    clear hst h h1 h2 hn hd
    generalize numB s = a at *
    generalize denB s = d at *
    go_enter Tryz.func87, Tryz.ntmps87
    go_wp2_with (first
      | (go_at_call 113; refine ((CS _ (hb0 _)).out).mono ?_; rintro e w' ⟨rfl, n, rfl⟩)
      | (go_at_call 114; (with_reducible refine (CN.out _).mono ?_); rintro e w' ⟨rfl, rfl⟩)
      | (go_at_call 114; (with_reducible refine (CD.out _).mono ?_); rintro e w' ⟨rfl, rfl⟩)
      | (go_at_call 115; (with_reducible refine (LN.out _).mono ?_); rintro e w' ⟨rfl, rfl⟩))
    refine bodyPost_ret (v := .tuple #[.agg #[.bool false, .slice none 0 0, .slice none 0 0], .int .i64 11]) (by simp [results, Tryz.results87, go_sem]) rfl ⟨rfl, ?_⟩
    exact ((((hb0 _).trans (below_drewN _ n)).setCell (Nat.le_refl _) _).setCell (Nat.le_refl _) _).setCell (Nat.le_refl _) _
  · have LN := Lib.hid (isLong_lit (s := numB s) h)
    have LD := Lib.hid (isLong_lit (s := denB s) h')
    clear hst h h' h1 h2 hn hd
    generalize numB s = a at *
    generalize denB s = d at *
    go_enter Tryz.func87, Tryz.ntmps87
    go_wp2_with (first
      | (go_at_call 113; refine ((CS _ (hb0 _)).out).mono ?_; rintro e w' ⟨rfl, n, rfl⟩)
      | (go_at_call 114; (with_reducible refine (CN.out _).mono ?_); rintro e w' ⟨rfl, rfl⟩)
      | (go_at_call 114; (with_reducible refine (CD.out _).mono ?_); rintro e w' ⟨rfl, rfl⟩)
      | (go_at_call 115; (with_reducible refine (LN.out _).mono ?_); rintro e w' ⟨rfl, rfl⟩)
      | (go_at_call 115; (with_reducible refine (LD.out _).mono ?_); rintro e w' ⟨rfl, rfl⟩))
    refine bodyPost_ret (v := .tuple #[.agg #[.bool false, .slice none 0 0, .slice none 0 0], .int .i64 11]) (by simp [results, Tryz.results87, go_sem]) rfl ⟨rfl, ?_⟩
    exact ((((hb0 _).trans (below_drewN _ n)).setCell (Nat.le_refl _) _).setCell (Nat.le_refl _) _).setCell (Nat.le_refl _) _

theorem below3 {B : Nat} {a w : World} (h : Below B a w) (x y z : Value) : Below B a (((w.setCell ⟨B, 0, none⟩ x).setCell ⟨B, 1, none⟩ y).setCell ⟨B, 2, none⟩ z) :=
  ((h.setCell (p := ⟨B, 0, none⟩) (Nat.le_refl _) x).setCell (p := ⟨B, 1, none⟩) (Nat.le_refl _) y).setCell (p := ⟨B, 2, none⟩) (Nat.le_refl _) z

/-- A world in which the parts of a fraction have been read. -/
theorem order_one {v : Value} {m p : Nat} {w : World} {r : Value} (hv : IsNat .u32 1000000000 w v m p) (hr : IsNat .u32 1000000000 w r 1 1) {c : Int} (hc : Limb.cmpN m 1 = c) :
    Calls Tryz.prog 118 #[v, r] w fun e w' => e = .returned (.int .i64 c) ∧ ∃ n, w' = w.drewN n := order_nat hv hr hc

set_option maxRecDepth 100000 in
set_option maxHeartbeats 4000000 in
theorem parse_rest (s : ByteArray) (w : World) (hst : St w) (hs : s.size ≤ 800) (hn : Fr.isInt (Fr.numT s.data.toList) = true) (hd : Fr.isInt (Fr.denT s.data.toList) = true)
    (hln : Fr.isLong (Fr.numT s.data.toList) = false) (hld : Fr.isLong (Fr.denT s.data.toList) = false) (R : Ending → World → Prop)
    (hbad : (Fr.isNeg (Fr.denT s.data.toList) || ((Fr.cut s.data.toList).2.isSome && decide (Fr.dv (Fr.bare (Fr.denT s.data.toList)) ≤ 1)) || (Nat.gcd (Fr.dv (Fr.bare (Fr.numT s.data.toList))) (Fr.dv (Fr.bare (Fr.denT s.data.toList))) != 1)) = true → ∀ e w', BadPost w 3 e w' → R e w')
    (hgood : (Fr.isNeg (Fr.denT s.data.toList) || ((Fr.cut s.data.toList).2.isSome && decide (Fr.dv (Fr.bare (Fr.denT s.data.toList)) ≤ 1)) || (Nat.gcd (Fr.dv (Fr.bare (Fr.numT s.data.toList))) (Fr.dv (Fr.bare (Fr.denT s.data.toList))) != 1)) = false →
      ∀ e w', GoodPost w (Fr.isNeg (Fr.numT s.data.toList)) (Fr.dv (Fr.bare (Fr.numT s.data.toList))) (Fr.dv (Fr.bare (Fr.denT s.data.toList))) 120 e w' → R e w') :
    Calls Tryz.prog 87 #[.string s] w R := by
  have h1 := numB_size s
  have h2 := denB_size s
  have hb0 : ∀ o1, Below w.heap.size w (w.alloc o1) := fun o1 => (Below.refl _ _).alloc (Nat.le_refl _) _
  have CS := fun W (h : Below w.heap.size w W) => Lib.hid (split_any s W (hst.next h) (by omega))
  have CN := Lib.hid (isInt_lit (s := numB s) hn (by omega))
  have CD := Lib.hid (isInt_lit (s := denB s) hd (by omega))
  have LN := Lib.hid (isLong_lit (s := numB s) hln)
  have LD := Lib.hid (isLong_lit (s := denB s) hld)
  have IN := fun W => Lib.hid (integer_any (numB s) W (by omega) (Fr.isInt_all hn))
  have ID := fun W => Lib.hid (integer_any (denB s) W (by omega) (Fr.isInt_all hd))
  have eN : (numB s).data.toList = Fr.numT s.data.toList := rfl
  have eD : (denB s).data.toList = Fr.denT s.data.toList := rfl
  rw [eN] at IN
  rw [eD] at ID
  generalize Fr.isNeg (Fr.numT s.data.toList) = nb at *
  generalize Fr.dv (Fr.bare (Fr.numT s.data.toList)) = m at *
  generalize Fr.isNeg (Fr.denT s.data.toList) = db at *
  generalize Fr.dv (Fr.bare (Fr.denT s.data.toList)) = dn at *
  generalize (Fr.cut s.data.toList).2.isSome = wr at *
  have HBAD := Lib.hid hbad
  have HGOOD := Lib.hid hgood
  clear hst h1 h2 hn hd hln hld eN eD hbad hgood
  generalize numB s = a at *
  generalize denB s = d at *
  go_enter Tryz.func87, Tryz.ntmps87
  go_wp2_with (first
    | (go_at_call 113; refine ((CS _ (hb0 _)).out).mono ?_; rintro e w' ⟨rfl, n, rfl⟩)
    | (go_at_call 114; (with_reducible refine (CN.out _).mono ?_); rintro e w' ⟨rfl, rfl⟩)
    | (go_at_call 114; (with_reducible refine (CD.out _).mono ?_); rintro e w' ⟨rfl, rfl⟩)
    | (go_at_call 115; (with_reducible refine (LN.out _).mono ?_); rintro e w' ⟨rfl, rfl⟩)
    | (go_at_call 115; (with_reducible refine (LD.out _).mono ?_); rintro e w' ⟨rfl, rfl⟩))
  refine ((IN _).out).mono ?_
  rintro e w1 ⟨x1, rfl, hb1, hx1, hy1⟩
  go_wp2_with fail
  refine ((ID _).out).mono ?_
  rintro e w2 ⟨x2, rfl, hb2, hx2, hy2⟩
  go_wp2_with fail
  refine (one_any _).mono ?_
  rintro e w3 ⟨r3, rfl, hb3, hr3, hn3⟩
  have hB1 : Below w.heap.size w w1 := ((hb0 _).trans (below_drewN _ n)).trans (hb1.mono (by simp))
  have hB2 := hB1.trans (hb2.mono hB1.size)
  have hB3 := hB2.trans (hb3.mono hB2.size)
  have hF0 := fresh_one w 105
  have hF1 := (hF0.drewN n).below hb1
  have hF2 := hF1.below hb2
  have hF3 := hF2.below hb3
  obtain ⟨u1, v1, rfl, hu1, hv1⟩ := hx1
  obtain ⟨u2, v2, rfl, hu2, hv2⟩ := hx2
  obtain ⟨u1a, u1l, u1c, rfl⟩ := hu1.form
  obtain ⟨v1a, v1l, v1c, rfl⟩ := hv1.form
  obtain ⟨u2a, u2l, u2c, rfl⟩ := hu2.form
  obtain ⟨v2a, v2l, v2c, rfl⟩ := hv2.form
  have hs3 := hF3.1
  have hs1 : w.heap.size < w1.heap.size := hF1.1
  have HY1 := Lib.hid hy1
  have HY2 := Lib.hid hy2
  obtain ⟨q0, q1, q2, q3, q4, q5, q6⟩ := hF3
  have NU := Lib.hid ((hu1.below hb2 (Nat.le_refl _)).below hb3 (Nat.le_refl _))
  have DU := Lib.hid (hu2.below hb3 (Nat.le_refl _))
  have ON := Lib.hid hr3
  clear hu1 hv1 hu2 hv2 hr3 hb1 hb2 hb3 hF0 hF1 hF2 CS CN CD LN LD IN ID
  have HF := Lib.hid (show Fresh w3 w.heap.size from ⟨q0, q1, q2, q3, q4, q5, q6⟩)
  have hbel2 : ∀ o1 o2, Below w3.heap.size w3 ((w3.alloc o1).alloc o2) := fun o1 o2 => ((Below.refl _ _).alloc (Nat.le_refl _) _).alloc (by simp) _
  have hBx := hB3
  have past : ∀ (W : World) (o : Obj) (i : Nat), w.heap.size < W.heap.size → (W.alloc o).cell? ⟨w.heap.size, i, none⟩ = W.cell? ⟨w.heap.size, i, none⟩ := fun W o i h => World.cell?_of_block (w := W) (Below.heap_alloc W o _ h)
  cases db with
  | true =>
    go_wp2_with fail
    refine bodyPost_ret (v := .tuple #[.agg #[.bool false, .slice none 0 0, .slice none 0 0], .int .i64 3]) (by simp [results, Tryz.results87, go_sem, past, hs3, Nat.lt_succ_of_lt hs3, q1, q2, q3]) rfl (HBAD.out (by simp) _ _ ⟨rfl, ?_⟩)
    repeat (first | exact hB3 | exact hBx | refine below3 ?_ _ _ _ | refine Below.alloc ?_ (by first | omega | (simp; omega)) _ | refine Below.trans ?_ (below_drewN _ _))
  | false =>
    by_cases hsm : wr = true ∧ dn ≤ 1
    · obtain ⟨rfl, hsm⟩ := hsm
      obtain ⟨c, hc⟩ : ∃ c, Limb.cmpN dn 1 = c := ⟨_, rfl⟩
      have hc0 : c ≤ 0 := by rw [← hc, Limb.cmp_le_zero]; exact hsm
      have CO := fun W (h : Below w3.heap.size w3 W) => Lib.hid (order_one (DU.out.below h (Nat.le_refl _)) (ON.out.below h (Nat.le_refl _)) hc)
      have HS := Lib.hid hsm
      clear hc hsm
      go_wp2_with (go_at_call 118; (with_reducible refine ((CO _ (hbel2 _ _)).out).mono ?_); rintro e w' ⟨rfl, n7, rfl⟩)
      refine bodyPost_ret (v := .tuple #[.agg #[.bool false, .slice none 0 0, .slice none 0 0], .int .i64 3]) (by simp [results, Tryz.results87, go_sem, past, hs3, Nat.lt_succ_of_lt hs3, q1, q2, q3]) rfl (HBAD.out (by simp [HS.out]) _ _ ⟨rfl, ?_⟩)
      repeat (first | exact hB3 | exact hBx | refine below3 ?_ _ _ _ | refine Below.alloc ?_ (by first | omega | (simp; omega)) _ | refine Below.trans ?_ (below_drewN _ _))
    · have hway : wr = false ∨ (wr = true ∧ 1 < dn) := by
        cases wr with
        | false => exact .inl rfl
        | true => exact .inr ⟨rfl, by rcases Nat.lt_or_ge 1 dn with h | h; exact h; exact absurd ⟨rfl, h⟩ hsm⟩
      have hnot : (wr && decide (dn ≤ 1)) = false := by
        rcases hway with rfl | ⟨rfl, h⟩
        · rfl
        · simp; omega
      have CC := fun W (h : Below w3.heap.size w3 W) => Lib.hid (common_any _ _ m dn 120 W (NU.out.below h (Nat.le_refl _)) (DU.out.below h (Nat.le_refl _)) (by omega))
      have HNOT := Lib.hid hnot
      clear hsm hnot
      by_cases hg : Nat.gcd m dn = 1
      · have CP := fun W (h1 : IsNat .u32 1000000000 W r3 1 1) G (hG : IsNat .u32 1000000000 W G (Nat.gcd m dn) 120) => Lib.hid (order_one hG h1 (Limb.cmp_eq hg))
        have HGD := HGOOD.out (by rw [HNOT.out, hg]; rfl)
        have HR := Lib.hid HGD
        clear HGD
        rcases hway with rfl | ⟨rfl, h1d⟩
        · go_wp2_with (first | (go_at_call 119; refine ((CC _ (by first | exact hbel2 _ _ | exact (hbel2 _ _).trans (below_drewN _ _))).out).mono ?_; rintro e w4 ⟨G, rfl, hb4, hG⟩; have hB34 := (show Below w3.heap.size w3 _ by first | exact hbel2 _ _ | exact (hbel2 _ _).trans (below_drewN _ _)).trans (hb4.mono (by simp <;> omega)); have hF4 := HF.out.below hB34; obtain ⟨t0, t1, t2, t3, t4, t5, t6⟩ := hF4; have c0 : w4.cell? ⟨w3.heap.size, 0, none⟩ = some (.bool nb) := (hb4.cell (p := ⟨w3.heap.size, 0, none⟩) (by simp <;> omega)).trans (by simp); have c1 : w4.cell? ⟨w3.heap.size, 1, none⟩ = some (.slice u1a u1l u1c) := (hb4.cell (p := ⟨w3.heap.size, 1, none⟩) (by simp <;> omega)).trans (by simp); have c2 : w4.cell? ⟨w3.heap.size + 1, 1, none⟩ = some (.slice u2a u2l u2c) := (hb4.cell (p := ⟨w3.heap.size + 1, 1, none⟩) (by simp <;> omega)).trans (by simp)) | (go_at_call 118; refine ((CP _ (ON.out.below hB34 (Nat.le_refl _)) _ hG).out).mono ?_; rintro e w' ⟨rfl, n8, rfl⟩))
          have hBf := ((((hB3.trans (hB34.mono hB3.size)).trans (below_drewN w4 n8)).setCell (p := ⟨w.heap.size, 0, none⟩) (Nat.le_refl _) (.bool nb)).setCell (p := ⟨w.heap.size, 1, none⟩) (Nat.le_refl _) (.slice u1a u1l u1c)).setCell (p := ⟨w.heap.size, 2, none⟩) (Nat.le_refl _) (.slice u2a u2l u2c)
          have g1 : (Value.slice u1a u1l u1c).ownBlock ≠ some w.heap.size := (HY1.out _ _ _ rfl _ (by simp)).1
          have g2 : (Value.slice u2a u2l u2c).ownBlock ≠ some w.heap.size := (HY2.out _ _ _ rfl _ hs1).1
          refine bodyPost_ret (v := .tuple #[.agg #[.bool nb, .slice u1a u1l u1c, .slice u2a u2l u2c], .int .i64 0]) (by simp [results, Tryz.results87, go_sem, t1, t2, t3]) rfl (HR.out _ _ ⟨_, rfl, hBf, ⟨_, _, rfl, (((((NU.out.below hB34 (Nat.le_refl _)).below (below_drewN _ n8) (Nat.le_refl _)).put g1 _).put g1 _).put g1 _).up (Nat.le_refl _), (((((DU.out.below hB34 (Nat.le_refl _)).below (below_drewN _ n8) (Nat.le_refl _)).put g2 _).put g2 _).put g2 _).up (Nat.le_refl _)⟩, ?_⟩)
          intro b' u' v' he t ht
          cases he
          exact ⟨(HY1.out _ _ _ rfl t (by simp; omega)).1, (HY2.out _ _ _ rfl t (by omega)).1⟩
        · have hdum := True.intro
          obtain ⟨c, hc⟩ : ∃ c, Limb.cmpN dn 1 = c := ⟨_, rfl⟩
          have hc0 : ¬ c ≤ 0 := by rw [← hc, Limb.cmp_le_zero]; omega
          have CO := fun W (h : Below w3.heap.size w3 W) => Lib.hid (order_one (DU.out.below h (Nat.le_refl _)) (ON.out.below h (Nat.le_refl _)) hc)
          clear hc h1d
          go_wp2_with (first | (go_at_call 118; (with_reducible refine ((CO _ (hbel2 _ _)).out).mono ?_); rintro e w' ⟨rfl, n7, rfl⟩) | (go_at_call 119; refine ((CC _ (by first | exact hbel2 _ _ | exact (hbel2 _ _).trans (below_drewN _ _))).out).mono ?_; rintro e w4 ⟨G, rfl, hb4, hG⟩; have hB34 := (show Below w3.heap.size w3 _ by first | exact hbel2 _ _ | exact (hbel2 _ _).trans (below_drewN _ _)).trans (hb4.mono (by simp <;> omega)); have hF4 := HF.out.below hB34; obtain ⟨t0, t1, t2, t3, t4, t5, t6⟩ := hF4; have c0 : w4.cell? ⟨w3.heap.size, 0, none⟩ = some (.bool nb) := (hb4.cell (p := ⟨w3.heap.size, 0, none⟩) (by simp <;> omega)).trans (by simp); have c1 : w4.cell? ⟨w3.heap.size, 1, none⟩ = some (.slice u1a u1l u1c) := (hb4.cell (p := ⟨w3.heap.size, 1, none⟩) (by simp <;> omega)).trans (by simp); have c2 : w4.cell? ⟨w3.heap.size + 1, 1, none⟩ = some (.slice u2a u2l u2c) := (hb4.cell (p := ⟨w3.heap.size + 1, 1, none⟩) (by simp <;> omega)).trans (by simp)) | (go_at_call 118; refine ((CP _ (ON.out.below hB34 (Nat.le_refl _)) _ hG).out).mono ?_; rintro e w' ⟨rfl, n8, rfl⟩))
          have hBf := ((((hB3.trans (hB34.mono hB3.size)).trans (below_drewN w4 n8)).setCell (p := ⟨w.heap.size, 0, none⟩) (Nat.le_refl _) (.bool nb)).setCell (p := ⟨w.heap.size, 1, none⟩) (Nat.le_refl _) (.slice u1a u1l u1c)).setCell (p := ⟨w.heap.size, 2, none⟩) (Nat.le_refl _) (.slice u2a u2l u2c)
          have g1 : (Value.slice u1a u1l u1c).ownBlock ≠ some w.heap.size := (HY1.out _ _ _ rfl _ (by simp)).1
          have g2 : (Value.slice u2a u2l u2c).ownBlock ≠ some w.heap.size := (HY2.out _ _ _ rfl _ hs1).1
          refine bodyPost_ret (v := .tuple #[.agg #[.bool nb, .slice u1a u1l u1c, .slice u2a u2l u2c], .int .i64 0]) (by simp [results, Tryz.results87, go_sem, t1, t2, t3]) rfl (HR.out _ _ ⟨_, rfl, hBf, ⟨_, _, rfl, (((((NU.out.below hB34 (Nat.le_refl _)).below (below_drewN _ n8) (Nat.le_refl _)).put g1 _).put g1 _).put g1 _).up (Nat.le_refl _), (((((DU.out.below hB34 (Nat.le_refl _)).below (below_drewN _ n8) (Nat.le_refl _)).put g2 _).put g2 _).put g2 _).up (Nat.le_refl _)⟩, ?_⟩)
          intro b' u' v' he t ht
          cases he
          exact ⟨(HY1.out _ _ _ rfl t (by simp; omega)).1, (HY2.out _ _ _ rfl t (by omega)).1⟩
      · obtain ⟨c2', hc2⟩ : ∃ c, Limb.cmpN (Nat.gcd m dn) 1 = c := ⟨_, rfl⟩
        have hcne : (c2' != 0) = true := by
          rw [bne_iff_ne, ← hc2]
          intro h
          exact hg ((Limb.cmp_eq_zero _ _).1 h)
        have CP := fun W (h1 : IsNat .u32 1000000000 W r3 1 1) G (hG : IsNat .u32 1000000000 W G (Nat.gcd m dn) 120) => Lib.hid (order_one hG h1 hc2)
        have HGD := HBAD.out (by rw [HNOT.out]; simpa using hg)
        have HR := Lib.hid HGD
        clear HGD hc2 hg
        rcases hway with rfl | ⟨rfl, h1d⟩
        · go_wp2_with (first | (go_at_call 119; refine ((CC _ (by first | exact hbel2 _ _ | exact (hbel2 _ _).trans (below_drewN _ _))).out).mono ?_; rintro e w4 ⟨G, rfl, hb4, hG⟩; have hB34 := (show Below w3.heap.size w3 _ by first | exact hbel2 _ _ | exact (hbel2 _ _).trans (below_drewN _ _)).trans (hb4.mono (by simp <;> omega)); have hF4 := HF.out.below hB34; obtain ⟨t0, t1, t2, t3, t4, t5, t6⟩ := hF4; have c0 : w4.cell? ⟨w3.heap.size, 0, none⟩ = some (.bool nb) := (hb4.cell (p := ⟨w3.heap.size, 0, none⟩) (by simp <;> omega)).trans (by simp); have c1 : w4.cell? ⟨w3.heap.size, 1, none⟩ = some (.slice u1a u1l u1c) := (hb4.cell (p := ⟨w3.heap.size, 1, none⟩) (by simp <;> omega)).trans (by simp); have c2 : w4.cell? ⟨w3.heap.size + 1, 1, none⟩ = some (.slice u2a u2l u2c) := (hb4.cell (p := ⟨w3.heap.size + 1, 1, none⟩) (by simp <;> omega)).trans (by simp)) | (go_at_call 118; refine ((CP _ (ON.out.below hB34 (Nat.le_refl _)) _ hG).out).mono ?_; rintro e w' ⟨rfl, n8, rfl⟩))
          refine bodyPost_ret (v := .tuple #[.agg #[.bool false, .slice none 0 0, .slice none 0 0], .int .i64 3]) (by simp [results, Tryz.results87, go_sem, t1, t2, t3]) rfl (HR.out _ _ ⟨rfl, ?_⟩)
          have hBx := hB3.trans (hB34.mono hB3.size)
          repeat (first | exact hBx | refine below3 ?_ _ _ _ | refine Below.alloc ?_ (by first | omega | (simp; omega)) _ | refine Below.trans ?_ (below_drewN _ _))
        · have hdum := True.intro
          obtain ⟨c, hc⟩ : ∃ c, Limb.cmpN dn 1 = c := ⟨_, rfl⟩
          have hc0 : ¬ c ≤ 0 := by rw [← hc, Limb.cmp_le_zero]; omega
          have CO := fun W (h : Below w3.heap.size w3 W) => Lib.hid (order_one (DU.out.below h (Nat.le_refl _)) (ON.out.below h (Nat.le_refl _)) hc)
          clear hc h1d
          go_wp2_with (first | (go_at_call 118; (with_reducible refine ((CO _ (hbel2 _ _)).out).mono ?_); rintro e w' ⟨rfl, n7, rfl⟩) | (go_at_call 119; refine ((CC _ (by first | exact hbel2 _ _ | exact (hbel2 _ _).trans (below_drewN _ _))).out).mono ?_; rintro e w4 ⟨G, rfl, hb4, hG⟩; have hB34 := (show Below w3.heap.size w3 _ by first | exact hbel2 _ _ | exact (hbel2 _ _).trans (below_drewN _ _)).trans (hb4.mono (by simp <;> omega)); have hF4 := HF.out.below hB34; obtain ⟨t0, t1, t2, t3, t4, t5, t6⟩ := hF4; have c0 : w4.cell? ⟨w3.heap.size, 0, none⟩ = some (.bool nb) := (hb4.cell (p := ⟨w3.heap.size, 0, none⟩) (by simp <;> omega)).trans (by simp); have c1 : w4.cell? ⟨w3.heap.size, 1, none⟩ = some (.slice u1a u1l u1c) := (hb4.cell (p := ⟨w3.heap.size, 1, none⟩) (by simp <;> omega)).trans (by simp); have c2 : w4.cell? ⟨w3.heap.size + 1, 1, none⟩ = some (.slice u2a u2l u2c) := (hb4.cell (p := ⟨w3.heap.size + 1, 1, none⟩) (by simp <;> omega)).trans (by simp)) | (go_at_call 118; refine ((CP _ (ON.out.below hB34 (Nat.le_refl _)) _ hG).out).mono ?_; rintro e w' ⟨rfl, n8, rfl⟩))
          refine bodyPost_ret (v := .tuple #[.agg #[.bool false, .slice none 0 0, .slice none 0 0], .int .i64 3]) (by simp [results, Tryz.results87, go_sem, t1, t2, t3]) rfl (HR.out _ _ ⟨rfl, ?_⟩)
          have hBx := hB3.trans (hB34.mono hB3.size)
          repeat (first | exact hBx | refine below3 ?_ _ _ _ | refine Below.alloc ?_ (by first | omega | (simp; omega)) _ | refine Below.trans ?_ (below_drewN _ _))

end Go.Proofs.YtldclpdmcopgnaaGreatDoor

