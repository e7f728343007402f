/- The contracts of both, limited, Of of the reference; Of, limit of package timespan. -/
import Derived.Test.YtgblodnggeabjabDoorTb
namespace Tm
def ofV (l h : Int) : (Int × Int) × Int := if chk l h = 0 then ((l, h), 0) else ((0, 0), chk l h)
def limV (l h : Int) : (Int × Int) × Int := if 1000000 < h then ((0, 0), 11) else ((l, h), 0)
def opV (f g : Int → Int → Int) (l h m k : Int) : (Int × Int) × Int := if chk2 l h m k = 0 then ((f l m, g h k), 0) else ((0, 0), chk2 l h m k)
def plus (x y : Int) : Int := x + y
def great (x y : Int) : Int := if x < y then y else x
def less (x y : Int) : Int := if y < x then y else x
def addV (l h m k : Int) : (Int × Int) × Int := if chk2 l h m k = 0 then limV (l + m) (h + k) else ((0, 0), chk2 l h m k)
def scaV (l h k : Int) : (Int × Int) × Int := if chk l h = 0 then (if k < 0 ∨ 1048576 < k then ((0, 0), 2) else limV (k * l) (k * h)) else ((0, 0), chk l h)
def meeV (l h m k : Int) : ((Int × Int) × Bool) × Int := if chk2 l h m k = 0 then (if less h k < great l m then (((0, 0), false), 0) else (((great l m, less h k), true), 0)) else (((0, 0), false), chk2 l h m k)
def witV (l h m k : Int) : Bool × Int := if chk2 l h m k = 0 then (decide (m ≤ l) && decide (h ≤ k), 0) else (false, chk2 l h m k)
def cmpV (l h m k : Int) : Int × Int := if chk2 l h m k = 0 then (if h < m then (-1, 0) else if k < l then (1, 0) else (0, 0)) else (0, chk2 l h m k)
theorem chk2_zero {l h m k : Int} (h0 : chk2 l h m k = 0) : (0 ≤ l ∧ l ≤ h ∧ h ≤ 1000000) ∧ 0 ≤ m ∧ m ≤ k ∧ k ≤ 1000000 := by
  unfold chk2 at h0
  split at h0
  · rename_i h1; exact ⟨chk_zero.1 h1, chk_zero.1 h0⟩
  · rename_i h1; exact absurd h0 h1
end Tm
namespace Go.Proofs.YtgblodnggeabjabDoor
open Go.RowKit

theorem end_span {r : (Int × Int) × Int} {x y z : Int} (h : r = ((x, y), z)) : Ending.returned (.tuple #[.agg #[.int .i64 x, .int .i64 y], .int .i64 z]) = Ending.returned (.tuple #[.agg #[.int .i64 r.1.1, .int .i64 r.1.2], .int .i64 r.2]) := by subst h; rfl
theorem end_span1 {r : Int × Int} {x y : Int} (h : r = (x, y)) : Ending.returned (.agg #[.int .i64 x, .int .i64 y]) = Ending.returned (.agg #[.int .i64 r.1, .int .i64 r.2]) := by subst h; rfl
theorem pairI_next (w : World) (l h m k : Int) (T U : TypeId) : PairI ((w.alloc (.cells #[.int .i64 l, .int .i64 h] T)).alloc (.cells #[.int .i64 m, .int .i64 k] U)) w.heap.size l h ∧ PairI ((w.alloc (.cells #[.int .i64 l, .int .i64 h] T)).alloc (.cells #[.int .i64 m, .int .i64 k] U)) (w.heap.size + 1) m k := by
  refine ⟨(pairI_new w l h T).below (B := (w.alloc (.cells #[.int .i64 l, .int .i64 h] T)).heap.size) (by simp) ((Below.refl _ _).alloc (Nat.le_refl _) _), ?_⟩
  have h1 := pairI_new (w.alloc (.cells #[.int .i64 l, .int .i64 h] T)) m k U
  have e : (w.alloc (.cells #[.int .i64 l, .int .i64 h] T)).heap.size = w.heap.size + 1 := by simp
  rw [e] at h1
  exact h1
/-- Two spans in new variables. -/
def W2 (w : World) (l h m k : Int) : World := (w.alloc (.cells #[.int .i64 l, .int .i64 h] 23)).alloc (.cells #[.int .i64 m, .int .i64 k] 23)
theorem w2_below (w : World) (l h m k : Int) : Below w.heap.size w (W2 w l h m k) := ((Below.refl _ _).alloc (Nat.le_refl _) _).alloc (by simp) _
theorem w2_size (w : World) (l h m k : Int) : (W2 w l h m k).heap.size = w.heap.size + 1 + 1 := by simp [W2]
theorem w2_facts (w : World) (l h m k : Int) {W : World} (hW : Below (W2 w l h m k).heap.size (W2 w l h m k) W) : PairI W w.heap.size l h ∧ PairI W (w.heap.size + 1) m k := by
  obtain ⟨h1, h2⟩ := pairI_next w l h m k 23 23
  exact ⟨h1.below (by rw [w2_size]; omega) hW, h2.below (by rw [w2_size]; omega) hW⟩
/-- Two spans in new variables, and one for the result. -/
def W3 (w : World) (l h m k : Int) : World := (W2 w l h m k).alloc (.cells #[.int .i64 0, .int .i64 0] 23)
theorem w3_below (w : World) (l h m k : Int) : Below w.heap.size w (W3 w l h m k) := (w2_below w l h m k).alloc (by rw [w2_size]; omega) _
theorem w3_size (w : World) (l h m k : Int) : (W3 w l h m k).heap.size = w.heap.size + 1 + 1 + 1 := by simp [W3, w2_size]
theorem w3_facts (w : World) (l h m k : Int) {W : World} (hW : Below (W3 w l h m k).heap.size (W3 w l h m k) W) : PairI W w.heap.size l h ∧ PairI W (w.heap.size + 1) m k ∧ PairI W (w.heap.size + 1 + 1) 0 0 := by
  have hb : Below (W2 w l h m k).heap.size (W2 w l h m k) (W3 w l h m k) := (Below.refl _ _).alloc (Nat.le_refl _) _
  obtain ⟨h1, h2⟩ := w2_facts w l h m k hb
  have h3 := pairI_new (W2 w l h m k) 0 0 23
  rw [w2_size] at h3
  have e3 := w3_size w l h m k
  exact ⟨h1.below (by rw [e3]; omega) hW, h2.below (by rw [e3]; omega) hW, PairI.below (B := (W3 w l h m k).heap.size) h3 (by rw [e3]; omega) hW⟩

set_option maxRecDepth 100000 in
theorem rBoth_any (l h m k : Int) (w : World) :
    Calls Tryd.prog 45 #[.agg #[.int .i64 l, .int .i64 h], .agg #[.int .i64 m, .int .i64 k]] w fun e w' => e = .returned (.int .i64 (Tm.chk2 l h m k)) ∧ Below w.heap.size w w' := by
  have hB0 := w2_below w l h m k
  have hs := hB0.size
  have HF := fun W hW => Lib.hid (w2_facts w l h m k (W := W) hW)
  have CC := fun W => Lib.hid (rCheck_any l h W)
  have CD := fun W => Lib.hid (rCheck_any m k W)
  have EC : Tm.chk2 l h m k = if Tm.chk l h = 0 then Tm.chk m k else Tm.chk l h := rfl
  generalize Tm.chk2 l h m k = r at *
  generalize Tm.chk l h = c at *
  generalize Tm.chk m k = d at *
  have HE := Lib.hid EC
  clear EC
  unfold W2 at *
  go_enter Tryd.func45, Tryd.ntmps45
  go_wp2_with fail
  refine ((CC _).out).mono ?_
  rintro e w1 ⟨rfl, hb1⟩
  obtain ⟨⟨p0, p1, p2, p3, p4⟩, ⟨q0, q1, q2, q3, q4⟩⟩ := (HF _ hb1).out
  have hB1 := hB0.trans (hb1.mono hs)
  clear HF hb1
  go_wp2_with (go_at_call 14; refine ((CD _).out).mono ?_; rintro e w2 ⟨rfl, hb2⟩; have hB2 := hB1.trans (hb2.mono hB1.size); clear hb2)
  · rename_i hc
    go_ret
    refine ⟨ret_int ?_, hB1⟩
    rw [HE.out, if_neg (by simpa using hc)]
  · rename_i hc
    go_ret
    refine ⟨ret_int ?_, hB2⟩
    rw [HE.out, if_pos (by simpa using hc)]

set_option maxRecDepth 100000 in
theorem rOf_any (l h : Int) (w : World) :
    Calls Tryd.prog 12 #[.int .i64 l, .int .i64 h] w fun e w' => e = .returned (.tuple #[.agg #[.int .i64 (Tm.ofV l h).1.1, .int .i64 (Tm.ofV l h).1.2], .int .i64 (Tm.ofV l h).2]) ∧ Below w.heap.size w w' := by
  have CC := fun W => Lib.hid (rCheck_any l h W)
  have EC : Tm.ofV l h = if Tm.chk l h = 0 then ((l, h), 0) else ((0, 0), Tm.chk l h) := rfl
  have hB0 : Below w.heap.size w (w.alloc (.cells #[.int .i64 0, .int .i64 0] 23)) := (Below.refl _ _).alloc (Nat.le_refl _) _
  have hs := hB0.size
  have HF := Lib.hid (pairI_new w 0 0 23)
  generalize Tm.ofV l h = r at *
  generalize Tm.chk l h = c at *
  have HE := Lib.hid EC
  clear EC
  go_enter Tryd.func12, Tryd.ntmps12
  go_wp2_with fail
  refine ((CC _).out).mono ?_
  rintro e w1 ⟨rfl, hb1⟩
  obtain ⟨p0, p1, p2, p3, p4⟩ := HF.out.below (by simp) hb1
  have hB1 := hB0.trans (hb1.mono hs)
  clear HF hb1 hs hB0 CC
  go_wp2
  · rename_i hc
    have hc' : ¬ c = 0 := by simpa using hc
    have hfin := (hB1.setCell (p := ⟨w.heap.size, 0, none⟩) (by simp) (.int .i64 0)).setCell (p := ⟨w.heap.size, 1, none⟩) (by simp) (.int .i64 0)
    exact bodyPost_ret (v := .tuple #[.agg #[.int .i64 0, .int .i64 0], .int .i64 c]) (by simp [results, Tryd.results12, go_sem, p1, p2]) rfl ⟨end_span (by rw [HE.out, if_neg hc']), hfin⟩
  · rename_i hc
    have hc' : c = 0 := by simpa using hc
    have hfin := (hB1.setCell (p := ⟨w.heap.size, 0, none⟩) (by simp) (.int .i64 l)).setCell (p := ⟨w.heap.size, 1, none⟩) (by simp) (.int .i64 h)
    exact bodyPost_ret (v := .tuple #[.agg #[.int .i64 l, .int .i64 h], .int .i64 0]) (by simp [results, Tryd.results12, go_sem, p1, p2]) rfl ⟨end_span (by rw [HE.out, if_pos hc']), hfin⟩

set_option maxRecDepth 100000 in
theorem tOf_any (l h : Int) (w : World) :
    Calls Tryd.prog 11 #[.int .i64 l, .int .i64 h] w fun e w' => e = .returned (.tuple #[.agg #[.int .i64 (Tm.ofV l h).1.1, .int .i64 (Tm.ofV l h).1.2], .int .i64 (Tm.ofV l h).2]) ∧ Below w.heap.size w w' := by
  have CC := fun W => Lib.hid (tCheck_any l h W)
  have EC : Tm.ofV l h = if Tm.chk l h = 0 then ((l, h), 0) else ((0, 0), Tm.chk l h) := rfl
  have hB0 : Below w.heap.size w ((w.alloc (.cells #[.int .i64 0, .int .i64 0] 23)).alloc (.cells #[.int .i64 l, .int .i64 h] 23)) := ((Below.refl _ _).alloc (Nat.le_refl _) _).alloc (by simp) _
  have hs := hB0.size
  have HF := Lib.hid (pairI_next w 0 0 l h 23 23)
  generalize Tm.ofV l h = r at *
  generalize Tm.chk l h = c at *
  have HE := Lib.hid EC
  clear EC
  go_enter Tryd.func11, Tryd.ntmps11
  go_wp2_with fail
  refine ((CC _).out).mono ?_
  rintro e w1 ⟨rfl, hb1⟩
  obtain ⟨p0, p1, p2, p3, p4⟩ := HF.out.1.below (by simp; omega) hb1
  obtain ⟨q0, q1, q2, q3, q4⟩ := HF.out.2.below (by simp) hb1
  have hB1 := hB0.trans (hb1.mono hs)
  clear HF hb1 hs hB0 CC
  go_wp2
  · rename_i hc
    have hc' : ¬ c = 0 := by simpa using hc
    have hfin := (hB1.setCell (p := ⟨w.heap.size, 0, none⟩) (by simp) (.int .i64 0)).setCell (p := ⟨w.heap.size, 1, none⟩) (by simp) (.int .i64 0)
    exact bodyPost_ret (v := .tuple #[.agg #[.int .i64 0, .int .i64 0], .int .i64 c]) (by simp [results, Tryd.results11, go_sem, p1, p2]) rfl ⟨end_span (by rw [HE.out, if_neg hc']), hfin⟩
  · rename_i hc
    have hc' : c = 0 := by simpa using hc
    have hfin := (hB1.setCell (p := ⟨w.heap.size, 0, none⟩) (by simp) (.int .i64 l)).setCell (p := ⟨w.heap.size, 1, none⟩) (by simp) (.int .i64 h)
    exact bodyPost_ret (v := .tuple #[.agg #[.int .i64 l, .int .i64 h], .int .i64 0]) (by simp [results, Tryd.results11, go_sem, p1, p2]) rfl ⟨end_span (by rw [HE.out, if_pos hc']), hfin⟩

set_option maxRecDepth 100000 in
theorem rLimit_any (l h : Int) (w : World) :
    Calls Tryd.prog 46 #[.agg #[.int .i64 l, .int .i64 h]] w fun e w' => e = .returned (.tuple #[.agg #[.int .i64 (Tm.limV l h).1.1, .int .i64 (Tm.limV l h).1.2], .int .i64 (Tm.limV l h).2]) ∧ Below w.heap.size w w' := by
  have EC : Tm.limV l h = if 1000000 < h then ((0, 0), 11) else ((l, h), 0) := rfl
  generalize Tm.limV l h = r at *
  have HE := Lib.hid EC
  clear EC
  go_enter Tryd.func46, Tryd.ntmps46
  go_wp2
  · rename_i hc
    exact bodyPost_ret (v := .tuple #[.agg #[.int .i64 0, .int .i64 0], .int .i64 11]) (by simp [results, Tryd.results46, go_sem]) rfl ⟨end_span (by rw [HE.out, if_pos (by omega)]), ((Below.refl _ _).alloc (Nat.le_refl _) _).alloc (by simp) _⟩
  · rename_i hc
    exact bodyPost_ret (v := .tuple #[.agg #[.int .i64 l, .int .i64 h], .int .i64 0]) (by simp [results, Tryd.results46, go_sem]) rfl ⟨end_span (by rw [HE.out, if_neg (by omega)]), ((Below.refl _ _).alloc (Nat.le_refl _) _).alloc (by simp) _⟩

set_option maxRecDepth 100000 in
theorem tLimit_any (l h : Int) (w : World) :
    Calls Tryd.prog 44 #[.agg #[.int .i64 l, .int .i64 h]] w fun e w' => e = .returned (.tuple #[.agg #[.int .i64 (Tm.limV l h).1.1, .int .i64 (Tm.limV l h).1.2], .int .i64 (Tm.limV l h).2]) ∧ Below w.heap.size w w' := by
  have EC : Tm.limV l h = if 1000000 < h then ((0, 0), 11) else ((l, h), 0) := rfl
  generalize Tm.limV l h = r at *
  have HE := Lib.hid EC
  clear EC
  go_enter Tryd.func44, Tryd.ntmps44
  go_wp2
  · rename_i hc
    exact bodyPost_ret (v := .tuple #[.agg #[.int .i64 0, .int .i64 0], .int .i64 11]) (by simp [results, Tryd.results44, go_sem]) rfl ⟨end_span (by rw [HE.out, if_pos (by omega)]), ((Below.refl _ _).alloc (Nat.le_refl _) _).alloc (by simp) _⟩
  · rename_i hc
    exact bodyPost_ret (v := .tuple #[.agg #[.int .i64 l, .int .i64 h], .int .i64 0]) (by simp [results, Tryd.results44, go_sem]) rfl ⟨end_span (by rw [HE.out, if_neg (by omega)]), ((Below.refl _ _).alloc (Nat.le_refl _) _).alloc (by simp) _⟩

end Go.Proofs.YtgblodnggeabjabDoor
