/- matrixOf and free of package bounds. -/
import Derived.Test.YtkemicfaiipidaaBc
import Derived.Test.YtkemicfaiipidaaBe
namespace Bn
/-- N + 1 rows of N + 1 numbers. -/
def Shp (N : Nat) (R : List (List Int)) : Prop := R.length = N + 1 ∧ ∀ i, i ≤ N → (R.getD i []).length = N + 1
/-- A matrix that is filled row by row, before the pair i, j. -/
def fil (f z : Mx) (i j : Nat) : Mx := fun a b => if a < i ∨ (a = i ∧ b < j) then f a b else z a b
theorem fil_next (f z : Mx) (i j : Nat) (a b : Nat) : up (fil f z i j) i j (f i j) a b = fil f z i (j + 1) a b := by unfold up fil; grind
theorem fil_same {f z : Mx} {i j : Nat} (h : f i j = z i j) (a b : Nat) : fil f z i j a b = fil f z i (j + 1) a b := by unfold fil; grind
theorem fil_zero (f z : Mx) (a b : Nat) : fil f z 0 0 a b = z a b := by unfold fil; grind
/-- In a square of n + 1 rows and columns. -/
def sq (n : Nat) (f z : Mx) : Mx := fun a b => if a ≤ n ∧ b ≤ n then f a b else z a b
theorem fil_row {f z : Mx} {n i : Nat} (h : ∀ a b, n < b → f a b = z a b) (a b : Nat) : fil f z i (n + 1) a b = fil f z (i + 1) 0 a b := by
  unfold fil
  have := h a b
  grind
theorem fil_end {f z : Mx} {n : Nat} (h : ∀ a b, n < a → f a b = z a b) (a b : Nat) : fil f z (n + 1) 0 a b = f a b := by
  unfold fil
  have := h a b
  grind
theorem sq_in {n : Nat} {f z : Mx} {a b : Nat} (ha : a ≤ n) (hb : b ≤ n) : sq n f z a b = f a b := if_pos ⟨ha, hb⟩
theorem sq_col {n : Nat} {f z : Mx} (a b : Nat) (h : n < b) : sq n f z a b = z a b := if_neg (by omega)
theorem sq_row {n : Nat} {f z : Mx} (a b : Nat) (h : n < a) : sq n f z a b = z a b := if_neg (by omega)
def zer : Mx := fun _ _ => 0
/-- No bounds but those of a time to itself. -/
def fre : Mx := fun i j => if i = j then 0 else -1099511627776
end Bn
namespace Go.Proofs.Ytkemicfaiipidaa
open Go.RowKit

theorem zero_mtx : Try.zeroCells77 = Array.replicate 170 (.int .i64 0) := by kernel_rfl
theorem mtx_new (w : World) (n : Int) (T : TypeId) : MtxI (w.alloc (.cells (Try.zeroCells77.setIfInBounds 0 (.int .i64 n)) T)) w.heap.size n Bn.zer := by
  rw [zero_mtx]
  refine ⟨by simp, by simp, fun i j hi hj => ⟨?_, ?_⟩⟩
  · have h : 1 + i * 13 + j < 170 := by omega
    simp [h, show ¬ (0 = 1 + i * 13 + j) by omega, Bn.zer]
  · simp
set_option maxHeartbeats 2000000 in
set_option maxRecDepth 100000 in
theorem bOf_any (N : Nat) (v : Value) (R : List (List Int)) (w : World) (hN : N ≤ 12) (hS : Bn.Shp N R) (hR : SeesR w v R) :
    Calls Try.prog 38 #[.agg #[.int .i64 (N : Int), v]] w fun e w' => ∃ g, e = .returned (.pointer (some ⟨g, 0, none⟩)) ∧ w.heap.size ≤ g ∧ MtxI w' g N (Bn.sq N (Bn.mx R) Bn.zer) ∧ Below w.heap.size w w' := by
  obtain ⟨b1, l1⟩ := boxB_new w (N : Int) v 24
  have HR := Lib.hid hR
  obtain ⟨ao, cap, rfl, hc1, hc2, -⟩ := hR
  have HB1 := Lib.hid b1
  have HL1 := Lib.hid l1
  obtain ⟨x0, x1, x2⟩ := b1
  clear l1
  have HE : ∀ W, Hid (MtxI W (w.heap.size + 1) N Bn.zer → BoxB W w.heap.size N (.slice ao R.length cap) → BoxV W (w.heap.size + 1 + 1) (.pointer (some ⟨w.heap.size + 1, 0, none⟩)) → Below w.heap.size w W →
      Calls Try.prog 45 #[.pointer (some ⟨w.heap.size + 1, 0, none⟩), .func (.func 66) #[] #[.pointer (some ⟨w.heap.size, 0, none⟩), .pointer (some ⟨w.heap.size + 1 + 1, 0, none⟩)]] W fun e w' => e = .returned (.tuple #[]) ∧ MtxI w' (w.heap.size + 1) N (Bn.sq N (Bn.mx R) Bn.zer) ∧ BoxV w' (w.heap.size + 1 + 1) (.pointer (some ⟨w.heap.size + 1, 0, none⟩)) ∧ Below w.heap.size w w') := fun W => Lib.hid (fun hM hB hV hb => by
    have hR := HR.out
    refine (each_of (.pointer (some ⟨w.heap.size, 0, none⟩)) (.pointer (some ⟨w.heap.size + 1 + 1, 0, none⟩)) (w.heap.size + 1) N (fun i j W => MtxI W (w.heap.size + 1) N (Bn.fil (Bn.sq N (Bn.mx R) Bn.zer) Bn.zer i j) ∧ BoxB W w.heap.size N (.slice ao R.length cap) ∧ BoxV W (w.heap.size + 1 + 1) (.pointer (some ⟨w.heap.size + 1, 0, none⟩)) ∧ Below w.heap.size w W) W hN
      ⟨hM.congr (fun a b _ _ => (Bn.fil_zero _ _ a b).symm), hB, hV, hb⟩ (fun i j X h => h.1.2.1) ?_ ?_).mono ?_
    · rintro i j X hi hj ⟨h1, h2, h3, h4⟩
      refine (bOf1_any i j (w.heap.size + 1) w.heap.size (w.heap.size + 1 + 1) N _ _ R X (by omega) (by omega) h1 h2 h3 (hR.step h4) (by rw [hS.1]; omega) (by rw [hS.2 i hi]; omega)).mono ?_
      rintro e w1 ⟨rfl, hg, hm⟩
      refine ⟨rfl, hm.congr (fun a b _ _ => ?_), h2.grown hg (by omega), h3.grown hg (by omega), h4.trans (below_grown hg h4.size (by omega))⟩
      have := Bn.fil_next (Bn.sq N (Bn.mx R) Bn.zer) Bn.zer i j a b
      rw [Bn.sq_in hi hj] at this
      exact this
    · rintro i X hi ⟨h1, h2, h3, h4⟩
      exact ⟨h1.congr (fun a b _ _ => Bn.fil_row Bn.sq_col a b), h2, h3, h4⟩
    · rintro e w1 ⟨rfl, h1, h2, h3, h4⟩
      exact ⟨rfl, h1.congr (fun a b _ _ => Bn.fil_end Bn.sq_row a b), h3, h4⟩)
  have HX : Hid (MtxI (((w.alloc (.cells #[.int .i64 (N : Int), .slice ao R.length cap] 24)).alloc (.cells (Try.zeroCells77.setIfInBounds 0 (.int .i64 (N : Int))) 77)).alloc (.cells #[.pointer (some ⟨w.heap.size + 1, 0, none⟩)] 62)) (w.heap.size + 1) N Bn.zer ∧
      BoxB (((w.alloc (.cells #[.int .i64 (N : Int), .slice ao R.length cap] 24)).alloc (.cells (Try.zeroCells77.setIfInBounds 0 (.int .i64 (N : Int))) 77)).alloc (.cells #[.pointer (some ⟨w.heap.size + 1, 0, none⟩)] 62)) w.heap.size N (.slice ao R.length cap) ∧
      BoxV (((w.alloc (.cells #[.int .i64 (N : Int), .slice ao R.length cap] 24)).alloc (.cells (Try.zeroCells77.setIfInBounds 0 (.int .i64 (N : Int))) 77)).alloc (.cells #[.pointer (some ⟨w.heap.size + 1, 0, none⟩)] 62)) (w.heap.size + 1 + 1) (.pointer (some ⟨w.heap.size + 1, 0, none⟩)) ∧
      Below w.heap.size w (((w.alloc (.cells #[.int .i64 (N : Int), .slice ao R.length cap] 24)).alloc (.cells (Try.zeroCells77.setIfInBounds 0 (.int .i64 (N : Int))) 77)).alloc (.cells #[.pointer (some ⟨w.heap.size + 1, 0, none⟩)] 62))) := Lib.hid (by
    have e1 : (w.alloc (.cells #[.int .i64 (N : Int), .slice ao R.length cap] 24)).heap.size = w.heap.size + 1 := by simp
    have M := mtx_new (w.alloc (.cells #[.int .i64 (N : Int), .slice ao R.length cap] 24)) N 77
    rw [e1] at M
    have B := HB1.out
    have L := HL1.out
    generalize w.alloc (.cells #[.int .i64 (N : Int), .slice ao R.length cap] 24) = Y at *
    have l2 : Below Y.heap.size Y (Y.alloc (.cells (Try.zeroCells77.setIfInBounds 0 (.int .i64 (N : Int))) 77)) := (Below.refl _ _).alloc (Nat.le_refl _) _
    have e2 : (Y.alloc (.cells (Try.zeroCells77.setIfInBounds 0 (.int .i64 (N : Int))) 77)).heap.size = w.heap.size + 1 + 1 := by simp [e1]
    have B2 := B.step l2
    have L2 := below_nxt L l2
    generalize Y.alloc (.cells (Try.zeroCells77.setIfInBounds 0 (.int .i64 (N : Int))) 77) = Z at *
    have V := boxV_new Z (.pointer (some ⟨w.heap.size + 1, 0, none⟩)) 62
    have l3 : Below Z.heap.size Z (Z.alloc (.cells #[.pointer (some ⟨w.heap.size + 1, 0, none⟩)] 62)) := (Below.refl _ _).alloc (Nat.le_refl _) _
    rw [e2] at V
    exact ⟨M.step l3, B2.step l3, V, below_nxt L2 l3⟩)
  clear HR HB1 HL1
  go_enter Try.func38, Try.ntmps38
  go_wp2_with (go_at_call 45; refine ((HE _).out HX.out.1 HX.out.2.1 HX.out.2.2.1 HX.out.2.2.2).mono ?_; rintro e w1 ⟨rfl, hm, ⟨v0, v1⟩, hb⟩; have HM := Lib.hid hm; have HB := Lib.hid hb; clear hm hb x0 x1 x2)
  go_ret
  exact ⟨_, rfl, by omega, HM.out, HB.out⟩
end Go.Proofs.Ytkemicfaiipidaa

