/- The error of two bounds; what Meet and Leq return. -/
import Derived.Test.YtkemicfaiipidaaBI
import Derived.Test.YtkemicfaiipidaaBU
namespace Bn
/-- The error of two bounds. -/
def twE (n : Int) (R : List (List Int)) (m : Int) (S : List (List Int)) : Int := if chk n R = 0 then (if chk m S = 0 then (if n = m then 0 else 8) else chk m S) else chk n R
def metM (R S : List (List Int)) : Mx := fun i j => mn (mx R i j) (mx S i j)
/-- What Meet returns. -/
def meeV (n : Int) (R : List (List Int)) (m : Int) (S : List (List Int)) : Int × List (List Int) × Int := if twE n R m S = 0 then (n, rws n.toNat (metM R S), 0) else (0, [], twE n R m S)
/-- Is no bound of the second less than a bound of a matrix? -/
def leqB (N : Nat) (u : Mx) (S : List (List Int)) : Bool := (List.range (N + 1)).all fun i => (List.range (N + 1)).all fun j => !less (mx S i j) (u i j)
/-- What Leq returns. -/
def leqV (n : Int) (R : List (List Int)) (m : Int) (S : List (List Int)) : Bool × Int := if twE n R m S = 0 then (if ok n.toNat (mx R) then leqB n.toNat (cl n R) S else true, 0) else (false, twE n R m S)
theorem twE_ok {n m : Int} {R S : List (List Int)} (h : twE n R m S = 0) : chk n R = 0 ∧ chk m S = 0 ∧ n = m := by
  unfold twE at h
  split at h
  · split at h
    · split at h
      · exact ⟨by assumption, by assumption, by assumption⟩
      · omega
    · exact absurd h (by assumption)
  · exact absurd h (by assumption)
theorem leqB_iff {N : Nat} {u : Mx} {S : List (List Int)} : leqB N u S = true ↔ ∀ i j, i ≤ N → j ≤ N → less (mx S i j) (u i j) = false := by
  unfold leqB
  rw [List.all_eq_true]
  constructor
  · intro h i j hi hj
    have h1 := h i (List.mem_range.2 (by omega))
    rw [List.all_eq_true] at h1
    have h2 := h1 j (List.mem_range.2 (by omega))
    simpa using h2
  · intro h i hi
    rw [List.all_eq_true]
    intro j hj
    have := h i j (by have := List.mem_range.1 hi; omega) (by have := List.mem_range.1 hj; omega)
    simp [this]
theorem metM_allB {N : Nat} {R S : List (List Int)} (h1 : Rt N (mx R)) (h2 : Rt N (mx S)) : allB N (metM R S) = true := allB_iff.2 fun i j hi hj => by
  have a := h1.bd i j hi hj
  have b := h2.bd i j hi hj
  unfold metM mn isB num
  simp only [Bool.or_eq_true, beq_iff_eq, Bool.and_eq_true, decide_eq_true_eq]
  split <;> omega
end Bn
namespace Go.Proofs.Ytkemicfaiipidaa
open Go.RowKit
/-- The boxes of two bounds. -/
theorem pro22 (w : World) (n m : Int) (v u : Value) : ∃ X, X = ((w.alloc (.cells #[.int .i64 n, v] 24)).alloc (.cells #[.int .i64 m, u] 24)) ∧ BoxB X w.heap.size n v ∧ BoxB X (w.heap.size + 1) m u ∧ Below w.heap.size w X := by
  refine ⟨_, rfl, ?_⟩
  obtain ⟨B0, L0⟩ := boxB_new w n v 24
  have e0 : (w.alloc (.cells #[.int .i64 n, v] 24)).heap.size = w.heap.size + 1 := by simp
  generalize w.alloc (.cells #[.int .i64 n, v] 24) = Y at *
  obtain ⟨B1, L1⟩ := boxB_new Y m u 24
  rw [e0] at B1
  exact ⟨B0.step L1, B1, below_nxt L0 L1⟩
/-- .. and the variable of a result. -/
theorem pro32 (w : World) (n m : Int) (v u : Value) : ∃ X, X = (((w.alloc (.cells #[.int .i64 n, v] 24)).alloc (.cells #[.int .i64 m, u] 24)).alloc (.cells #[.int .i64 0, .slice none 0 0] 24)) ∧ BoxB X w.heap.size n v ∧ BoxB X (w.heap.size + 1) m u ∧ ResI X (w.heap.size + 1 + 1) 0 (.slice none 0 0) ∧ Below w.heap.size w X := by
  refine ⟨_, rfl, ?_⟩
  obtain ⟨B0, L0⟩ := boxB_new w n v 24
  have e0 : (w.alloc (.cells #[.int .i64 n, v] 24)).heap.size = w.heap.size + 1 := by simp
  generalize w.alloc (.cells #[.int .i64 n, v] 24) = Y at *
  obtain ⟨B1, L1⟩ := boxB_new Y m u 24
  have e1 : (Y.alloc (.cells #[.int .i64 m, u] 24)).heap.size = w.heap.size + 1 + 1 := by simp [e0]
  rw [e0] at B1
  have B0' := B0.step L1
  have LL1 := below_nxt L0 L1
  generalize Y.alloc (.cells #[.int .i64 m, u] 24) = Z at *
  have R1 := resI_new Z 0 (.slice none 0 0) 24
  have L2 : Below Z.heap.size Z (Z.alloc (.cells #[.int .i64 0, .slice none 0 0] 24)) := (Below.refl _ _).alloc (Nat.le_refl _) _
  rw [e1] at R1
  exact ⟨B0'.step L2, B1.step L2, R1, below_nxt LL1 L2⟩
set_option maxHeartbeats 4000000 in
set_option maxRecDepth 100000 in
theorem bBoth_any (n m : Int) (v u : Value) (R S : List (List Int)) (w : World) (hs : SeesR w v R) (hu : SeesR w u S) :
    Calls Try.prog 58 #[.agg #[.int .i64 n, v], .agg #[.int .i64 m, u]] w fun e w' => e = .returned (.int .i64 (Bn.twE n R m S)) ∧ Below w.heap.size w w' := by
  have C1 := fun W (h : SeesR W v R) => Lib.hid (bChk_any n v R W h)
  have C2 := fun W (h : SeesR W u S) => Lib.hid (bChk_any m u S W h)
  have HS := Lib.hid hs
  have HU := Lib.hid hu
  obtain ⟨ao, cap, rfl, hcap1, hcap2, -⟩ := hs
  obtain ⟨bo, cbp, rfl, hcbp1, hcbp2, -⟩ := hu
  obtain ⟨X, hX, hBX, hEX, hLX⟩ := pro22 w n m (.slice ao R.length cap) (.slice bo S.length cbp)
  have HEX := Lib.hid hEX
  have HBX := Lib.hid hBX
  have HLX := Lib.hid hLX
  obtain ⟨x0, x1, x2⟩ := hBX
  rw [hX] at x0 x1 x2
  clear hEX hLX
  by_cases h1 : Bn.chk n R = 0
  · rw [h1] at C1
    by_cases h2 : Bn.chk m S = 0
    · rw [h2] at C2
      by_cases h3 : n = m
      · subst h3
        rw [show Bn.twE n R n S = 0 by unfold Bn.twE; rw [if_pos h1, if_pos h2, if_pos rfl]]
        clear h1 h2
        go_enter Try.func58, Try.ntmps58
        go_wp2_with fail
        rw [← hX]
        clear x0 x1 x2
        refine ((C1 X (HS.out.step HLX.out)).out).mono ?_
        rintro e w1 ⟨rfl, hb1⟩
        have HB1 := Lib.hid (below_nxt HLX.out hb1)
        obtain ⟨x0, x1, x2⟩ := HBX.out.step hb1
        obtain ⟨y0, y1, y2⟩ := HEX.out.step hb1
        have HEY := Lib.hid (HEX.out.step hb1)
        have HBY := Lib.hid (HBX.out.step hb1)
        clear hb1 C1
        go_wp2_with fail
        clear x0 x1 x2 y0 y1 y2
        refine ((C2 w1 (HU.out.step HB1.out)).out).mono ?_
        rintro e w2 ⟨rfl, hb2⟩
        have HB2 := Lib.hid (below_nxt HB1.out hb2)
        obtain ⟨x0, x1, x2⟩ := HBY.out.step hb2
        obtain ⟨y0, y1, y2⟩ := HEY.out.step hb2
        clear hb2 C2
        go_wp2
        go_ret
        exact ⟨rfl, HB2.out⟩
      · rw [show Bn.twE n R m S = 8 by unfold Bn.twE; rw [if_pos h1, if_pos h2, if_neg h3]]
        clear h1 h2
        go_enter Try.func58, Try.ntmps58
        go_wp2_with fail
        rw [← hX]
        clear x0 x1 x2
        refine ((C1 X (HS.out.step HLX.out)).out).mono ?_
        rintro e w1 ⟨rfl, hb1⟩
        have HB1 := Lib.hid (below_nxt HLX.out hb1)
        obtain ⟨x0, x1, x2⟩ := HBX.out.step hb1
        obtain ⟨y0, y1, y2⟩ := HEX.out.step hb1
        have HEY := Lib.hid (HEX.out.step hb1)
        have HBY := Lib.hid (HBX.out.step hb1)
        clear hb1 C1
        go_wp2_with fail
        clear x0 x1 x2 y0 y1 y2
        refine ((C2 w1 (HU.out.step HB1.out)).out).mono ?_
        rintro e w2 ⟨rfl, hb2⟩
        have HB2 := Lib.hid (below_nxt HB1.out hb2)
        obtain ⟨x0, x1, x2⟩ := HBY.out.step hb2
        obtain ⟨y0, y1, y2⟩ := HEY.out.step hb2
        clear hb2 C2
        go_wp2
        go_ret
        exact ⟨rfl, HB2.out⟩
    · rw [show Bn.twE n R m S = Bn.chk m S by unfold Bn.twE; rw [if_pos h1, if_neg h2]]
      go_enter Try.func58, Try.ntmps58
      go_wp2_with fail
      rw [← hX]
      clear x0 x1 x2
      refine ((C1 X (HS.out.step HLX.out)).out).mono ?_
      rintro e w1 ⟨rfl, hb1⟩
      have HB1 := Lib.hid (below_nxt HLX.out hb1)
      obtain ⟨x0, x1, x2⟩ := HBX.out.step hb1
      obtain ⟨y0, y1, y2⟩ := HEX.out.step hb1
      have HEY := Lib.hid (HEX.out.step hb1)
      have HBY := Lib.hid (HBX.out.step hb1)
      clear hb1 C1
      go_wp2_with fail
      clear x0 x1 x2 y0 y1 y2
      refine ((C2 w1 (HU.out.step HB1.out)).out).mono ?_
      rintro e w2 ⟨rfl, hb2⟩
      have HB2 := Lib.hid (below_nxt HB1.out hb2)
      obtain ⟨x0, x1, x2⟩ := HBY.out.step hb2
      obtain ⟨y0, y1, y2⟩ := HEY.out.step hb2
      clear hb2 C2
      go_wp2
      go_ret
      exact ⟨rfl, HB2.out⟩
  · rw [show Bn.twE n R m S = Bn.chk n R by unfold Bn.twE; rw [if_neg h1]]
    go_enter Try.func58, Try.ntmps58
    go_wp2_with fail
    rw [← hX]
    clear x0 x1 x2
    refine ((C1 X (HS.out.step HLX.out)).out).mono ?_
    rintro e w1 ⟨rfl, hb1⟩
    have HB1 := Lib.hid (below_nxt HLX.out hb1)
    clear hb1
    go_wp2
    go_ret
    exact ⟨rfl, HB1.out⟩
end Go.Proofs.Ytkemicfaiipidaa

