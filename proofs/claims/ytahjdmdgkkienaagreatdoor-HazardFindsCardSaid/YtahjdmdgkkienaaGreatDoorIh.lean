/- The iterator over all cubes: what it gives, and a range over it, out of its contract. -/
import Derived.RangeFuncNested
import Derived.RangeFuncBound
import Derived.RangeFuncCalls
import Derived.RangeFuncLeaves
import Derived.RangeFuncBox
import Derived.Shelf.Abstract
import Derived.OwnWalkIn
import Derived.TacticsInMore
import Derived.LoopNIn
import Derived.LoopIn
import Derived.Test.YtahjdmdgkkienaaGreatDoorIb
namespace Ic
/-- A cube, without a condition for one more variable, and with both. -/
def three (z : Nat) (x : Nat × Nat) : List (Nat × Nat) := [(x.1, x.2), (x.1 ||| z, x.2), (x.1 ||| z, x.2 ||| z)]
/-- All cubes, as they are generated. -/
def cubesL : Nat → List (Nat × Nat)
  | 0 => [(0, 0)]
  | k + 1 => (cubesL k).flatMap (three (2 ^ k))
/-- A cube of k variables. -/
def Fits (k : Nat) (x : Nat × Nat) : Prop := x.1 < 2 ^ k ∧ Sub x.2 x.1
theorem sub_right {v c z : Nat} (h : Sub v c) : Sub v (c ||| z) := fun i hi => by rw [Nat.testBit_or, h i hi, Bool.true_or]
theorem Fits.zero : Fits 0 (0, 0) := ⟨by simp, fun i h => by simp at h⟩
theorem Fits.one {k : Nat} {x : Nat × Nat} (h : Fits k x) : Fits (k + 1) (x.1, x.2) := ⟨Nat.lt_trans h.1 (Nat.pow_lt_pow_right (by omega) (by omega)), h.2⟩
theorem Fits.two {k : Nat} {x : Nat × Nat} (h : Fits k x) : Fits (k + 1) (x.1 ||| 2 ^ k, x.2) :=
  ⟨Nat.or_lt_two_pow h.one.1 (Nat.pow_lt_pow_right (by omega) (by omega)), sub_right h.2⟩
theorem Fits.tri {k : Nat} {x : Nat × Nat} (h : Fits k x) : Fits (k + 1) (x.1 ||| 2 ^ k, x.2 ||| 2 ^ k) :=
  ⟨Nat.or_lt_two_pow h.one.1 (Nat.pow_lt_pow_right (by omega) (by omega)), sub_or h.2 (fun _ hi => hi)⟩
end Ic
namespace Go.Proofs.YtahjdmdgkkienaaGreatDoor
open Go.RowKit Go.Shelf
attribute [local go_sem] Oper.semAt_some

theorem RoundIn.deep {F : Fence} (hd : F.depth = none) {m m' : Nat} {P : Program} {l : Nat} {f : FuncId} {tmps : Array Value} {assign body : Code} {w : World} {R : Ending → World → Prop}
    (h : RoundIn F m P l f tmps assign body w R) : RoundIn F m' P l f tmps assign body w R := ⟨h.1, fun c cs _ => h.2 c cs (fun d h => by rw [hd] at h; cases h)⟩
theorem YieldAt.deep {F : Fence} (hd : F.depth = none) {m : Nat} (m' : Nat) {P : Program} {l : Nat} {args : Array Value} {W : World} {R : Ending → World → Prop} (h : YieldAt F m P l args W R) : YieldAt F m' P l args W R := by
  obtain ⟨fn, tmps, assign, body, hy, hR⟩ := h
  exact ⟨fn, tmps, assign, body, hy, RoundIn.deep hd hR⟩

theorem iCubes_any (n : Nat) (w : World) : Calls Tryz.prog 79 #[.int .i64 n] w fun e w' => e = .returned (.func (.func 93) #[] #[.pointer (some ⟨w.heap.size, 0, none⟩)]) ∧ w' = w.alloc (.cells #[.int .i64 n] 3) := by
  go_enter Tryz.func79, Tryz.ntmps79
  go_wp2
  go_ret
  exact ⟨rfl, rfl⟩

/-- What the caller of an iterator holds: of what has come, and of the blocks that its rounds leave alone. -/
abbrev Held := List (Nat × Nat) → (Nat → Prop) → World → Prop
/-- It bears what an iterator does. -/
structure Bears (N : Nat) (J : Held) : Prop where
  grow : ∀ p E W W', Below W.heap.size W W' → J p E W → J p (fun b => E b ∨ (W.heap.size ≤ b ∧ b < W'.heap.size)) W'
  put : ∀ p E W l o o', N ≤ l → W.heap[l]? = some o → o.isCells = false → J p E W → J p E (W.putObj l o')
  less : ∀ p (E E' : Nat → Prop) W, (∀ b, E' b → E b) → J p E W → J p E' W
theorem Bears.on {N : Nat} {J : Held} (h : Bears N J) {p : List (Nat × Nat)} {E : Nat → Prop} {W W' : World} (hb : Below W.heap.size W W') (hj : J p E W) : J p E W' :=
  h.less _ _ _ _ (fun _ hb => .inl hb) (h.grow _ _ _ _ hb hj)
/-- The blocks of a set lie as they lay. -/
def Lies (E : Nat → Prop) (W W' : World) : Prop := W.heap.size ≤ W'.heap.size ∧ ∀ b, E b → b < W.heap.size → W'.heap[b]? = W.heap[b]?
theorem Lies.refl (E : Nat → Prop) (W : World) : Lies E W W := ⟨Nat.le_refl _, fun _ _ _ => rfl⟩
theorem Lies.trans {E : Nat → Prop} {W X Y : World} (h : Lies E W X) (k : Lies E X Y) : Lies E W Y := ⟨Nat.le_trans h.1 k.1, fun b hb hl => (k.2 b hb (Nat.lt_of_lt_of_le hl h.1)).trans (h.2 b hb hl)⟩
theorem Lies.below {E : Nat → Prop} {W X : World} (h : Below W.heap.size W X) : Lies E W X := ⟨h.size, fun b _ hl => h.block b hl⟩
theorem Lies.less {E E' : Nat → Prop} {W X : World} (h : Lies E W X) (hs : ∀ b, E' b → E b) : Lies E' W X := ⟨h.1, fun b hb hl => h.2 b (hs b hb) hl⟩
theorem Lies.cell {E : Nat → Prop} {W X : World} (h : Lies E W X) {p : Addr} (hE : E p.block) (hl : p.block < W.heap.size) : X.cell? p = W.cell? p := World.cell?_of_block (w := W) (h.2 _ hE hl)
theorem Lies.cub {E : Nat → Prop} {W X : World} (h : Lies E W X) {g c v : Nat} (hE : E g) (hc : CubI W g c v) : CubI X g c v := by
  obtain ⟨h0, h1, h2, h3, h4⟩ := hc
  have e := h.2 g hE h0
  exact ⟨Nat.lt_of_lt_of_le h0 h.1, (World.cell?_of_block (w := W) e).trans h1, (World.cell?_of_block (w := W) e).trans h2, by rw [← h3]; unfold World.frozen?; rw [e], by rw [← h4]; unfold World.frozen?; rw [e]⟩

/-- **The contract of the iterator**: it gives all cubes, in its order, to rounds that go on. -/
def CubesIn (k : Nat) : Prop := ∀ (l B : Nat) (J : Held) (E0 : Nat → Prop) (pre0 : List (Nat × Nat)) (W : World), Bears W.heap.size J →
  (∀ m pre x E W1, J pre E W1 → Ic.Fits k x → (∃ rest, pre0 ++ Ic.cubesL k = pre ++ x :: rest) → YieldAt Fence.wide m Tryz.prog l #[.agg #[.int .u64 (x.1 : Int), .int .u64 (x.2 : Int)]] W1 fun e W' => e = .returned (.bool true) ∧ J (pre ++ [x]) E W' ∧ Lies E W1 W') →
  W.cell? ⟨B, 0, none⟩ = some (.int .i64 (k : Int)) → J pre0 E0 W →
  Calls Tryz.prog 93 #[.func (.yield l) #[] #[], .pointer (some ⟨B, 0, none⟩)] W fun e W' => (∃ v, e = .returned v) ∧ J (pre0 ++ Ic.cubesL k) E0 W'

/-- How a round of a range over the cubes is left. -/
def onPost (R : World → Prop) : Exit → Act → World → Prop
  | .normal, _, W' => R W'
  | _, _, _ => False

/-- **A range over the cubes: the statement.** -/
theorem range_cubes {k : Nat} (hseq : CubesIn k) {g : Operand} {t0 : Tmp} {assign body : Code} {Q : Exit → Act → World → Prop} {a : Act} {w : World} (n B : Nat)
    (hg : a.eval g = .func (.func 93) #[] #[.pointer (some ⟨B, 0, none⟩)])
    (hB : w.cell? ⟨B, 0, none⟩ = some (.int .i64 (k : Int)))
    (I : Held) (hI : Bears w.heap.size I) (E0 : Nat → Prop) (pre0 : List (Nat × Nat)) (h0 : I pre0 E0 w) (a₁ : Nat × Nat → Nat → Act)
    (hassign : ∀ (l : Nat) (x : Nat × Nat) (W : World) (K : Act → World → Prop), (∀ W', Below W.heap.size W W' → CubI W' W.heap.size x.1 x.2 → K (a₁ x W.heap.size) W') →
      assign.wpIn (Fence.wide.inRound l) (n - 1 - 1) Tryz.prog (Exit.then K (fun _ _ _ => False)) { tmps := a.tmps.setIfInBounds t0 (.agg #[.int .u64 (x.1 : Int), .int .u64 (x.2 : Int)]), defers := [] } W)
    (hbody : ∀ (l : Nat) (pre : List (Nat × Nat)) (x : Nat × Nat) (E : Nat → Prop) (Bx : Nat) (W : World), I pre E W → Ic.Fits k x → E Bx → CubI W Bx x.1 x.2 → w.heap.size < W.heap.size → (∃ rest, pre0 ++ Ic.cubesL k = pre ++ x :: rest) →
      body.wpIn (Fence.wide.inRound l) (n - 1 - 1) Tryz.prog (onPost fun W' => I (pre ++ [x]) E W' ∧ Lies E W W') (a₁ x Bx) W)
    (hdone : ∀ W, w.heap.size < W.heap.size → I (pre0 ++ Ic.cubesL k) E0 W → W.heap[w.heap.size]? = some (.deferred (some [])) →
      Q .normal { a with defers := { target := .collected w.heap.size, args := #[] } :: a.defers } W) :
    (Code.rangeFunc g #[t0] assign body).wpIn Fence.wide n Tryz.prog Q a w := by
  refine wpIn_rangeFunc ?_
  intro fn _
  obtain ⟨R, hR⟩ : ∃ R : LoopState → Option Code → Loop, R = fun st pe => { state := st, pending := pe, fn, tmps := a.tmps, params := #[t0], assign, body, defers := w.heap.size } := ⟨_, rfl⟩
  obtain ⟨W1, hW1⟩ : ∃ W1, (w.alloc (.deferred (some []))).alloc (.loop (R .ready none)) = W1 := ⟨_, rfl⟩
  have hL1 : W1.heap[w.heap.size + 1]? = some (.loop (R .ready none)) := by
    rw [← hW1]; have := World.alloc_heap_new (w.alloc (.deferred (some []))) (.loop (R .ready none)); rwa [World.size_alloc] at this
  have hK1 : W1.heap[w.heap.size]? = some (.deferred (some [])) := by
    rw [← hW1]; exact (Below.heap_alloc _ _ _ (by simp)).trans (World.alloc_heap_new w _)
  have hb1 : Below w.heap.size w W1 := by rw [← hW1]; exact ((Below.refl _ w).alloc (Nat.le_refl _) _).alloc (by simp) _
  have hz1 : W1.heap.size = w.heap.size + 2 := by rw [← hW1]; simp
  have hI1 : I pre0 (fun b => E0 b ∨ b = w.heap.size ∨ b = w.heap.size + 1) W1 := hI.less _ _ _ _ (fun b hb => by
    rcases hb with h | h | h
    · exact .inl h
    · exact .inr (by omega)
    · exact .inr (by omega)) (hI.grow _ _ _ _ hb1 h0)
  have hBl := World.block_lt_of_cell? w ⟨B, 0, none⟩ hB
  have hB1 : W1.cell? ⟨B, 0, none⟩ = some (.int .i64 (k : Int)) := (hb1.cell (p := ⟨B, 0, none⟩) hBl).trans hB
  have hen : (Instr.enterLoop fn a.tmps #[t0] assign body Fence.wide.round).run Tryz.prog w = .ok (w.heap.size + 1, [{ target := .collected w.heap.size, args := #[] }]) W1 := by
    rw [← hW1, hR]; exact run_enterLoop_outer _ _ _ _ _
  refine ⟨w.heap.size + 1, _, W1, { target := .fn (.func 93) #[.pointer (some ⟨B, 0, none⟩)], args := #[.func (.yield (w.heap.size + 1)) #[] #[]] }, W1, 93,
    #[.func (.yield (w.heap.size + 1)) #[] #[], .pointer (some ⟨B, 0, none⟩)], W1, hen, ?_, fun _ _ => trivial, ?_, fun h => (by cases h), ?_⟩
  · simp only [resolve, hg]
    simp [go_sem]
  · simp [invoke, go_sem]
  refine (callsIn_wide.2 (hseq (w.heap.size + 1) B
    (fun pre E W => I pre (fun b => E b ∨ b = w.heap.size ∨ b = w.heap.size + 1) W ∧ W.heap[w.heap.size + 1]? = some (.loop (R .ready none)) ∧ W.heap[w.heap.size]? = some (.deferred (some []))) E0 pre0 W1 ?_ ?_ hB1 ⟨hI1, hL1, hK1⟩)).mono ?_
  · refine ⟨?_, ?_, ?_⟩
    · rintro p E W W' hb ⟨hi, hl, hk⟩
      refine ⟨hI.less _ _ _ _ (fun b hb => ?_) (hI.grow _ _ _ _ hb hi), (hb.block _ (Array.getElem?_eq_some_iff.1 hl).1).trans hl, (hb.block _ (Array.getElem?_eq_some_iff.1 hk).1).trans hk⟩
      rcases hb with (h | h) | h
      · exact .inl (.inl h)
      · exact .inr h
      · exact .inl (.inr h)
    · rintro p E W l o o' hN hl hc ⟨hi, h1, h2⟩
      exact ⟨hI.put _ _ _ _ _ _ (by omega) hl hc hi, (World.putObj_heap_other (by omega)).trans h1, (World.putObj_heap_other (by omega)).trans h2⟩
    · rintro p E E' W hs ⟨hi, h1, h2⟩
      refine ⟨hI.less _ _ _ _ (fun b hb => ?_) hi, h1, h2⟩
      rcases hb with h | h
      · exact .inl (hs b h)
      · exact .inr h
  · rintro m pre x E W ⟨hi, hl, hk⟩ hx hpre
    refine YieldAt.deep rfl (m := n - 1 - 1) m ?_
    have hlt : w.heap.size + 1 < W.heap.size := (Array.getElem?_eq_some_iff.1 hl).1
    have hy := run_yield (P := Tryz.prog) (args := #[Value.agg #[.int .u64 (x.1 : Int), .int .u64 (x.2 : Int)]]) hl (by rw [hR]; rfl)
    rw [hR] at hy
    dsimp only at hy
    have ez : (#[t0].zip #[Value.agg #[.int .u64 (x.1 : Int), .int .u64 (x.2 : Int)]]).foldl (fun (tmps : Array Value) (x : Tmp × Value) => match x with | (t, a) => tmps.setIfInBounds t a) a.tmps = a.tmps.setIfInBounds t0 (.agg #[.int .u64 (x.1 : Int), .int .u64 (x.2 : Int)]) := by simp
    rw [ez] at hy
    refine ⟨fn, _, assign, body, hy, roundIn_of_wpIn trivial ?_⟩
    refine hassign _ _ _ _ ?_
    intro W2 hb2 hc2
    have hl2 := (hb2.block _ hlt).trans hl
    have hk2 := (hb2.block _ (by omega : w.heap.size < W.heap.size)).trans hk
    have hz2 := hb2.size
    have hBx : W.heap.size < W2.heap.size := hc2.1
    refine ⟨_, run_beginRound hl2 (by rw [hR]), ?_⟩
    obtain ⟨W3, hW3⟩ : ∃ W3, W2.putObj (w.heap.size + 1) (.loop { R .ready none with state := .busy }) = W3 := ⟨_, rfl⟩
    rw [hW3]
    have hl3 : W3.heap[w.heap.size + 1]? = some (.loop { R .ready none with state := .busy }) := by rw [← hW3]; exact World.putObj_heap_same (by omega)
    have hk3 : W3.heap[w.heap.size]? = some (.deferred (some [])) := by rw [← hW3]; exact (World.putObj_heap_other (by omega)).trans hk2
    have hz3 : W3.heap.size = W2.heap.size := by rw [← hW3]; simp
    have hi3 : I pre (fun b => (E b ∨ b = w.heap.size ∨ b = w.heap.size + 1) ∨ (W.heap.size ≤ b ∧ b < W2.heap.size)) W3 := by rw [← hW3]; exact hI.put _ _ _ _ _ _ (by omega) hl2 rfl (hI.grow _ _ _ _ hb2 hi)
    have hc3 : CubI W3 W.heap.size x.1 x.2 := by
      obtain ⟨c0, c1, c2, c3, c4⟩ := hc2
      have e : W3.heap[W.heap.size]? = W2.heap[W.heap.size]? := by rw [← hW3]; exact World.putObj_heap_other (by omega)
      exact ⟨by omega, (World.cell?_of_block (w := W2) e).trans c1, (World.cell?_of_block (w := W2) e).trans c2, by rw [← c3]; unfold World.frozen?; rw [e], by rw [← c4]; unfold World.frozen?; rw [e]⟩
    refine wpIn_mono (hbody _ pre x _ _ _ hi3 hx (.inr ⟨Nat.le_refl _, hBx⟩) hc3 (by omega) hpre) ?_
    rintro e a3 W4 hp
    cases e with
    | normal =>
      obtain ⟨hi4, hlie⟩ := hp
      have hl4 := (hlie.2 (w.heap.size + 1) (.inl (.inr (.inr rfl))) (by omega)).trans hl3
      have hk4 := (hlie.2 w.heap.size (.inl (.inr (.inl rfl))) (by omega)).trans hk3
      have hr := run_endRound (P := Tryz.prog) none hl4
      have hz4 := hlie.1
      refine ⟨_, _, hr, rfl, ⟨?_, ?_, ?_⟩, ?_⟩
      · exact hI.less _ _ _ _ (fun b hb => .inl hb) (hI.put _ _ _ _ _ _ (by omega) hl4 rfl hi4)
      · rw [hR]
        exact World.putObj_heap_same (Array.getElem?_eq_some_iff.1 hl4).1
      · exact (World.putObj_heap_other (by omega)).trans hk4
      · refine ⟨by simp; omega, fun b hb hbl => ?_⟩
        by_cases hbe : b = w.heap.size + 1
        · subst hbe
          rw [World.putObj_heap_same (by omega), hl, hR]
          rfl
        · rw [World.putObj_heap_other (by omega), hlie.2 b (.inl (.inl hb)) (by omega), ← hW3, World.putObj_heap_other (by omega), hb2.block b hbl]
    | ret => exact hp.elim
    | exit id => exact hp.elim
    | goto t => exact hp.elim
    | panic ch => exact hp.elim
    | outgrown => exact hp.elim
  · rintro e W2 ⟨⟨v, rfl⟩, hi, hl, hk⟩
    have hen := run_endLoop (P := Tryz.prog) hl (by rw [hR]; simp)
    refine ⟨none, _, by rw [hR] at hen; exact hen, ?_⟩
    exact hdone _ (by have := (Array.getElem?_eq_some_iff.1 hl).1; simp; omega) (hI.less _ _ _ _ (fun b hb => .inl hb) (hI.put _ _ _ _ _ _ (by omega) hl rfl hi)) ((World.putObj_heap_other (by omega)).trans hk)
end Go.Proofs.YtahjdmdgkkienaaGreatDoor

