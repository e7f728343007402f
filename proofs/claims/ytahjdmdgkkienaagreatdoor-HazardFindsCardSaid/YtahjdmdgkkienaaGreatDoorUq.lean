/- The points of a word: math/bits.TrailingZeros64, the closure of truth.points and a range over it. -/
import Derived.RangeFuncNested
import Derived.RangeFuncBound
import Derived.RangeFuncCalls
import Derived.RangeFuncLeaves
import Derived.RangeFuncBox
import Derived.Shelf.Abstract
import Derived.WalkKit
import Derived.OwnWalkIn
import Derived.TacticsInMore
import Derived.LoopNIn
import Derived.LoopIn
import Derived.Laws.Bits64b
import Derived.Lib.TrailingZeros
import Derived.Lib.Hide
import Derived.Laws.BitsAllLaws
import Derived.Test.YtahjdmdgkkienaaGreatDoorProg
import Derived.Test.YtahjdmdgkkienaaGreatDoorUp
namespace Go.Proofs.YtahjdmdgkkienaaGreatDoor
open Go.RowKit Go.Shelf
attribute [local go_sem] Oper.semAt_some

/-- The library's table of trailing zeros, as its initialiser lays it. -/
def TzTab (W : World) : Prop := ∀ j, j < 64 → W.cell? ⟨3, j, none⟩ = some (.int .u8 (Lib.deBruijn64tab.getD j 0))

theorem tz_key (x a : Nat) (hx : x < 18446744073709551616) (hx0 : x ≠ 0) (hlow : x &&& (18446744073709551616 - x) = a) :
    IntKind.u64.wrap (bits BinOp.and IntKind.u64 (x : Int) (IntKind.u64.wrap (-(x : Int))) * 285870213051353865) / 288230376151711744 = ((a * 285870213051353865 % 18446744073709551616 / 288230376151711744 : Nat) : Int) := by
  have e1 : IntKind.u64.wrap (-(x : Int)) = ((18446744073709551616 - x : Nat) : Int) := by rw [IntKind.wrap_u64]; omega
  rw [e1, bits_and_u64_nat x _ hx (by omega), hlow, IntKind.wrap_u64]
  omega

theorem tz_core (x k idx : Nat) (w : World) (hx0 : ((x : Int) == 0) = false)
    (key : IntKind.u64.wrap (bits BinOp.and IntKind.u64 (x : Int) (IntKind.u64.wrap (-(x : Int))) * 285870213051353865) / 288230376151711744 = (idx : Int))
    (hi : idx < 64) (hk : k < 64) (hcell : w.cell? ⟨3, idx, none⟩ = some (.int .u8 k)) :
    Calls Tryz.prog 92 #[.int .u64 x] w fun e w' => e = .returned (.int .i64 k) ∧ w = w' := by
  go_enter Tryz.func92, Tryz.ntmps92
  go_wp2_with (simp only [key])
  go_ret
  exact ⟨rfl, rfl⟩

theorem tTz_any (x : Nat) (hx : x < 18446744073709551616) (hx0 : x ≠ 0) (w : World) (hT : TzTab w) :
    Calls Tryz.prog 92 #[.int .u64 x] w fun e w' => e = .returned (.int .i64 (Lib.ctz 64 x)) ∧ w = w' := by
  obtain ⟨hlow, hk⟩ := Lib.lowest_bit 64 x hx0 hx
  obtain ⟨hi, htab⟩ := Lib.deBruijn64_at _ hk
  have hcell := hT _ hi
  rw [htab] at hcell
  exact tz_core x _ _ w (by simp; omega) (tz_key x _ hx hx0 hlow) hi hk hcell

/-- The next word. -/
def nxt (x : Nat) : Nat := x &&& (x - 1)
theorem nxt_lt {x : Nat} (h : x ≠ 0) : nxt x < x := by
  have : x &&& (x - 1) ≤ x - 1 := Nat.and_le_right
  unfold nxt
  omega
theorem nxt_word {x : Nat} (hx : x < 18446744073709551616) (h : x ≠ 0) : bits .and .u64 (x : Int) ((x : Int) - 1) = ((nxt x : Nat) : Int) := by
  have e1 : (x : Int) - 1 = ((x - 1 : Nat) : Int) := by omega
  rw [e1, bits_and_u64_nat x _ hx (by omega)]
  rfl

/-- What the closure reads: its word, and the library's table. -/
def Cor (B x : Nat) (W : World) : Prop := W.cell? ⟨B, 0, none⟩ = some (.int .u64 (x : Int)) ∧ W.frozen? ⟨B, 0, none⟩ = false ∧ TzTab W ∧ B ≠ 3
theorem Cor.set {B x : Nat} {W : World} (y : Nat) (h : Cor B x W) : Cor B y (W.setCell ⟨B, 0, none⟩ (.int .u64 (y : Int))) := by
  obtain ⟨h1, h2, h3, h4⟩ := h
  refine ⟨World.cell?_setCell_same' _ _ _ (by rw [h1]; rfl), by rw [World.frozen?_setCell]; exact h2, fun j hj => ?_, h4⟩
  exact (World.cell?_setCell_other (w := W) (v := .int .u64 (y : Int)) (a := ⟨B, 0, none⟩) (b := ⟨3, j, none⟩) (fun e => h4 (congrArg Addr.block e))).trans (h3 j hj)
/-- The word in a world. -/
def wordOf (B : Nat) (W : World) : Nat := match W.cell? ⟨B, 0, none⟩ with | some (.int _ v) => v.toNat | _ => 0
theorem Cor.word {B x : Nat} {W : World} (h : Cor B x W) : wordOf B W = x := by unfold wordOf; rw [h.1]; simp

set_option maxRecDepth 100000 in
theorem pts_any (n : Nat) (hn : 1 ≤ n) (l B x0 : Nat) (I : Nat → World → Prop) (W : World)
    (hY : ∀ x W1, x ≠ 0 → x < 18446744073709551616 → Cor B x W1 → I x W1 → YieldAt Fence.wide (n - 1) Tryz.prog l #[.int .i64 (Lib.ctz 64 x)] W1 fun e W' => e = .returned (.bool true) ∧ Cor B x W' ∧ I (nxt x) W')
    (hI : ∀ x y W1 v, Cor B y W1 → I x W1 → I x (W1.setCell ⟨B, 0, none⟩ v))
    (hx0 : x0 < 18446744073709551616) (h0 : Cor B x0 W) (hi : I x0 W) :
    CallsIn Fence.wide n Tryz.prog 91 #[.func (.yield l) #[] #[], .pointer (some ⟨B, 0, none⟩)] W fun e W' => (∃ v, e = .returned v) ∧ Cor B 0 W' ∧ I 0 W' := by
  refine callsIn_of_wp Tryz.func91 rfl trivial ?_ rfl
  simp only [Tryz.ntmps91, List.size_toArray, List.length_cons, List.length_nil, Nat.reduceAdd, Nat.reduceSub, Array.replicate_succ, Array.replicate_zero, List.push_toArray, List.append_toArray, List.nil_append, List.cons_append]
  gi_wp2
  gi_loopw [] (fun wr => ∃ x : Nat, x < 18446744073709551616 ∧ Cor B x wr ∧ I x wr) (fun wr => wordOf B wr)
  case atStart =>
    exact ⟨x0, hx0, h0, hi⟩
  case round =>
    obtain ⟨x, hx, hC, hJ⟩ := hrel
    have hc1 := hC.1
    by_cases hz : x = 0
    · subst hz
      gi_wp2
      go_end0
      exact ⟨⟨_, rfl⟩, hC, hJ⟩
    · have hT := tTz_any x hx hz wr hC.2.2.1
      obtain ⟨fn, tmps, assign, body, hy, hR⟩ := hY x wr hz hx hC hJ
      gi_wp2_with (refine ⟨trivial, ?_⟩; gi_at_call 92; refine (callsIn_wide.2 hT).mono ?_; rintro e w' ⟨rfl, rfl⟩)
      refine hR.mono ?_
      rintro e W3 ⟨rfl, hC3, hJ3⟩
      have hc3 := hC3.1
      have hf3 := hC3.2.1
      have hn3 := nxt_word hx hz
      gi_wp2
      go_roundw
      case rel => exact ⟨nxt x, by have := nxt_lt hz; omega, hC3.set _, hI _ _ _ _ hC3 hJ3⟩
      case measure => rw [(hC3.set (nxt x)).word, hC.word]; exact nxt_lt hz

theorem Cor.kept {B x : Nat} {W W' : World} {row : Option Nat} (h : Cor B x W) (hg : W.grownBy W' row) (hr : ∀ r, row = some r → ∃ o : Obj, W.heap[r]? = some o ∧ o.isCells = false) : Cor B x W' :=
  ⟨cell_kept h.1 hg hr, (frozen_kept h.1 hg hr).trans h.2.1, fun j hj => cell_kept (h.2.2.1 j hj) hg hr, h.2.2.2⟩
theorem Cor.alloc {B x : Nat} {W : World} (o : Obj) (h : Cor B x W) : Cor B x (W.alloc o) := h.kept (World.grownBy_alloc W o none) (fun r e => by cases e)
theorem Cor.putObj {B x : Nat} {W : World} {l : Nat} {o : Obj} (o' : Obj) (h : Cor B x W) (hl : W.heap[l]? = some o) (ho : o.isCells = false) : Cor B x (W.putObj l o') :=
  h.kept (grownBy_putObj' W l o') (fun r e => by cases e; exact ⟨o, hl, ho⟩)
/-- A block of cells is another one than the loop's record. -/
theorem ne_of_cell {W : World} {a : Addr} {v : Value} {l : Nat} {o : Obj} (h : W.cell? a = some v) (hl : W.heap[l]? = some o) (ho : o.isCells = false) : a.block ≠ l := by
  intro e
  obtain ⟨o', h1, h2⟩ := cells_of_cell h
  rw [e, hl] at h1
  cases h1
  rw [ho] at h2
  cases h2

/-- How a round of a range over the points is left. -/
def ptsPost (R : World → Prop) : Exit → Act → World → Prop
  | .normal, _, W' => R W'
  | _, _, _ => False

/-- **A range over the points of a word: the statement.** -/
theorem range_pts {g : Operand} {t0 : Tmp} {assign body : Code} {Q : Exit → Act → World → Prop} {a : Act} {w : World} (n : Nat) (h1 : 3 ≤ n) (B x0 : Nat)
    (hg : a.eval g = .func (.func 91) #[] #[.pointer (some ⟨B, 0, none⟩)])
    (hx0 : x0 < 18446744073709551616) (hC : Cor B x0 w)
    (I : Nat → World → Prop) (hI : OwnFrom w.heap.size I) (hIs : ∀ x W v, I x W → I x (W.setCell ⟨B, 0, none⟩ v)) (h0 : I x0 w) (a₁ : Nat → Act)
    (hassign : ∀ (l v : Nat) (W : World) (K : Act → World → Prop), K (a₁ v) W →
      assign.wpIn (Fence.wide.inRound l) (n - 1 - 1) Tryz.prog (Exit.then K (fun _ _ _ => False)) { tmps := a.tmps.setIfInBounds t0 (.int .i64 (v : Int)), defers := [] } W)
    (hbody : ∀ (l x : Nat) (W : World), x ≠ 0 → x < 18446744073709551616 → w.heap.size < W.heap.size → Cor B x W → I x W →
      body.wpIn (Fence.wide.inRound l) (n - 1 - 1) Tryz.prog (ptsPost fun W' => KeepsFrom w.heap.size W W' ∧ Cor B x W' ∧ I (nxt x) W') (a₁ (Lib.ctz 64 x)) W)
    (hdone : ∀ W, w.heap.size < W.heap.size → Cor B 0 W → I 0 W → W.heap[w.heap.size]? = some (.deferred (some [])) →
      Q .normal { a with defers := { target := .collected w.heap.size, args := #[] } :: a.defers } W) :
    (Code.rangeFunc g #[t0] assign body).wpIn Fence.wide n Tryz.prog Q a w := by
  refine wpIn_rangeFunc ?_
  intro fn _
  obtain ⟨R, hR⟩ : ∃ R : LoopState → Option Code → Loop, R = fun st pe => { state := st, pending := pe, fn, tmps := a.tmps, params := #[t0], assign, body, defers := w.heap.size } := ⟨_, rfl⟩
  obtain ⟨W1, hW1⟩ : ∃ W1, (w.alloc (.deferred (some []))).alloc (.loop (R .ready none)) = W1 := ⟨_, rfl⟩
  have hL1 : W1.heap[w.heap.size + 1]? = some (.loop (R .ready none)) := by
    rw [← hW1]; have := World.alloc_heap_new (w.alloc (.deferred (some []))) (.loop (R .ready none)); rwa [World.size_alloc] at this
  have hK1 : W1.heap[w.heap.size]? = some (.deferred (some [])) := by
    rw [← hW1]; exact (Below.heap_alloc _ _ _ (by simp)).trans (World.alloc_heap_new w _)
  have hI1 : I x0 W1 := by rw [← hW1]; exact hI.alloc _ (hI.alloc _ h0)
  have hC1 : Cor B x0 W1 := by rw [← hW1]; exact (hC.alloc _).alloc _
  have hen : (Instr.enterLoop fn a.tmps #[t0] assign body Fence.wide.round).run Tryz.prog w = .ok (w.heap.size + 1, [{ target := .collected w.heap.size, args := #[] }]) W1 := by
    rw [← hW1, hR]; exact run_enterLoop_outer _ _ _ _ _
  refine ⟨w.heap.size + 1, _, W1, { target := .fn (.func 91) #[.pointer (some ⟨B, 0, none⟩)], args := #[.func (.yield (w.heap.size + 1)) #[] #[]] }, W1, 91,
    #[.func (.yield (w.heap.size + 1)) #[] #[], .pointer (some ⟨B, 0, none⟩)], W1, hen, ?_, fun _ _ => trivial, ?_, fun h => (by cases h), ?_⟩
  · simp only [resolve, hg]
    simp [go_sem]
  · simp [invoke, go_sem]
  refine (pts_any (n - 1) (by omega) (w.heap.size + 1) B x0
    (fun x W => I x W ∧ W.heap[w.heap.size + 1]? = some (.loop (R .ready none)) ∧ W.heap[w.heap.size]? = some (.deferred (some []))) W1 ?_ ?_ hx0 hC1 ⟨hI1, hL1, hK1⟩).mono ?_
  · rintro x W hx hx64 hCx ⟨hi, hl, hk⟩
    have hlt : w.heap.size + 1 < W.heap.size := (Array.getElem?_eq_some_iff.1 hl).1
    have hy := run_yield (P := Tryz.prog) (args := #[Value.int .i64 ((Lib.ctz 64 x : Nat) : Int)]) hl (by rw [hR]; rfl)
    rw [hR] at hy
    dsimp only at hy
    have ez : (#[t0].zip #[Value.int .i64 ((Lib.ctz 64 x : Nat) : Int)]).foldl (fun (tmps : Array Value) (x : Tmp × Value) => match x with | (t, a) => tmps.setIfInBounds t a) a.tmps = a.tmps.setIfInBounds t0 (.int .i64 ((Lib.ctz 64 x : Nat) : Int)) := by simp
    rw [ez] at hy
    refine ⟨fn, _, assign, body, hy, roundIn_of_wpIn trivial ?_⟩
    refine hassign _ _ _ _ ?_
    refine ⟨_, run_beginRound hl (by rw [hR]), ?_⟩
    have hl2 : (W.putObj (w.heap.size + 1) (.loop { R .ready none with state := .busy })).heap[w.heap.size + 1]? = some (.loop { R .ready none with state := .busy }) := World.putObj_heap_same hlt
    have hk2 : (W.putObj (w.heap.size + 1) (.loop { R .ready none with state := .busy })).heap[w.heap.size]? = some (.deferred (some [])) := (World.putObj_heap_other (by omega)).trans hk
    refine wpIn_mono (hbody _ x _ hx hx64 (by simp; omega) (hCx.putObj _ hl rfl) (hI.putObj _ hi (by omega) hl rfl)) ?_
    rintro e a3 W3 hp
    cases e with
    | normal =>
      obtain ⟨hk3, hc3, hi3⟩ := hp
      have hl3 := hk3.same _ _ (by omega) hl2 rfl
      have hr := run_endRound (P := Tryz.prog) none hl3
      refine ⟨_, _, hr, rfl, hc3.putObj _ hl3 rfl, hI.putObj _ hi3 (by omega) hl3 rfl, ?_, ?_⟩
      · rw [hR]
        exact World.putObj_heap_same (Array.getElem?_eq_some_iff.1 hl3).1
      · exact (World.putObj_heap_other (by omega)).trans (hk3.same _ _ (Nat.le_refl _) hk2 rfl)
    | ret => exact hp.elim
    | exit id => exact hp.elim
    | goto t => exact hp.elim
    | panic ch => exact hp.elim
    | outgrown => exact hp.elim
  · rintro x y W v hCy ⟨hi, hl, hk⟩
    exact ⟨hIs _ _ _ hi, (Below.heap_setCell _ _ _ _ (fun e => ne_of_cell hCy.1 hl rfl e.symm)).trans hl, (Below.heap_setCell _ _ _ _ (fun e => ne_of_cell hCy.1 hk rfl e.symm)).trans hk⟩
  · rintro e W2 ⟨⟨v, rfl⟩, hc, hi, hl, hk⟩
    have hen := run_endLoop (P := Tryz.prog) hl (by rw [hR]; simp)
    refine ⟨none, _, by rw [hR] at hen; exact hen, ?_⟩
    exact hdone _ (by have := (Array.getElem?_eq_some_iff.1 hl).1; simp; omega) (hc.putObj _ hl rfl) (hI.putObj _ hi (by omega) hl rfl) ((World.putObj_heap_other (by omega)).trans hk)

end Go.Proofs.YtahjdmdgkkienaaGreatDoor
