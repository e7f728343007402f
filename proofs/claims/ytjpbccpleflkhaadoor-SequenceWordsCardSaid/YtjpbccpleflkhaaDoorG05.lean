/- Rows of strokes; what readStep reads, as plain facts. readStep of package stroke. readStep of package stroke: its call. Rows of steps; what Parse reads, as plain facts. Parse of package stroke: its call. -/
import Derived.Test.YtjpbccpleflkhaaDoorG04
namespace Sk
open Go
def encS (x : Str) : List Value := [.int .i64 x.1, .bool x.2]
theorem flat_len (l : List Str) : (l.flatMap encS).length = l.length * 2 := by
  induction l with
  | nil => rfl
  | cons x l ih => simp [ih, encS]; omega
theorem flat_get (l : List Str) (j c : Nat) (hj : j < l.length) (hc : c < 2) : (l.flatMap encS)[j * 2 + c]? = (encS (l.getD j d0))[c]? := by
  induction l generalizing j with
  | nil => simp at hj
  | cons x l ih =>
    rcases Nat.eq_zero_or_pos j with rfl | hp
    · rcases (show c = 0 ∨ c = 1 by omega) with rfl | rfl <;> simp [encS]
    · obtain ⟨i, rfl⟩ : ∃ i, j = i + 1 := ⟨j - 1, by omega⟩
      have := ih i (by simpa using hj)
      rw [List.flatMap_cons, List.getElem?_append_right (by simp [encS]; omega)]
      rw [show (i + 1) * 2 + c - (encS x).length = i * 2 + c by simp [encS]; omega, this]
      simp
/-- One more part. -/
def stp1 (st : List Str × Int) (p : List UInt8) : Option (List Str × Int) :=
  if st.2 ≠ 0 then none else (match rdS p with
    | some y => some (st.1 ++ [y], 0)
    | none => if (wtV p).2 && !st.1.isEmpty then some (st.1, (wtV p).1) else none)
def runP : List (Int × List UInt8) → List Str × Int → Option (List Str × Int)
  | [], st => some st
  | p :: r, st => (stp1 st p.2).bind (runP r)
/-- The step with a text, if it has the form of one. -/
def rdP (l : List UInt8) : Option Stp := runP (prts l [32]) ([], 0)
theorem runP_stop {p : Int × List UInt8} {r : List (Int × List UInt8)} {st : List Str × Int} (h : stp1 st p.2 = none) : runP (p :: r) st = none := by rw [runP, h]; rfl
theorem runP_on {p : Int × List UInt8} {r : List (Int × List UInt8)} {st st' : List Str × Int} (h : stp1 st p.2 = some st') : runP (p :: r) st = runP r st' := by rw [runP, h]; rfl
theorem stp1_wait {l : List Str} {n : Int} (h : n ≠ 0) (p : List UInt8) : stp1 (l, n) p = none := by unfold stp1; rw [if_pos h]
theorem stp1_str {l : List Str} {p : List UInt8} {y : Str} (h : rdS p = some y) : stp1 (l, 0) p = some (l ++ [y], 0) := by unfold stp1; rw [if_neg (by simp), h]
theorem stp1_num {l : List Str} {p : List UInt8} (h : rdS p = none) (h1 : (wtV p).2 = true) (h2 : l.length ≠ 0) : stp1 (l, 0) p = some (l, (wtV p).1) := by
  unfold stp1
  rw [if_neg (by simp), h, h1]
  cases l with
  | nil => exact absurd rfl h2
  | cons x l => rfl
theorem stp1_no {l : List Str} {p : List UInt8} (h : rdS p = none) (h1 : (wtV p).2 = false ∨ l.length = 0) : stp1 (l, 0) p = none := by
  unfold stp1
  rw [if_neg (by simp), h]
  rcases h1 with h1 | h1
  · rw [h1]; rfl
  · have := List.eq_nil_of_length_eq_zero h1
    subst this
    cases (wtV p).2 <;> rfl
theorem wtV_bd (p : List UInt8) : 0 ≤ (wtV p).1 ∧ (wtV p).1 < 10000000 ∧ ((wtV p).2 = true → (wtV p).1 ≠ 0) ∧ ((wtV p).2 = false → (wtV p).1 = 0) := by
  unfold wtV
  by_cases h : (Tm.numOk p && decide (Fr.dv p ≠ 0)) = true
  · rw [if_pos h]
    rw [Bool.and_eq_true, decide_eq_true_iff] at h
    have := Tm.numOk_lt h.1
    exact ⟨by simp, by simp; omega, by simp; exact h.2, by simp⟩
  · rw [if_neg h]; simp
end Sk
namespace Go.Proofs.YtjpbccpleflkhaaDoor
open Go.RowKit
theorem addr_add (g t : Nat) : (⟨g, 0, none⟩ : Addr).add t = ⟨g, t, none⟩ := by unfold Addr.add; split <;> simp_all
/-- A row of strokes that is the call's own. -/
def RowK (B : Nat) (e : TypeId) (w : World) (v : Value) (l : List Sk.Str) : Prop := w.ownsRow B e 2 v l.length (l.flatMap Sk.encS)
theorem RowK.below {B : Nat} {e : TypeId} {w w' : World} {v : Value} {l : List Sk.Str} (h : RowK B e w v l) {C : Nat} (hb : Below C w w') (hC : w.heap.size ≤ C) : RowK B e w' v l := by
  rcases h with ⟨h0, h | ⟨g, cap, cur, h', h1, h2, h3⟩⟩
  · exact ⟨h0, .inl h⟩
  · exact ⟨h0, .inr ⟨g, cap, cur, h', h1, by rw [hb.block g (Nat.lt_of_lt_of_le (Array.getElem?_eq_some_iff.1 h2).1 hC)]; exact h2, h3⟩⟩
theorem RowK.step {B : Nat} {e : TypeId} {w w' : World} {v : Value} {l : List Sk.Str} (h : RowK B e w v l) (hb : Below w.heap.size w w') : RowK B e w' v l := h.below hb (Nat.le_refl _)
theorem RowK.nil (B : Nat) (e : TypeId) (w : World) : RowK B e w (.slice none 0 0) [] := World.ownsRow_nil _ _ _ _
theorem RowK.form {B : Nat} {e : TypeId} {w : World} {v : Value} {l : List Sk.Str} (h : RowK B e w v l) : ∃ ao cap, v = .slice ao l.length cap := by
  rcases h.2 with ⟨rfl, h0⟩ | ⟨g, cap, cur, rfl, _⟩
  · exact ⟨none, 0, by rw [h0]⟩
  · exact ⟨_, _, rfl⟩
theorem RowK.sees {B : Nat} {e : TypeId} {w : World} {v : Value} {l : List Sk.Str} (h : RowK B e w v l) : SeeK w v l := by
  have hc := fun g hg => World.ownsRow.cells h (g := g) hg
  have hlt := World.ownsRow.lt h
  rcases h with ⟨h0, ⟨rfl, h2⟩ | ⟨g, cap, cur, rfl, h1, h2, h3, h4, h5⟩⟩
  · have := List.eq_nil_of_length_eq_zero h2
    subst this
    exact SeeK.nil w
  · have hk := hc g rfl
    refine ⟨_, cap, rfl, h3, by unfold maxLen at h4; omega, fun _ => ⟨g, 0, rfl, (hlt g rfl).2, fun i hi => ⟨?_, ?_⟩⟩⟩
    · have := hk (i * 2) (.int .i64 (l.getD i Sk.d0).1) ((Sk.flat_get l i 0 hi (by omega)).trans rfl)
      rw [addr_add] at this
      rw [Nat.zero_add]; exact this
    · have := hk (i * 2 + 1) (.bool (l.getD i Sk.d0).2) ((Sk.flat_get l i 1 hi (by omega)).trans rfl)
      rw [addr_add] at this
      rw [Nat.zero_add]; exact this
theorem RowK.kept {B : Nat} {e : TypeId} {w w' : World} {v : Value} {l : List Sk.Str} {row : Option Nat} (h : RowK B e w v l) (hg : w.grownBy w' row) (hr : ∀ r, row = some r → ∃ o : Obj, w.heap[r]? = some o ∧ o.isCells = false) : RowK B e w' v l := by
  refine World.ownsRow.kept h hg ?_
  cases hv : v.ownBlock with
  | none => exact .inl rfl
  | some g =>
    refine .inr fun e' => ?_
    obtain ⟨o, ho, hc⟩ := hr g e'.symm
    rcases h.2 with ⟨rfl, -⟩ | ⟨g', cap, cur, rfl, h1, h2, -⟩
    · cases hv
    · have : g' = g := by simpa [Value.ownBlock] using hv
      subst this
      rw [h2] at ho
      cases ho
      cases hc
theorem RowK.set {B : Nat} {e : TypeId} {w : World} {v : Value} {l : List Sk.Str} (h : RowK B e w v l) {a : Addr} (ha : a.block < B) (u : Value) : RowK B e (w.setCell a u) v l := by
  refine World.ownsRow.kept h (row := some a.block) ⟨rfl, rfl, rfl, by simp [World.setCell], fun k _ hk => Below.heap_setCell _ _ _ _ (fun e => hk (by rw [e]))⟩ ?_
  cases hv : v.ownBlock with
  | none => exact .inl rfl
  | some g => exact .inr fun e' => by have := (World.ownsRow.lt h g hv).1; simp at e'; omega
/-- 'append' of a stroke to a slice of the call's own. -/
theorem wpListIn_append_str {F : Fence} {n : Nat} {P : Program} {w : World} {ops : Array Oper} {rest : List Oper} {o : Oper} {a : Act} {Q : Exit → Act → World → Prop} (hgd : o.guard = none) (s x : Operand) (t : TypeId)
    (ho : o.op = .call { callee := .builtin .append, args := #[s, x], argTypes := #[t, t] })
    (e : TypeId) (i : TypeInfo) (ht : P.underlying t = some (.slice e)) (hi : P.info? e = some i) (hz : i.zero = some (.agg #[.int .i64 0, .bool false])) (hsize : i.size = 2) (hby : i.bytes = 16)
    (v : Value) (l : List Sk.Str) (y : Sk.Str) (g : Nat) (hs : a.eval s = v) (hx : a.eval x = .slice (some ⟨g, 0, none⟩) 1 1) (B : Nat) (hown : RowK B e w v l)
    (h0 : w.cell? ⟨g, 0, none⟩ = some (.int .i64 y.1)) (h1 : w.cell? ⟨g, 1, none⟩ = some (.bool y.2)) (hlen : l.length ≤ 1048576) (hB : B ≤ w.heap.size)
    (h : ∀ ao' cap' w', RowK B e w' (.slice ao' (l.length + 1) cap') (l ++ [y]) → w.grownBy w' v.ownBlock → Below B w w' → wpListIn F n P ops Q rest (a.put o.dst (.slice ao' (l.length + 1) cap')) w') : wpListIn F n P ops Q (o :: rest) a w := by
  refine wpListIn_append_own w hgd s x t ho B e i (.agg #[.int .i64 0, .bool false]) 2 16 ht hi hz hsize hby rfl (by omega) v l.length _ hs hown ⟨g, 0, none⟩ 1 1 [.int .i64 y.1, .bool y.2] hx (by simp) ?_ ?_ (by unfold maxLen; omega) ?_ hB ?_
  · intro j u hj
    rw [addr_add]
    rcases j with _ | _ | j
    · simp at hj; subst hj; exact h0
    · simp at hj; subst hj; exact h1
    · simp at hj
  · simp [Value.oneCell']
  · omega
  · intro v' w' r1 r2 r3
    have hr : RowK B e w' v' (l ++ [y]) := by
      unfold RowK
      rw [List.length_append, List.flatMap_append]
      exact r1
    obtain ⟨ao', cap', rfl⟩ : ∃ ao' cap', v' = .slice ao' (l.length + 1) cap' := by
      rcases r1.2 with ⟨_, h⟩ | ⟨g, cap, cur, rfl, _⟩
      · omega
      · exact ⟨_, _, rfl⟩
    exact h _ _ _ hr r2 ((Below.refl _ _).grown r2 hB (fun g hg => (World.ownsRow.lt hown g hg).1))
theorem info_str2 : ∃ i : TypeInfo, Tryd.prog.info? 47 = some i ∧ i.zero = some (.agg #[.int .i64 0, .bool false]) ∧ i.size = 2 ∧ i.bytes = 16 := by
  have h : (Tryd.prog.info? 47).map (fun i => (i.zero, i.size, i.bytes)) = some (some (.agg #[.int .i64 0, .bool false]), 2, 16) := by kernel_rfl
  obtain ⟨i, h1, h2⟩ := Option.map_eq_some_iff.1 h
  simp only [Prod.mk.injEq] at h2
  exact ⟨i, h1, h2⟩
end Go.Proofs.YtjpbccpleflkhaaDoor

namespace Go.Proofs.YtjpbccpleflkhaaDoor
open Go.RowKit Go.Shelf
attribute [local go_sem] Oper.semAt_some
/-- What readStep leaves. -/
def RpP (l : List UInt8) (w : World) (e : Ending) (w' : World) : Prop := ∃ (v : Value) (n : Int) (L : List Sk.Str), e = .returned (.tuple #[.agg #[v, .int .i64 n], .bool (Sk.rdP l).isSome]) ∧ SeeK w' v L ∧ (∀ y, Sk.rdP l = some y → y = (L, n)) ∧ (∀ r, v.ownBlock = some r → w.heap.size ≤ r) ∧ (∀ r, v.ownBlock = some r → r < w'.heap.size) ∧ Below w.heap.size w w'
theorem ResP.kept {W W' : World} {g : Nat} {a b : Value} {row : Option Nat} (h : ResP W g a b) (hg : W.grownBy W' row) (hr : ∀ r, row = some r → ∃ o : Obj, W.heap[r]? = some o ∧ o.isCells = false) : ResP W' g a b :=
  ⟨Nat.lt_of_lt_of_le h.1 hg.size, cell_kept h.2.1 hg hr, cell_kept h.2.2.1 hg hr, (frozen_kept h.2.1 hg hr).trans h.2.2.2.1, (frozen_kept h.2.2.1 hg hr).trans h.2.2.2.2⟩
/-- A variable that may be written. -/
def BoxW (W : World) (g : Nat) (v : Value) : Prop := g < W.heap.size ∧ W.cell? ⟨g, 0, none⟩ = some v ∧ W.frozen? ⟨g, 0, none⟩ = false
theorem BoxW.step {W W' : World} {g : Nat} {v : Value} (h : BoxW W g v) (hb : Below W.heap.size W W') : BoxW W' g v :=
  ⟨Nat.lt_of_lt_of_le h.1 hb.size, (hb.cell (p := ⟨g, 0, none⟩) h.1).trans h.2.1, (hb.frozen (p := ⟨g, 0, none⟩) h.1).trans h.2.2⟩
theorem BoxW.kept {W W' : World} {g : Nat} {v : Value} {row : Option Nat} (h : BoxW W g v) (hg : W.grownBy W' row) (hr : ∀ r, row = some r → ∃ o : Obj, W.heap[r]? = some o ∧ o.isCells = false) : BoxW W' g v :=
  ⟨Nat.lt_of_lt_of_le h.1 hg.size, cell_kept h.2.1 hg hr, (frozen_kept h.2.1 hg hr).trans h.2.2⟩
theorem boxW_new (w : World) (v : Value) (T : TypeId) : BoxW (w.alloc (.cells #[v] T)) w.heap.size v := by unfold BoxW; simp
theorem BoxW.set {W : World} {g : Nat} {v : Value} (h : BoxW W g v) (u : Value) : BoxW (W.setCell ⟨g, 0, none⟩ u) g u :=
  ⟨by simpa using h.1, World.cell?_setCell_same' _ _ _ (by rw [h.2.1]; rfl), by rw [World.frozen?_setCell]; exact h.2.2⟩
theorem BoxW.other {W : World} {g k o : Nat} {v : Value} (h : BoxW W g v) (hk : k ≠ g) (u : Value) : BoxW (W.setCell ⟨k, o, none⟩ u) g v :=
  ⟨by simpa using h.1, (World.cell?_setCell_other (w := W) (v := u) (a := ⟨k, o, none⟩) (b := ⟨g, 0, none⟩) (fun e => hk (congrArg Addr.block e))).trans h.2.1, by rw [World.frozen?_setCell]; exact h.2.2⟩
theorem ResP.other {W : World} {g k o : Nat} {a b : Value} (h : ResP W g a b) (hk : k ≠ g) (u : Value) : ResP (W.setCell ⟨k, o, none⟩ u) g a b :=
  ⟨by simpa using h.1, (World.cell?_setCell_other (w := W) (v := u) (a := ⟨k, o, none⟩) (b := ⟨g, 0, none⟩) (fun e => hk (congrArg Addr.block e))).trans h.2.1, (World.cell?_setCell_other (w := W) (v := u) (a := ⟨k, o, none⟩) (b := ⟨g, 1, none⟩) (fun e => hk (congrArg Addr.block e))).trans h.2.2.1, by rw [World.frozen?_setCell]; exact h.2.2.2.1, by rw [World.frozen?_setCell]; exact h.2.2.2.2⟩
theorem ResP.put0 {W : World} {g : Nat} {a b : Value} (h : ResP W g a b) (u : Value) : ResP (W.setCell ⟨g, 0, none⟩ u) g u b := by
  obtain ⟨h0, h1, h2, h3, h4⟩ := h
  exact ⟨by simpa using h0, World.cell?_setCell_same' _ _ _ (by rw [h1]; rfl), (World.cell?_setCell_other (w := W) (v := u) (a := ⟨g, 0, none⟩) (b := ⟨g, 1, none⟩) (fun e' => by have := congrArg Addr.off e'; simp at this)).trans h2, by rw [World.frozen?_setCell]; exact h3, by rw [World.frozen?_setCell]; exact h4⟩
theorem ResP.put1 {W : World} {g : Nat} {a b : Value} (h : ResP W g a b) (u : Value) : ResP (W.setCell ⟨g, 1, none⟩ u) g a u := by
  obtain ⟨h0, h1, h2, h3, h4⟩ := h
  exact ⟨by simpa using h0, (World.cell?_setCell_other (w := W) (v := u) (a := ⟨g, 1, none⟩) (b := ⟨g, 0, none⟩) (fun e' => by have := congrArg Addr.off e'; simp at this)).trans h1, World.cell?_setCell_same' _ _ _ (by rw [h2]; rfl), by rw [World.frozen?_setCell]; exact h3, by rw [World.frozen?_setCell]; exact h4⟩
theorem ResP.grown {W W' : World} {g : Nat} {a b : Value} (h : ResP W g a b) {row : Option Nat} (hg : W.grownBy W' row) (hA : ∀ r, row = some r → r ≠ g) : ResP W' g a b := by
  have hb := hg.block g h.1 (fun e => hA g e.symm rfl)
  have fr : ∀ i, W'.frozen? ⟨g, i, none⟩ = W.frozen? ⟨g, i, none⟩ := fun i => by unfold World.frozen?; simp only [hb]
  exact ⟨Nat.lt_of_lt_of_le h.1 hg.size, (World.cell?_of_block (w := W) hb).trans h.2.1, (World.cell?_of_block (w := W) hb).trans h.2.2.1, (fr 0).trans h.2.2.2.1, (fr 1).trans h.2.2.2.2⟩
theorem BoxW.grown {W W' : World} {g : Nat} {v : Value} (h : BoxW W g v) {row : Option Nat} (hg : W.grownBy W' row) (hA : ∀ r, row = some r → r ≠ g) : BoxW W' g v := by
  have hb := hg.block g h.1 (fun e => hA g e.symm rfl)
  have fr : ∀ i, W'.frozen? ⟨g, i, none⟩ = W.frozen? ⟨g, i, none⟩ := fun i => by unfold World.frozen?; simp only [hb]
  exact ⟨Nat.lt_of_lt_of_le h.1 hg.size, (World.cell?_of_block (w := W) hb).trans h.2.1, (fr 0).trans h.2.2⟩

/-- Between two rounds of readStep. -/
def RsI (w : World) (T : TypeId) (pre : List Sk.Prt) (W : World) : Prop :=
  (∃ (L : List Sk.Str) (n : Int) (u : Value), (∀ rest, Sk.runP (pre.map Sk.pv ++ rest) ([], 0) = Sk.runP rest (L, n)) ∧ L.length ≤ pre.length ∧ 0 ≤ n ∧ n < 10000000 ∧ RowK (w.heap.size + 5) T W u L ∧ ResP W (w.heap.size + 2) u (.int .i64 n)) ∧ ResP W w.heap.size (.slice none 0 0) (.int .i64 0) ∧ BoxW W (w.heap.size + 1) (.bool false) ∧ Below w.heap.size w W ∧ w.heap.size + 5 ≤ W.heap.size
/-- When a round has left. -/
def RsX (w : World) (c : Code) (pre : List Sk.Prt) (W : World) : Prop :=
  c = .ret ∧ (∀ rest, Sk.runP (pre.map Sk.pv ++ rest) ([], 0) = none) ∧ ResP W w.heap.size (.slice none 0 0) (.int .i64 0) ∧ BoxW W (w.heap.size + 1) (.bool false) ∧ Below w.heap.size w W
theorem RsI.own {w : World} {T : TypeId} {B : Nat} (hB : w.heap.size ≤ B) : OwnFrom B (RsI w T) := by
  rintro pre W W' row ⟨⟨L, n, u, h1, h2, h3, h4, h5, h6⟩, h7, h8, h9, h10⟩ hg hr
  have hr2 := fun r e => (hr r e).2
  exact ⟨⟨L, n, u, h1, h2, h3, h4, h5.kept hg hr2, h6.kept hg hr2⟩, h7.kept hg hr2, h8.kept hg hr2, h9.grown hg h9.size (fun r e => Nat.le_trans hB (hr r e).1), Nat.le_trans h10 hg.size⟩
theorem RsX.own {w : World} {B : Nat} (hB : w.heap.size ≤ B) (c : Code) : OwnFrom B (RsX w c) := by
  rintro pre W W' row ⟨h0, h1, h7, h8, h9⟩ hg hr
  have hr2 := fun r e => (hr r e).2
  exact ⟨h0, h1, h7.kept hg hr2, h8.kept hg hr2, h9.grown hg h9.size (fun r e => Nat.le_trans hB (hr r e).1)⟩
theorem KpT.setc {tb sb : Nat} (W : World) {a : Addr} (ha : a.block ≠ tb ∧ a.block ≠ sb ∧ a.block ≠ 0) (v : Value) : KpT tb sb W (W.setCell a v) := fun b hb =>
  Below.heap_setCell _ _ _ _ (by rcases hb with rfl | rfl | rfl <;> omega)
theorem keeps_below {W W' : World} (hb : Below W.heap.size W W') : KeepsOthers W W' := KeepsOthers.of_grownBy (row := none) ⟨hb.os, hb.tape, hb.output, hb.size, fun k hk _ => hb.block k hk⟩ (fun j o e => by cases e)
theorem keeps_row {B : Nat} {e : TypeId} {W W' : World} {v : Value} {l : List Sk.Str} (h : RowK B e W v l) (hg : W.grownBy W' v.ownBlock) : KeepsOthers W W' := KeepsOthers.of_grownBy hg (fun j o e' ho => by
  rcases h.2 with ⟨rfl, -⟩ | ⟨g', cap, cur, rfl, h1, h2, -⟩
  · cases e'
  · have : g' = j := by simpa [Value.ownBlock] using e'
    subst this
    rw [h2] at ho; cases ho; rfl)
theorem KpT.row {tb sb B : Nat} {e : TypeId} {W W' : World} {v : Value} {l : List Sk.Str} (h : RowK B e W v l) (hg : W.grownBy W' v.ownBlock) (ht : tb < B) (hs : sb < B) (ht' : tb < W.heap.size) (hs' : sb < W.heap.size) : KpT tb sb W W' := KpT.grown hg ht' hs' (fun r e' => by
  have := (World.ownsRow.lt h r e').1; omega)
theorem RsI.next {pre : List Sk.Prt} {x : Sk.Prt} {L : List Sk.Str} {n : Int} (h : ∀ rest, Sk.runP (pre.map Sk.pv ++ rest) ([], 0) = Sk.runP rest (L, n)) (rest : List (Int × List UInt8)) : Sk.runP ((pre ++ [x]).map Sk.pv ++ rest) ([], 0) = Sk.runP (Sk.pv x :: rest) (L, n) := by
  rw [List.map_append, List.append_assoc, h]; rfl
theorem rdS_yes (p : ByteArray) (y : Sk.Str) (W : World) (hz : p.size ≤ 1000000) (h : Sk.rdS p.data.toList = some y) : Calls Tryd.prog 85 #[.string p] W fun e w' => e = .returned (.tuple #[.agg #[.int .i64 y.1, .bool y.2], .bool true]) ∧ Below W.heap.size W w' :=
  (rdS_any p W hz).mono (by rintro e w' ⟨a, o, rfl, hy, hb⟩; have := hy y h; subst this; rw [h]; exact ⟨rfl, hb⟩)
theorem rdS_no (p : ByteArray) (W : World) (hz : p.size ≤ 1000000) (h : Sk.rdS p.data.toList = none) : Calls Tryd.prog 85 #[.string p] W fun e w' => ∃ a o, e = .returned (.tuple #[.agg #[.int .i64 a, .bool o], .bool false]) ∧ Below W.heap.size W w' :=
  (rdS_any p W hz).mono (by rintro e w' ⟨a, o, rfl, hy, hb⟩; rw [h]; exact ⟨a, o, rfl, hb⟩)
end Go.Proofs.YtjpbccpleflkhaaDoor

namespace Go.Proofs.YtjpbccpleflkhaaDoor
open Go.RowKit Go.Shelf
attribute [local go_sem] Oper.semAt_some
/-- A round that has read a stroke. -/
theorem RsI.str {w W W2 w5 : World} {T : TypeId} {v v5 : Value} {L : List Sk.Str} {y : Sk.Str} {pre' : List Sk.Prt} (hK : RowK (w.heap.size + 5) T W v L) (hX : ResP W (w.heap.size + 2) v (.int .i64 0)) (hRa : ResP W w.heap.size (.slice none 0 0) (.int .i64 0)) (hRb : BoxW W (w.heap.size + 1) (.bool false)) (hB : Below w.heap.size w W) (hz : w.heap.size + 5 ≤ W.heap.size)
    (hb : Below W.heap.size W W2) (hg : W2.grownBy w5 v.ownBlock) (hr : RowK (w.heap.size + 5) T w5 v5 (L ++ [y])) (hn : ∀ rest, Sk.runP (pre'.map Sk.pv ++ rest) ([], 0) = Sk.runP rest (L ++ [y], 0)) (hl : L.length + 1 ≤ pre'.length) (B : Nat) :
    KeepsFrom B W (w5.setCell ⟨w.heap.size + 2, 0, none⟩ v5) ∧ KpT (w.heap.size + 3) (w.heap.size + 4) W (w5.setCell ⟨w.heap.size + 2, 0, none⟩ v5) ∧ RsI w T pre' (w5.setCell ⟨w.heap.size + 2, 0, none⟩ v5) := by
  have hK2 := hK.step hb
  have hrow : ∀ r, v.ownBlock = some r → w.heap.size + 5 ≤ r := fun r e => (World.ownsRow.lt hK2 r e).1
  have hs2 := hb.size
  have hs5 := hg.size
  refine ⟨(((keeps_below hb).trans (keeps_row hK2 hg)).trans (KeepsOthers.setCell _ _ _)).from B, ((KpT.below hb (by omega) (by omega)).trans (KpT.row hK2 hg (by omega) (by omega) (by omega) (by omega))).trans (KpT.setc _ (by simp) _), ⟨L ++ [y], 0, v5, hn, by simpa using hl, Int.le_refl _, by omega, hr.set (by show w.heap.size + 2 < w.heap.size + 5; omega) _, ((hX.step hb).grown hg (fun r e => by have := hrow r e; omega)).put0 _⟩, ?_, ?_, ?_, ?_⟩
  · exact ((hRa.step hb).grown hg (fun r e => by have := hrow r e; omega)).other (by omega) _
  · exact ((hRb.step hb).grown hg (fun r e => by have := hrow r e; omega)).other (by omega) _
  · exact ((below_nxt hB hb).grown hg (by omega) (fun r e => by have := hrow r e; omega)).setCell (p := ⟨w.heap.size + 2, 0, none⟩) (by simp) _
  · simp; omega
/-- A round that has read the wait. -/
theorem RsI.num {w W W2 : World} {T : TypeId} {v : Value} {L : List Sk.Str} {n m : Int} {pre' : List Sk.Prt} (hK : RowK (w.heap.size + 5) T W v L) (hX : ResP W (w.heap.size + 2) v (.int .i64 m)) (hRa : ResP W w.heap.size (.slice none 0 0) (.int .i64 0)) (hRb : BoxW W (w.heap.size + 1) (.bool false)) (hB : Below w.heap.size w W) (hz : w.heap.size + 5 ≤ W.heap.size)
    (hb : Below W.heap.size W W2) (hn : ∀ rest, Sk.runP (pre'.map Sk.pv ++ rest) ([], 0) = Sk.runP rest (L, n)) (h1 : 0 ≤ n) (h2 : n < 10000000) (hl : L.length ≤ pre'.length) (B : Nat) :
    KeepsFrom B W (W2.setCell ⟨w.heap.size + 2, 1, none⟩ (.int .i64 n)) ∧ KpT (w.heap.size + 3) (w.heap.size + 4) W (W2.setCell ⟨w.heap.size + 2, 1, none⟩ (.int .i64 n)) ∧ RsI w T pre' (W2.setCell ⟨w.heap.size + 2, 1, none⟩ (.int .i64 n)) := by
  have hs2 := hb.size
  refine ⟨((keeps_below hb).trans (KeepsOthers.setCell _ _ _)).from B, (KpT.below hb (by omega) (by omega)).trans (KpT.setc _ (by simp) _), ⟨L, n, v, hn, hl, h1, h2, (hK.step hb).set (by show w.heap.size + 2 < w.heap.size + 5; omega) _, (hX.step hb).put1 _⟩, (hRa.step hb).other (by omega) _, (hRb.step hb).other (by omega) _, (below_nxt hB hb).setCell (p := ⟨w.heap.size + 2, 1, none⟩) (by simp) _, by simp; omega⟩
/-- A round that leaves. -/
theorem RsX.mk {w W W2 : World} {pre' : List Sk.Prt} (hRa : ResP W w.heap.size (.slice none 0 0) (.int .i64 0)) (hRb : BoxW W (w.heap.size + 1) (.bool false)) (hB : Below w.heap.size w W) (hb : Below W.heap.size W W2) (hn : ∀ rest, Sk.runP (pre'.map Sk.pv ++ rest) ([], 0) = none) (B : Nat) :
    KeepsFrom B W (((W2.setCell ⟨w.heap.size, 0, none⟩ (.slice none 0 0)).setCell ⟨w.heap.size, 1, none⟩ (.int .i64 0)).setCell ⟨w.heap.size + 1, 0, none⟩ (.bool false)) ∧ RsX w .ret pre' (((W2.setCell ⟨w.heap.size, 0, none⟩ (.slice none 0 0)).setCell ⟨w.heap.size, 1, none⟩ (.int .i64 0)).setCell ⟨w.heap.size + 1, 0, none⟩ (.bool false)) :=
  ⟨((((keeps_below hb).trans (KeepsOthers.setCell _ _ _)).trans (KeepsOthers.setCell _ _ _)).trans (KeepsOthers.setCell _ _ _)).from B, rfl, hn, ((((hRa.step hb).put0 _).put1 _).other (by omega) _), ((((hRb.step hb).other (by omega) _).other (by omega) _).set _),
    (((below_nxt hB hb).setCell (p := ⟨w.heap.size, 0, none⟩) (by simp) _).setCell (p := ⟨w.heap.size, 1, none⟩) (by simp) _).setCell (p := ⟨w.heap.size + 1, 0, none⟩) (by simp) _⟩
set_option maxHeartbeats 8000000 in
set_option maxRecDepth 100000 in
theorem sRdP_any (s : ByteArray) (w : World) (hst : StQ w) (hz : s.size ≤ 4096) : Calls Tryd.prog 53 #[.string s] w (RpP s.data.toList w) := by
  have HST := Lib.hid hst
  have h4 := hst.st.size
  obtain ⟨m0, hm0⟩ := hst.st.maxLen
  refine (callsIn_wide (n := 9)).1 ?_
  refine callsIn_of_wp_marks Tryd.func53 rfl trivial ?_ rfl
  simp only [Tryd.ntmps53, List.size_toArray, List.length_cons, List.length_nil, Nat.reduceAdd, Nat.reduceSub, Array.replicate_succ, Array.replicate_zero, List.push_toArray, List.append_toArray, List.nil_append, List.cons_append]
  gi_wp2_with (refine ⟨trivial, ?_⟩; gi_at_call 52; refine (callsIn_wide.2 (sPts_any s ⟨#[32]⟩ _)).mono ?_; rintro e Z ⟨rfl, rfl⟩)
  obtain ⟨W0, hW0⟩ : ∃ W0, (((((w.alloc (.cells #[.slice none 0 0, .int .i64 0] 70)).alloc (.cells #[.bool false] 4)).alloc (.cells #[.slice none 0 0, .int .i64 0] 70)).alloc (.cells #[.string s] 9)).alloc (.cells #[.string ⟨#[32]⟩] 9)) = W0 := ⟨_, rfl⟩
  have hz0 : W0.heap.size = w.heap.size + 5 := by rw [← hW0]; simp
  have hB0 : Below w.heap.size w W0 := by rw [← hW0]; exact ((((allocB w _).alloc (by simp) _).alloc (by simp; omega) _).alloc (by simp; omega) _).alloc (by simp; omega) _
  have hRa : ResP W0 w.heap.size (.slice none 0 0) (.int .i64 0) := by rw [← hW0]; exact ((((resP_new w _ _ _).step (allocB _ _)).step (allocB _ _)).step (allocB _ _)).step (allocB _ _)
  have hRb : BoxW W0 (w.heap.size + 1) (.bool false) := by
    have h := boxW_new (w.alloc (.cells #[.slice none 0 0, .int .i64 0] 70)) (.bool false) 4
    rw [World.size_alloc] at h
    rw [← hW0]; exact ((h.step (allocB _ _)).step (allocB _ _)).step (allocB _ _)
  have hRc : ResP W0 (w.heap.size + 2) (.slice none 0 0) (.int .i64 0) := by
    have h := resP_new ((w.alloc (.cells #[.slice none 0 0, .int .i64 0] 70)).alloc (.cells #[.bool false] 4)) (.slice none 0 0) (.int .i64 0) 70
    rw [World.size_alloc, World.size_alloc] at h
    rw [← hW0]; exact (h.step (allocB _ _)).step (allocB _ _)
  have hTs : W0.cell? ⟨w.heap.size + 3, 0, none⟩ = some (.string s) := by
    have h := boxV_new (((w.alloc (.cells #[.slice none 0 0, .int .i64 0] 70)).alloc (.cells #[.bool false] 4)).alloc (.cells #[.slice none 0 0, .int .i64 0] 70)) (.string s) 9
    rw [World.size_alloc, World.size_alloc, World.size_alloc] at h
    rw [← hW0]; exact (h.step (allocB _ _)).2
  have hTp : W0.cell? ⟨w.heap.size + 4, 0, none⟩ = some (.string ⟨#[32]⟩) := by
    have h := boxV_new ((((w.alloc (.cells #[.slice none 0 0, .int .i64 0] 70)).alloc (.cells #[.bool false] 4)).alloc (.cells #[.slice none 0 0, .int .i64 0] 70)).alloc (.cells #[.string s] 9)) (.string ⟨#[32]⟩) 9
    rw [World.size_alloc, World.size_alloc, World.size_alloc, World.size_alloc] at h
    rw [← hW0]; exact h.2
  have hm1 : ∃ m : Int, W0.cell? ⟨0, 0, none⟩ = some (.int .i64 m) := ⟨m0, (hB0.cell (p := ⟨0, 0, none⟩) (by show 0 < w.heap.size; omega)).trans hm0⟩
  have hI0 : RsI w 47 [] W0 := ⟨⟨[], 0, .slice none 0 0, fun rest => rfl, Nat.le_refl _, by omega, by omega, RowK.nil _ _ _, hRc⟩, hRa, hRb, hB0, by omega⟩
  rw [hW0]
  clear hW0 hRa hRb hRc
  refine wpIn_rangeFunc_ownG rfl (by omega) (gf := 83) (lb := #[.pointer (some ⟨w.heap.size + 1 + 1 + 1, 0, none⟩), .pointer (some ⟨w.heap.size + 1 + 1 + 1 + 1, 0, none⟩)]) rfl trivial (enters_of Tryd.func83 (by kernel_rfl) rfl)
    (parts_stops s ⟨#[32]⟩ (w.heap.size + 1 + 1 + 1) (w.heap.size + 1 + 1 + 1 + 1) W0 hz (by decide) (by decide) (by omega) (by omega) hm1 hTs hTp) KpT.trans (KpT.put W0 (by omega) (by omega)) (Below.refl _ _) (fun _ => rfl)
    (RsI w 47) (RsX w) (RsI.own (by omega)) (RsX.own (by omega)) hI0
    (fun x => { tmps := #[.string s, undef, .pointer (some ⟨w.heap.size, 0, none⟩), .pointer (some ⟨w.heap.size + 1, 0, none⟩), .pointer (some ⟨w.heap.size + 1 + 1, 0, none⟩), undef, .string x.1.2, undef, undef, undef, undef, .string s, .func (.func 83) #[] #[.pointer (some ⟨w.heap.size + 1 + 1 + 1, 0, none⟩), .pointer (some ⟨w.heap.size + 1 + 1 + 1 + 1, 0, none⟩)], .int .i64 x.1.1, .string x.1.2, undef, undef, undef, undef, undef, undef, undef, undef, undef, undef, undef, undef, undef, undef, undef, undef, undef, undef, undef, undef, undef, undef, undef, undef, undef, undef, undef, undef, undef, undef, undef, undef, undef], defers := [] }) ?assign ?body ?done ?stop
  case assign =>
    intro l x W K hK
    have ez : ∀ T : Array Value, (#[13, 14].zip (Sk.pe x)).foldl (fun (t : Array Value) (x : Nat × Value) => t.setIfInBounds x.1 x.2) T = (T.setIfInBounds 13 (.int .i64 x.1.1)).setIfInBounds 14 (.string x.1.2) := fun T => by simp [Sk.pe]
    simp only [ez]
    gi_wp2
    exact hK
  case body =>
    rintro lp pre x W hI hlen
    obtain ⟨⟨L, n, u, hrun, hLl, hn0, hn1, hK, hX⟩, hRa, hRb, hB, hz5⟩ := hI
    obtain ⟨ua, uc, rfl⟩ := hK.form
    have HNx := Lib.hid (RsI.next (x := x) hrun)
    have hpz : x.1.2.size ≤ 1000000 := Nat.le_trans x.2.2.2 (by decide)
    have HPV : Hid (Sk.pv x = (x.1.1, x.1.2.data.toList)) := Lib.hid rfl
    have HK := Lib.hid hK
    have HX := Lib.hid hX
    have HRa := Lib.hid hRa
    have HRb := Lib.hid hRb
    have HB := Lib.hid hB
    have hL5 : L.length ≤ 4097 := by omega
    have HLl := Lib.hid hLl
    have hd : 1 ≤ 9 - 1 - 1 := by omega
    obtain ⟨i0, hi0, hzi0, hzi1, hzi2⟩ := info_str2
    clear hrun hK hRa hRb hB hI0 hm1 hTs hTp hm0
    generalize x.1.2 = p at *
    generalize x.1.1 = at0 at *
    by_cases hn : n = 0
    · subst hn
      obtain ⟨q0, q1, q2, q3, q4⟩ := hX
      cases hrd : Sk.rdS p.data.toList with
      | some y =>
        obtain ⟨ya, yo⟩ := y
        have HN2 : Hid (∀ rest, Sk.runP ((pre ++ [x]).map Sk.pv ++ rest) ([], 0) = Sk.runP rest (L ++ [(ya, yo)], 0)) := Lib.hid (fun rest => by rw [HNx.out, Sk.runP_on (by rw [HPV.out]; exact Sk.stp1_str hrd)])
        have CR := fun V => Lib.hid (rdS_yes p (ya, yo) V hpz hrd)
        clear hrd HNx HPV
        gi_wp2_with first
          | (refine ⟨trivial, ?_⟩; gi_at_call 85; refine (CallsIn.inRound lp (callsIn_wide.2 (CR _).out)).mono ?_; rintro e W1 ⟨rfl, hb1⟩
             have HB1 := Lib.hid hb1; have HX1 := Lib.hid (HX.out.step hb1); have HK1 := Lib.hid (HK.out.step hb1); clear CR hb1; obtain ⟨r0, r1, r2, r3, r4⟩ := HX1.out)
          | (gi_at_builtin; refine wpListIn_append_str rfl _ _ 34 rfl 47 i0 Tryd.underlying34 hi0 hzi0 hzi1 hzi2 _ L (ya, yo) (W1.heap.size + 1) rfl rfl (w.heap.size + 5) ((HK1.out.step (allocB _ _)).step (allocB _ _)) (by simp) (by simp) (by omega) (by have := HB1.out.size; simp; omega) ?_
             intro a5 p5 w5 hr5 hg5 hb5
             have HX5 := Lib.hid (((HX1.out.step (allocB _ _)).step (allocB _ _)).grown hg5 (fun r e => by have := (World.ownsRow.lt HK1.out r e).1; omega)); have HR5 := Lib.hid hr5; have HG5 := Lib.hid hg5; have HB5 := Lib.hid hb5; clear hr5 hg5 hb5; obtain ⟨s0, s1, s2, s3, s4⟩ := HX5.out)
        exact RsI.str HK.out HX.out HRa.out HRb.out HB.out hz5 ((HB1.out.alloc HB1.out.size _).alloc (by have := HB1.out.size; simp; omega) _) HG5.out HR5.out HN2.out (by have := HLl.out; simp; omega) _
      | none =>
        have HN2 : Hid (∀ st, Sk.stp1 (L, 0) p.data.toList = some st → ∀ rest, Sk.runP ((pre ++ [x]).map Sk.pv ++ rest) ([], 0) = Sk.runP rest st) := Lib.hid (fun st h rest => by rw [HNx.out, Sk.runP_on (by rw [HPV.out]; exact h)])
        have HN3 : Hid (Sk.stp1 (L, 0) p.data.toList = none → ∀ rest, Sk.runP ((pre ++ [x]).map Sk.pv ++ rest) ([], 0) = none) := Lib.hid (fun h rest => by rw [HNx.out, Sk.runP_stop (by rw [HPV.out]; exact h)])
        have CR := fun V => Lib.hid (rdS_no p V hpz hrd)
        have CW := fun V (h : StQ V) => Lib.hid (sWt_any p V h hpz)
        have HW1 : Hid (_ → _ → Sk.stp1 (L, 0) p.data.toList = some (L, (Sk.wtV p.data.toList).1)) := Lib.hid (fun h1 h2 => Sk.stp1_num (l := L) hrd h1 h2)
        have HW2 := Lib.hid (fun h => Sk.stp1_no (l := L) hrd h)
        obtain ⟨b1, b2, -, -⟩ := Sk.wtV_bd p.data.toList
        clear hrd HNx HPV
        generalize Sk.wtV p.data.toList = qq at *
        obtain ⟨qn, qo⟩ := qq
        cases qo with
        | false =>
          have HNo := Lib.hid (HN3.out (HW2.out (.inl rfl)))
          clear HN2 HN3 HW1 HW2
          gi_wp2_with first
            | (refine ⟨trivial, ?_⟩; gi_at_call 85; refine (CallsIn.inRound lp (callsIn_wide.2 (CR _).out)).mono ?_; rintro e W1 ⟨a1, o1, rfl, hb1⟩
               have HB1 := Lib.hid hb1; clear CR hb1)
            | (refine ⟨trivial, ?_⟩; gi_at_call 86; refine (CallsIn.inRound lp (callsIn_wide.2 (CW _ (HST.out.step (below_nxt HB.out (HB1.out.alloc HB1.out.size _)))).out)).mono ?_; rintro e W2 ⟨rfl, hb2⟩
               have HB2 := Lib.hid (below_nxt (HB1.out.alloc HB1.out.size _) hb2); clear CW hb2; obtain ⟨c0, c1, c2, c3, c4⟩ := HRa.out.step HB2.out; obtain ⟨d0, d1, d2⟩ := HRb.out.step HB2.out)
          exact RsX.mk HRa.out HRb.out HB.out HB2.out HNo.out _
        | true =>
          by_cases hL0 : L.length = 0
          · have HNo := Lib.hid (HN3.out (HW2.out (.inr hL0)))
            have hLt : ((L.length : Int) == 0) = true := by rw [hL0]; rfl
            clear HN2 HN3 HW1 HW2
            gi_wp2_with first
              | (refine ⟨trivial, ?_⟩; gi_at_call 85; refine (CallsIn.inRound lp (callsIn_wide.2 (CR _).out)).mono ?_; rintro e W1 ⟨a1, o1, rfl, hb1⟩
                 have HB1 := Lib.hid hb1; clear CR hb1)
              | (refine ⟨trivial, ?_⟩; gi_at_call 86; refine (CallsIn.inRound lp (callsIn_wide.2 (CW _ (HST.out.step (below_nxt HB.out (HB1.out.alloc HB1.out.size _)))).out)).mono ?_; rintro e W2 ⟨rfl, hb2⟩
                 have HB2 := Lib.hid (below_nxt (HB1.out.alloc HB1.out.size _) hb2); clear CW hb2; obtain ⟨c0, c1, c2, c3, c4⟩ := HRa.out.step HB2.out; obtain ⟨d0, d1, d2⟩ := HRb.out.step HB2.out; obtain ⟨s0, s1, s2, s3, s4⟩ := HX.out.step HB2.out)
            exact RsX.mk HRa.out HRb.out HB.out HB2.out HNo.out _
          · have HNo := Lib.hid (HN2.out _ (HW1.out rfl hL0))
            have hLt : ((L.length : Int) == 0) = false := by rw [beq_eq_false_iff_ne]; omega
            clear HN2 HN3 HW1 HW2
            gi_wp2_with first
              | (refine ⟨trivial, ?_⟩; gi_at_call 85; refine (CallsIn.inRound lp (callsIn_wide.2 (CR _).out)).mono ?_; rintro e W1 ⟨a1, o1, rfl, hb1⟩
                 have HB1 := Lib.hid hb1; clear CR hb1)
              | (refine ⟨trivial, ?_⟩; gi_at_call 86; refine (CallsIn.inRound lp (callsIn_wide.2 (CW _ (HST.out.step (below_nxt HB.out (HB1.out.alloc HB1.out.size _)))).out)).mono ?_; rintro e W2 ⟨rfl, hb2⟩
                 have HB2 := Lib.hid (below_nxt (HB1.out.alloc HB1.out.size _) hb2); clear CW hb2; obtain ⟨c0, c1, c2, c3, c4⟩ := HRa.out.step HB2.out; obtain ⟨d0, d1, d2⟩ := HRb.out.step HB2.out; obtain ⟨s0, s1, s2, s3, s4⟩ := HX.out.step HB2.out)
            exact RsI.num HK.out HX.out HRa.out HRb.out HB.out hz5 HB2.out HNo.out b1 b2 (by have := HLl.out; simp; omega) _
    · have HNo : Hid (∀ rest, Sk.runP ((pre ++ [x]).map Sk.pv ++ rest) ([], 0) = none) := Lib.hid (fun rest => by rw [HNx.out, Sk.runP_stop (Sk.stp1_wait hn _)])
      have hnt : (n == 0) = false := by rw [beq_eq_false_iff_ne]; exact hn
      obtain ⟨q0, q1, q2, q3, q4⟩ := hX
      obtain ⟨c0, c1, c2, c3, c4⟩ := HRa.out
      obtain ⟨d0, d1, d2⟩ := HRb.out
      clear HNx HPV
      gi_wp2
      exact RsX.mk HRa.out HRb.out HB.out (Below.refl _ _) HNo.out _
  case done =>
    rintro D ys W hD hS ⟨⟨L, n, u, hrun, hLl, hn0, hn1, hK, hX⟩, hRa, hRb, hB, hz5⟩ hK0
    obtain ⟨ua, uc, hu⟩ := hK.form
    have hrd : Sk.rdP s.data.toList = some (L, n) := by
      have := hrun []
      rw [List.append_nil, hS] at this
      exact this
    subst hu
    obtain ⟨u, hu⟩ : ∃ u, u = Value.slice ua L.length uc := ⟨_, rfl⟩
    obtain ⟨q0, q1, q2, q3, q4⟩ := hX
    obtain ⟨c0, c1, c2, c3, c4⟩ := hRa
    obtain ⟨d0, d1, d2⟩ := hRb
    gi_wp2
    rw [← hu] at hK ⊢
    clear q1
    have hRa' := ((ResP.put1 (ResP.put0 (⟨c0, c1, c2, c3, c4⟩ : ResP W w.heap.size _ _) u) (.int .i64 n)).other (k := w.heap.size + 1) (o := 0) (by omega) (.bool true))
    have hRb0 : BoxW W (w.heap.size + 1) (.bool false) := ⟨d0, d1, d2⟩
    have hRb' := ((hRb0.other (k := w.heap.size) (o := 0) (by omega) u).other (k := w.heap.size) (o := 1) (by omega) (.int .i64 n)).set (.bool true)
    have hKK := ((hK.set (a := ⟨w.heap.size, 0, none⟩) (by show w.heap.size < w.heap.size + 5; omega) u).set (a := ⟨w.heap.size, 1, none⟩) (by show w.heap.size < w.heap.size + 5; omega) (.int .i64 n)).set (a := ⟨w.heap.size + 1, 0, none⟩) (by show w.heap.size + 1 < w.heap.size + 5; omega) (.bool true)
    have hBB := ((hB.setCell (p := ⟨w.heap.size, 0, none⟩) (by simp) u).setCell (p := ⟨w.heap.size, 1, none⟩) (by simp) (.int .i64 n)).setCell (p := ⟨w.heap.size + 1, 0, none⟩) (by simp) (.bool true)
    have hK' := (((KeepsOthers.setCell W ⟨w.heap.size, 0, none⟩ u).trans (KeepsOthers.setCell _ ⟨w.heap.size, 1, none⟩ (.int .i64 n))).trans (KeepsOthers.setCell _ ⟨w.heap.size + 1, 0, none⟩ (.bool true))).same D _ hK0 rfl
    generalize ((W.setCell ⟨w.heap.size, 0, none⟩ u).setCell ⟨w.heap.size, 1, none⟩ (.int .i64 n)).setCell ⟨w.heap.size + 1, 0, none⟩ (.bool true) = W' at *
    refine ⟨by simp, .inl ⟨_, _, rfl, run_takeDeferred hK', ?_⟩⟩
    have hg := grownBy_putObj' W' D (.deferred none)
    have hr : ∀ r, some D = some r → ∃ o : Obj, W'.heap[r]? = some o ∧ o.isCells = false := fun r e => by cases e; exact ⟨_, hK', rfl⟩
    obtain ⟨-, e1, e2, -, -⟩ := hRa'.kept hg hr
    obtain ⟨-, e3, -⟩ := hRb'.kept hg hr
    refine ⟨.tuple #[.agg #[u, .int .i64 n], .bool true], ?_, ⟨u, n, L, by rw [hrd]; rfl, (hKK.kept hg hr).sees, fun y hy => (by rw [hrd] at hy; cases hy; rfl), fun r e => (by have := (World.ownsRow.lt hKK r e).1; omega), fun r e => Nat.lt_of_lt_of_le (World.ownsRow.lt hKK r e).2 hg.size, hBB.trans (belowK_b (w := w) (Nat.le_refl _) W' D _ _ (by omega) hK' rfl rfl)⟩⟩
    simp [results, Tryd.f53, go_sem, e1, e2, e3]
  case stop =>
    rintro D c pre W hD ⟨rest, hpre⟩ ⟨rfl, hno, hRa, hRb, hB⟩ hK0
    have hrd : Sk.rdP s.data.toList = none := by
      unfold Sk.rdP
      rw [hpre]; exact hno rest
    gi_wp2
    refine ⟨by simp, .inl ⟨_, _, rfl, run_takeDeferred hK0, ?_⟩⟩
    have hg := grownBy_putObj' W D (.deferred none)
    have hr : ∀ r, some D = some r → ∃ o : Obj, W.heap[r]? = some o ∧ o.isCells = false := fun r e => by cases e; exact ⟨_, hK0, rfl⟩
    obtain ⟨-, e1, e2, -, -⟩ := hRa.kept hg hr
    obtain ⟨-, e3, -⟩ := hRb.kept hg hr
    refine ⟨.tuple #[.agg #[.slice none 0 0, .int .i64 0], .bool false], ?_, ⟨.slice none 0 0, 0, [], by rw [hrd]; rfl, SeeK.nil _, fun y hy => (by rw [hrd] at hy; cases hy), fun r e => (by cases e), fun r e => (by cases e), hB.trans (belowK_b (w := w) (Nat.le_refl _) W D _ _ (by omega) hK0 rfl rfl)⟩⟩
    simp [results, Tryd.f53, go_sem, e1, e2, e3]
end Go.Proofs.YtjpbccpleflkhaaDoor

namespace Sk
open Go
/-- The steps of the parts, or the offset and the error. -/
def ro : List (Int × List UInt8) → List Stp → List Stp × Int × Int
  | [], L => (L, 0, 0)
  | p :: r, L => if L.length = 64 then ([], p.1, 5) else (match rdP p.2 with
    | none => ([], p.1, 4)
    | some y => if chkP y.1 y.2 = 0 then ro r (L ++ [y]) else ([], p.1, chkP y.1 y.2))
/-- What Parse answers. -/
def parV (l : List UInt8) : List Stp × Int × Int := if 4096 < l.length then ([], 0, 17) else (if l.length = 0 then ([], 0, 0) else ro (prts l [59, 32]) [])
theorem ro_many {p : Int × List UInt8} {r : List (Int × List UInt8)} {L : List Stp} (h : L.length = 64) : ro (p :: r) L = ([], p.1, 5) := by rw [ro, if_pos h]
theorem ro_form {p : Int × List UInt8} {r : List (Int × List UInt8)} {L : List Stp} (h : L.length ≠ 64) (h1 : rdP p.2 = none) : ro (p :: r) L = ([], p.1, 4) := by rw [ro, if_neg h, h1]
theorem ro_bad {p : Int × List UInt8} {r : List (Int × List UInt8)} {L : List Stp} {y : Stp} (h : L.length ≠ 64) (h1 : rdP p.2 = some y) (h2 : chkP y.1 y.2 ≠ 0) : ro (p :: r) L = ([], p.1, chkP y.1 y.2) := by rw [ro, if_neg h, h1]; exact if_neg h2
theorem ro_on {p : Int × List UInt8} {r : List (Int × List UInt8)} {L : List Stp} {y : Stp} (h : L.length ≠ 64) (h1 : rdP p.2 = some y) (h2 : chkP y.1 y.2 = 0) : ro (p :: r) L = ro r (L ++ [y]) := by rw [ro, if_neg h, h1]; exact if_pos h2
end Sk
namespace Go.Proofs.YtjpbccpleflkhaaDoor
open Go.RowKit
/-- A slice's block is as it was. -/
theorem SeeK.same {W W' : World} {u : Value} {l : List Sk.Str} (h : SeeK W u l) (hz : W.heap.size ≤ W'.heap.size) (hb : ∀ r, u.ownBlock = some r → r < W.heap.size → W'.heap[r]? = W.heap[r]?) : SeeK W' u l := by
  obtain ⟨ao, cap, rfl, h1, h2, h3⟩ := h
  refine ⟨ao, cap, rfl, h1, h2, fun hl => ?_⟩
  obtain ⟨g, off, rfl, hg, h4⟩ := h3 hl
  have hk := hb g rfl hg
  exact ⟨g, off, rfl, Nat.lt_of_lt_of_le hg hz, fun i hi => ⟨(World.cell?_of_block (w := W) hk).trans (h4 i hi).1, (World.cell?_of_block (w := W) hk).trans (h4 i hi).2⟩⟩
theorem SeeK.kept {W W' : World} {u : Value} {l : List Sk.Str} {row : Option Nat} (h : SeeK W u l) (hg : W.grownBy W' row) (hr : ∀ r, row = some r → ∃ o : Obj, W.heap[r]? = some o ∧ o.isCells = false) : SeeK W' u l := by
  obtain ⟨ao, cap, rfl, h1, h2, h3⟩ := h
  refine ⟨ao, cap, rfl, h1, h2, fun hl => ?_⟩
  obtain ⟨g, off, rfl, hg', h4⟩ := h3 hl
  exact ⟨g, off, rfl, Nat.lt_of_lt_of_le hg' hg.size, fun i hi => ⟨cell_kept (h4 i hi).1 hg hr, cell_kept (h4 i hi).2 hg hr⟩⟩
theorem getD_left {α : Type} (l : List α) (x d : α) {i : Nat} (h : i < l.length) : (l ++ [x]).getD i d = l.getD i d := by simp [List.getD, List.getElem?_append_left h]
theorem getD_end {α : Type} (l : List α) (x d : α) {i : Nat} (h : i = l.length) : (l ++ [x]).getD i d = x := by subst h; simp [List.getD]
def encT (p : Value × Int) : List Value := [p.1, .int .i64 p.2]
def p0 : Value × Int := (.slice none 0 0, 0)
theorem flatT_len (l : List (Value × Int)) : (l.flatMap encT).length = l.length * 2 := by
  induction l with
  | nil => rfl
  | cons x l ih => simp [ih, encT]; omega
theorem flatT_get (l : List (Value × Int)) (j c : Nat) (hj : j < l.length) (hc : c < 2) : (l.flatMap encT)[j * 2 + c]? = (encT (l.getD j p0))[c]? := by
  induction l generalizing j with
  | nil => simp at hj
  | cons x l ih =>
    rcases Nat.eq_zero_or_pos j with rfl | hp
    · rcases (show c = 0 ∨ c = 1 by omega) with rfl | rfl <;> simp [encT]
    · obtain ⟨i, rfl⟩ : ∃ i, j = i + 1 := ⟨j - 1, by omega⟩
      have := ih i (by simpa using hj)
      rw [List.flatMap_cons, List.getElem?_append_right (by simp [encT]; omega)]
      rw [show (i + 1) * 2 + c - (encT x).length = i * 2 + c by simp [encT]; omega, this]
      simp
/-- What the cells of a row of steps hold. -/
def HoldT (B : Nat) (w : World) (v : Value) (ps : List (Value × Int)) (L : List Sk.Stp) : Prop :=
  ps.length = L.length ∧ ∀ i, i < L.length → SeeK w (ps.getD i p0).1 (L.getD i Sk.t0).1 ∧ (ps.getD i p0).2 = (L.getD i Sk.t0).2 ∧ ∀ r, (ps.getD i p0).1.ownBlock = some r → B ≤ r ∧ r < w.heap.size ∧ v.ownBlock ≠ some r
/-- A row of steps that is the call's own. -/
def RowT (B : Nat) (e : TypeId) (w : World) (v : Value) (L : List Sk.Stp) : Prop := ∃ ps, w.ownsRow B e 2 v L.length (ps.flatMap encT) ∧ HoldT B w v ps L
theorem HoldT.same {B : Nat} {W W' : World} {v : Value} {ps : List (Value × Int)} {L : List Sk.Stp} (h : HoldT B W v ps L) (hz : W.heap.size ≤ W'.heap.size) (hb : ∀ r, B ≤ r → r < W.heap.size → v.ownBlock ≠ some r → W'.heap[r]? = W.heap[r]?) : HoldT B W' v ps L :=
  ⟨h.1, fun i hi => by
    obtain ⟨h1, h2, h3⟩ := h.2 i hi
    exact ⟨h1.same hz (fun r e _ => hb r (h3 r e).1 (h3 r e).2.1 (h3 r e).2.2), h2, fun r e => ⟨(h3 r e).1, Nat.lt_of_lt_of_le (h3 r e).2.1 hz, (h3 r e).2.2⟩⟩⟩
theorem RowT.step {B : Nat} {e : TypeId} {w w' : World} {v : Value} {L : List Sk.Stp} (h : RowT B e w v L) (hb : Below w.heap.size w w') : RowT B e w' v L := by
  obtain ⟨ps, h1, h2⟩ := h
  refine ⟨ps, ?_, h2.same hb.size (fun r _ hr _ => hb.block r hr)⟩
  rcases h1 with ⟨h0, h | ⟨g, cap, cur, h', h1, h2, h3⟩⟩
  · exact ⟨h0, .inl h⟩
  · exact ⟨h0, .inr ⟨g, cap, cur, h', h1, by rw [hb.block g (Array.getElem?_eq_some_iff.1 h2).1]; exact h2, h3⟩⟩
theorem RowT.nil (B : Nat) (e : TypeId) (w : World) : RowT B e w (.slice none 0 0) [] := ⟨[], World.ownsRow_nil _ _ _ _, rfl, fun i hi => by simp at hi⟩
theorem RowT.form {B : Nat} {e : TypeId} {w : World} {v : Value} {L : List Sk.Stp} (h : RowT B e w v L) : ∃ ao cap, v = .slice ao L.length cap := by
  obtain ⟨ps, h, -⟩ := h
  rcases h.2 with ⟨rfl, h0⟩ | ⟨g, cap, cur, rfl, _⟩
  · exact ⟨none, 0, by rw [h0]⟩
  · exact ⟨_, _, rfl⟩
theorem RowT.lt {B : Nat} {e : TypeId} {w : World} {v : Value} {L : List Sk.Stp} (h : RowT B e w v L) : ∀ r, v.ownBlock = some r → B ≤ r ∧ r < w.heap.size := by
  obtain ⟨ps, h, -⟩ := h
  exact World.ownsRow.lt h
theorem RowT.sees {B : Nat} {e : TypeId} {w : World} {v : Value} {L : List Sk.Stp} (h : RowT B e w v L) : SeeT w v L := by
  obtain ⟨ps, h, hl, hp⟩ := h
  have hc := fun g hg => World.ownsRow.cells h (g := g) hg
  have hlt := World.ownsRow.lt h
  rcases h with ⟨h0, ⟨rfl, h2⟩ | ⟨g, cap, cur, rfl, h1, h2, h3, h4, h5⟩⟩
  · have := List.eq_nil_of_length_eq_zero h2
    subst this
    exact SeeT.nil w
  · have hk := hc g rfl
    refine ⟨_, cap, rfl, h3, by unfold maxLen at h4; omega, fun _ => ⟨g, 0, rfl, (hlt g rfl).2, fun i hi => ⟨⟨_, ?_, (hp i hi).1⟩, ?_⟩⟩⟩
    · have := hk (i * 2) (ps.getD i p0).1 ((flatT_get ps i 0 (by omega) (by omega)).trans rfl)
      rw [addr_add] at this
      rw [Nat.zero_add]; exact this
    · have := hk (i * 2 + 1) (.int .i64 (ps.getD i p0).2) ((flatT_get ps i 1 (by omega) (by omega)).trans rfl)
      rw [addr_add] at this
      rw [Nat.zero_add, ← (hp i hi).2.1]; exact this
theorem RowT.kept {B : Nat} {e : TypeId} {w w' : World} {v : Value} {L : List Sk.Stp} {row : Option Nat} (h : RowT B e w v L) (hg : w.grownBy w' row) (hr : ∀ r, row = some r → ∃ o : Obj, w.heap[r]? = some o ∧ o.isCells = false) : RowT B e w' v L := by
  obtain ⟨ps, h, hl, hp⟩ := h
  refine ⟨ps, World.ownsRow.kept h hg ?_, hl, fun i hi => ⟨(hp i hi).1.kept hg hr, (hp i hi).2.1, fun r e => ⟨((hp i hi).2.2 r e).1, Nat.lt_of_lt_of_le ((hp i hi).2.2 r e).2.1 hg.size, ((hp i hi).2.2 r e).2.2⟩⟩⟩
  cases hv : v.ownBlock with
  | none => exact .inl rfl
  | some g =>
    refine .inr fun e' => ?_
    obtain ⟨o, ho, hc⟩ := hr g e'.symm
    rcases h.2 with ⟨rfl, -⟩ | ⟨g', cap, cur, rfl, h1, h2, -⟩
    · cases hv
    · have : g' = g := by simpa [Value.ownBlock] using hv
      subst this
      rw [h2] at ho
      cases ho
      cases hc
theorem RowT.set {B : Nat} {e : TypeId} {w : World} {v : Value} {L : List Sk.Stp} (h : RowT B e w v L) {a : Addr} (ha : a.block < B) (u : Value) : RowT B e (w.setCell a u) v L := by
  obtain ⟨ps, h, hh⟩ := h
  refine ⟨ps, World.ownsRow.kept h (row := some a.block) ⟨rfl, rfl, rfl, by simp [World.setCell], fun k _ hk => Below.heap_setCell _ _ _ _ (fun e => hk (by rw [e]))⟩ ?_, hh.same (by simp [World.setCell]) (fun r hr _ _ => Below.heap_setCell _ _ _ _ (by omega))⟩
  cases hv : v.ownBlock with
  | none => exact .inl rfl
  | some g => exact .inr fun e' => by have := (World.ownsRow.lt h g hv).1; simp at e'; omega
theorem keeps_rowT {B : Nat} {e : TypeId} {W W' : World} {v : Value} {L : List Sk.Stp} (h : RowT B e W v L) (hg : W.grownBy W' v.ownBlock) : KeepsOthers W W' := KeepsOthers.of_grownBy hg (fun j o e' ho => by
  obtain ⟨ps, h, -⟩ := h
  rcases h.2 with ⟨rfl, -⟩ | ⟨g', cap, cur, rfl, h1, h2, -⟩
  · cases e'
  · have : g' = j := by simpa [Value.ownBlock] using e'
    subst this
    rw [h2] at ho; cases ho; rfl)
/-- 'append' of a step to a slice of the call's own. -/
theorem wpListIn_append_stp {F : Fence} {n : Nat} {P : Program} {w : World} {ops : Array Oper} {rest : List Oper} {o : Oper} {a : Act} {Q : Exit → Act → World → Prop} (hgd : o.guard = none) (s x : Operand) (t : TypeId)
    (ho : o.op = .call { callee := .builtin .append, args := #[s, x], argTypes := #[t, t] })
    (e : TypeId) (i : TypeInfo) (ht : P.underlying t = some (.slice e)) (hi : P.info? e = some i) (hz : i.zero = some (.agg #[.slice none 0 0, .int .i64 0])) (hsize : i.size = 2) (hby : i.bytes = 32)
    (v : Value) (L : List Sk.Stp) (l : List Sk.Str) (m : Int) (u : Value) (g : Nat) (hs : a.eval s = v) (hx : a.eval x = .slice (some ⟨g, 0, none⟩) 1 1) (B : Nat) (hown : RowT B e w v L)
    (h0 : w.cell? ⟨g, 0, none⟩ = some u) (h1 : w.cell? ⟨g, 1, none⟩ = some (.int .i64 m)) (hu : SeeK w u l) (hf : ∀ r, u.ownBlock = some r → B ≤ r ∧ r < w.heap.size ∧ v.ownBlock ≠ some r) (hlen : L.length ≤ 1048576) (hB : B ≤ w.heap.size)
    (h : ∀ ao' cap' w', RowT B e w' (.slice ao' (L.length + 1) cap') (L ++ [(l, m)]) → w.grownBy w' v.ownBlock → Below B w w' → wpListIn F n P ops Q rest (a.put o.dst (.slice ao' (L.length + 1) cap')) w') : wpListIn F n P ops Q (o :: rest) a w := by
  obtain ⟨ps, hown, hl, hp⟩ := hown
  refine wpListIn_append_own_at w hgd s x t ho B e i (.agg #[.slice none 0 0, .int .i64 0]) 2 32 ht hi hz hsize hby rfl (by omega) v L.length _ hs hown ⟨g, 0, none⟩ 1 1 [u, .int .i64 m] hx (by simp) ?_ ?_ (by unfold maxLen; omega) ?_ hB ?_
  · intro j u' hj
    rw [addr_add]
    rcases j with _ | _ | j
    · simp at hj; subst hj; exact h0
    · simp at hj; subst hj; exact h1
    · simp at hj
  · obtain ⟨ao, cap, rfl, -⟩ := hu
    simp [Value.oneCell']
  · omega
  · intro v' w' r1 r2 r3 r4
    have hk : ∀ u l, SeeK w u l → (∀ r, u.ownBlock = some r → B ≤ r ∧ r < w.heap.size ∧ v.ownBlock ≠ some r) → SeeK w' u l ∧ ∀ r, u.ownBlock = some r → B ≤ r ∧ r < w'.heap.size ∧ v'.ownBlock ≠ some r := fun u l hs hf =>
      ⟨hs.same r2.size (fun r e hr => r2.block r hr (fun e' => (hf r e).2.2 e'.symm)), fun r e => ⟨(hf r e).1, Nat.lt_of_lt_of_le (hf r e).2.1 r2.size, fun e' => by
        rcases r4 with r4 | r4
        · exact (hf r e).2.2 (r4 ▸ e')
        · rw [r4] at e'; have := (hf r e).2.1; simp at e'; omega⟩⟩
    have hr : RowT B e w' v' (L ++ [(l, m)]) := by
      refine ⟨ps ++ [(u, m)], ?_, by simp [hl], fun i hi => ?_⟩
      · rw [List.length_append, List.flatMap_append]
        exact r1
      · by_cases hi' : i < L.length
        · obtain ⟨a1, a2, a3⟩ := hp i hi'
          rw [getD_left _ _ _ (by omega), getD_left _ _ _ hi']
          obtain ⟨b1, b2⟩ := hk _ _ a1 a3
          exact ⟨b1, a2, b2⟩
        · have : i = L.length := by simp at hi; omega
          subst this
          rw [getD_end _ _ _ (by omega), getD_end _ _ _ rfl]
          obtain ⟨b1, b2⟩ := hk u l hu hf
          exact ⟨b1, rfl, b2⟩
    obtain ⟨ao', cap', rfl⟩ : ∃ ao' cap', v' = .slice ao' (L.length + 1) cap' := by
      rcases r1.2 with ⟨_, h⟩ | ⟨g, cap, cur, rfl, _⟩
      · omega
      · exact ⟨_, _, rfl⟩
    exact h _ _ _ hr r2 ((Below.refl _ _).grown r2 hB (fun g hg => (World.ownsRow.lt hown g hg).1))
theorem info_stp : ∃ i : TypeInfo, Tryd.prog.info? 70 = some i ∧ i.zero = some (.agg #[.slice none 0 0, .int .i64 0]) ∧ i.size = 2 ∧ i.bytes = 32 := by
  have h : (Tryd.prog.info? 70).map (fun i => (i.zero, i.size, i.bytes)) = some (some (.agg #[.slice none 0 0, .int .i64 0]), 2, 32) := by kernel_rfl
  obtain ⟨i, h1, h2⟩ := Option.map_eq_some_iff.1 h
  simp only [Prod.mk.injEq] at h2
  exact ⟨i, h1, h2⟩
/-- Between two rounds of Parse. -/
def PsI (w : World) (T : TypeId) (pre : List Sk.Prt) (W : World) : Prop :=
  (∃ (L : List Sk.Stp) (v : Value), (∀ rest, Sk.ro (pre.map Sk.pv ++ rest) [] = Sk.ro rest L) ∧ L.length ≤ 64 ∧ RowT (w.heap.size + 6) T W v L ∧ BoxW W (w.heap.size + 3) v) ∧ BoxW W w.heap.size (.slice none 0 0) ∧ BoxW W (w.heap.size + 1) (.int .i64 0) ∧ BoxW W (w.heap.size + 2) (.int .i64 0) ∧ Below w.heap.size w W ∧ w.heap.size + 6 ≤ W.heap.size
/-- When a round has left. -/
def PsX (w : World) (c : Code) (pre : List Sk.Prt) (W : World) : Prop :=
  c = .ret ∧ ∃ k m : Int, (∀ rest, Sk.ro (pre.map Sk.pv ++ rest) [] = ([], k, m)) ∧ BoxW W w.heap.size (.slice none 0 0) ∧ BoxW W (w.heap.size + 1) (.int .i64 k) ∧ BoxW W (w.heap.size + 2) (.int .i64 m) ∧ Below w.heap.size w W
theorem PsI.own {w : World} {T : TypeId} {B : Nat} (hB : w.heap.size ≤ B) : OwnFrom B (PsI w T) := by
  rintro pre W W' row ⟨⟨L, v, h1, h2, h5, h6⟩, h7, h8, h8', h9, h10⟩ hg hr
  have hr2 := fun r e => (hr r e).2
  exact ⟨⟨L, v, h1, h2, h5.kept hg hr2, h6.kept hg hr2⟩, h7.kept hg hr2, h8.kept hg hr2, h8'.kept hg hr2, h9.grown hg h9.size (fun r e => Nat.le_trans hB (hr r e).1), Nat.le_trans h10 hg.size⟩
theorem PsX.own {w : World} {B : Nat} (hB : w.heap.size ≤ B) (c : Code) : OwnFrom B (PsX w c) := by
  rintro pre W W' row ⟨h0, k, m, h1, h7, h8, h8', h9⟩ hg hr
  have hr2 := fun r e => (hr r e).2
  exact ⟨h0, k, m, h1, h7.kept hg hr2, h8.kept hg hr2, h8'.kept hg hr2, h9.grown hg h9.size (fun r e => Nat.le_trans hB (hr r e).1)⟩
theorem PsI.next {pre : List Sk.Prt} {x : Sk.Prt} {L : List Sk.Stp} (h : ∀ rest, Sk.ro (pre.map Sk.pv ++ rest) [] = Sk.ro rest L) (rest : List (Int × List UInt8)) : Sk.ro ((pre ++ [x]).map Sk.pv ++ rest) [] = Sk.ro (Sk.pv x :: rest) L := by
  rw [List.map_append, List.append_assoc, h]; rfl
/-- A round that has read a step. -/
theorem PsI.stp {w W W2 w5 : World} {T : TypeId} {v v5 : Value} {L : List Sk.Stp} {y : Sk.Stp} {pre' : List Sk.Prt} (hK : RowT (w.heap.size + 6) T W v L) (hRa : BoxW W w.heap.size (.slice none 0 0)) (hRb : BoxW W (w.heap.size + 1) (.int .i64 0)) (hRc : BoxW W (w.heap.size + 2) (.int .i64 0)) (hX : BoxW W (w.heap.size + 3) v) (hB : Below w.heap.size w W) (hz : w.heap.size + 6 ≤ W.heap.size)
    (hb : Below W.heap.size W W2) (hg : W2.grownBy w5 v.ownBlock) (hr : RowT (w.heap.size + 6) T w5 v5 (L ++ [y])) (hn : ∀ rest, Sk.ro (pre'.map Sk.pv ++ rest) [] = Sk.ro rest (L ++ [y])) (hl : L.length + 1 ≤ 64) (B : Nat) :
    KeepsFrom B W (w5.setCell ⟨w.heap.size + 3, 0, none⟩ v5) ∧ KpT (w.heap.size + 4) (w.heap.size + 5) W (w5.setCell ⟨w.heap.size + 3, 0, none⟩ v5) ∧ PsI w T pre' (w5.setCell ⟨w.heap.size + 3, 0, none⟩ v5) := by
  have hK2 := hK.step hb
  have hrow : ∀ r, v.ownBlock = some r → w.heap.size + 6 ≤ r := fun r e => (hK2.lt r e).1
  have hs2 := hb.size
  have hs5 := hg.size
  refine ⟨(((keeps_below hb).trans (keeps_rowT hK2 hg)).trans (KeepsOthers.setCell _ _ _)).from B, ((KpT.below hb (by omega) (by omega)).trans (KpT.grown hg (by omega) (by omega) (fun r e => by have := hrow r e; omega))).trans (KpT.setc _ (by simp) _), ⟨L ++ [y], v5, hn, by simpa using hl, hr.set (by show w.heap.size + 3 < w.heap.size + 6; omega) _, ((hX.step hb).grown hg (fun r e => by have := hrow r e; omega)).set _⟩, ?_, ?_, ?_, ?_, ?_⟩
  · exact ((hRa.step hb).grown hg (fun r e => by have := hrow r e; omega)).other (by omega) _
  · exact ((hRb.step hb).grown hg (fun r e => by have := hrow r e; omega)).other (by omega) _
  · exact ((hRc.step hb).grown hg (fun r e => by have := hrow r e; omega)).other (by omega) _
  · exact ((below_nxt hB hb).grown hg (by omega) (fun r e => by have := hrow r e; omega)).setCell (p := ⟨w.heap.size + 3, 0, none⟩) (by simp) _
  · simp; omega
/-- A round that leaves. -/
theorem PsX.mk {w W W2 : World} {pre' : List Sk.Prt} {k m : Int} (hRa : BoxW W w.heap.size (.slice none 0 0)) (hRb : BoxW W (w.heap.size + 1) (.int .i64 0)) (hRc : BoxW W (w.heap.size + 2) (.int .i64 0)) (hB : Below w.heap.size w W) (hb : Below W.heap.size W W2) (hn : ∀ rest, Sk.ro (pre'.map Sk.pv ++ rest) [] = ([], k, m)) (B : Nat) :
    KeepsFrom B W (((W2.setCell ⟨w.heap.size, 0, none⟩ (.slice none 0 0)).setCell ⟨w.heap.size + 1, 0, none⟩ (.int .i64 k)).setCell ⟨w.heap.size + 2, 0, none⟩ (.int .i64 m)) ∧ PsX w .ret pre' (((W2.setCell ⟨w.heap.size, 0, none⟩ (.slice none 0 0)).setCell ⟨w.heap.size + 1, 0, none⟩ (.int .i64 k)).setCell ⟨w.heap.size + 2, 0, none⟩ (.int .i64 m)) :=
  ⟨((((keeps_below hb).trans (KeepsOthers.setCell _ _ _)).trans (KeepsOthers.setCell _ _ _)).trans (KeepsOthers.setCell _ _ _)).from B, rfl, k, m, hn, ((((hRa.step hb).set _).other (by omega) _).other (by omega) _), ((((hRb.step hb).other (by omega) _).set _).other (by omega) _), ((((hRc.step hb).other (by omega) _).other (by omega) _).set _),
    (((below_nxt hB hb).setCell (p := ⟨w.heap.size, 0, none⟩) (by simp) _).setCell (p := ⟨w.heap.size + 1, 0, none⟩) (by simp) _).setCell (p := ⟨w.heap.size + 2, 0, none⟩) (by simp) _⟩
theorem rdP_yes (p : ByteArray) (l : List Sk.Str) (n : Int) (W : World) (hst : StQ W) (hz : p.size ≤ 4096) (h : Sk.rdP p.data.toList = some (l, n)) : Calls Tryd.prog 53 #[.string p] W fun e w' => ∃ ao cap, e = .returned (.tuple #[.agg #[.slice ao l.length cap, .int .i64 n], .bool true]) ∧ SeeK w' (.slice ao l.length cap) l ∧ (∀ r, (Value.slice ao l.length cap).ownBlock = some r → W.heap.size ≤ r) ∧ (∀ r, (Value.slice ao l.length cap).ownBlock = some r → r < w'.heap.size) ∧ Below W.heap.size W w' :=
  (sRdP_any p W hst hz).mono (by
    rintro e w' ⟨v, m, L, rfl, hs, hy, hf, hl, hb⟩
    have := hy _ h
    cases this
    obtain ⟨ao, cap, rfl, -⟩ := id hs
    exact ⟨ao, cap, by rw [h]; rfl, hs, hf, hl, hb⟩)
theorem rdP_no (p : ByteArray) (W : World) (hst : StQ W) (hz : p.size ≤ 4096) (h : Sk.rdP p.data.toList = none) : Calls Tryd.prog 53 #[.string p] W fun e w' => ∃ ao k cap n, e = .returned (.tuple #[.agg #[.slice ao k cap, .int .i64 n], .bool false]) ∧ Below W.heap.size W w' :=
  (sRdP_any p W hst hz).mono (by
    rintro e w' ⟨v, m, L, rfl, hs, hy, hf, hl, hb⟩
    obtain ⟨ao, cap, rfl, -⟩ := id hs
    exact ⟨ao, _, cap, m, by rw [h]; rfl, hb⟩)
/-- What Parse leaves. -/
def ParP (q : List Sk.Stp × Int × Int) (w : World) (e : Ending) (w' : World) : Prop := ∃ ao cap, e = .returned (.tuple #[.slice ao q.1.length cap, .int .i64 q.2.1, .int .i64 q.2.2]) ∧ SeeT w' (.slice ao q.1.length cap) q.1 ∧ Below w.heap.size w w'
end Go.Proofs.YtjpbccpleflkhaaDoor

namespace Go.Proofs.YtjpbccpleflkhaaDoor
open Go.RowKit Go.Shelf
attribute [local go_sem] Oper.semAt_some
set_option maxHeartbeats 8000000 in
set_option maxRecDepth 100000 in
theorem sPar_any (s : ByteArray) (w : World) (hst : StQ w) : Calls Tryd.prog 12 #[.string s] w (ParP (Sk.parV s.data.toList) w) := by
  have HST := Lib.hid hst
  have h4 := hst.st.size
  have hlz : s.data.toList.length = s.size := Array.length_toList
  by_cases hbig : 4096 < s.size
  · have hv : Sk.parV s.data.toList = ([], 0, 17) := if_pos (by omega)
    rw [hv]
    have hb' : decide (4096 < (s.size : Int)) = true := decide_eq_true (by omega)
    clear hv hst HST
    go_enter Tryd.func12, Tryd.ntmps12
    go_wp2
    have c0 := boxV_new w (.slice none 0 0) 23
    have c1 := boxV_new (w.alloc (.cells #[.slice none 0 0] 23)) (.int .i64 0) 3
    have c2 := boxV_new ((w.alloc (.cells #[.slice none 0 0] 23)).alloc (.cells #[.int .i64 0] 3)) (.int .i64 17) 24
    rw [World.size_alloc] at c1
    rw [World.size_alloc, World.size_alloc] at c2
    have d0 := ((c0.step (allocB _ (.cells #[.int .i64 0] 3))).step (allocB _ (.cells #[.int .i64 17] 24))).2
    have d1 := (c1.step (allocB _ (.cells #[.int .i64 17] 24))).2
    have d2 := c2.2
    refine bodyPost_ret (v := .tuple #[.slice none 0 0, .int .i64 0, .int .i64 17]) ?_ rfl ⟨none, 0, rfl, SeeT.nil _, (((allocB w _).alloc (by simp) _).alloc (by simp; omega) _)⟩
    simp [results, Tryd.f12, go_sem, d0, d1, d2]
  · have hb' : decide (4096 < (s.size : Int)) = false := decide_eq_false (by omega)
    by_cases hem : s.size = 0
    · have hv : Sk.parV s.data.toList = ([], 0, 0) := by unfold Sk.parV; rw [if_neg (by omega), if_pos (by omega)]
      rw [hv]
      have hs0 : s = ⟨#[]⟩ := by
        have h := List.eq_nil_of_length_eq_zero (l := s.data.toList) (by omega)
        have h2 : s.data = #[] := by simpa using h
        exact (show s = ⟨s.data⟩ from rfl).trans (by rw [h2])
      subst hs0
      clear hv hst HST
      go_enter Tryd.func12, Tryd.ntmps12
      go_wp2
      have c0 := boxV_new w (.slice none 0 0) 23
      have c1 := boxV_new (w.alloc (.cells #[.slice none 0 0] 23)) (.int .i64 0) 3
      have c2 := boxV_new ((w.alloc (.cells #[.slice none 0 0] 23)).alloc (.cells #[.int .i64 0] 3)) (.int .i64 0) 24
      rw [World.size_alloc] at c1
      rw [World.size_alloc, World.size_alloc] at c2
      have d0 := ((c0.step (allocB _ (.cells #[.int .i64 0] 3))).step (allocB _ (.cells #[.int .i64 0] 24))).2
      have d1 := (c1.step (allocB _ (.cells #[.int .i64 0] 24))).2
      have d2 := c2.2
      refine bodyPost_ret (v := .tuple #[.slice none 0 0, .int .i64 0, .int .i64 0]) ?_ rfl ⟨none, 0, rfl, SeeT.nil _, (((allocB w _).alloc (by simp) _).alloc (by simp; omega) _)⟩
      simp [results, Tryd.f12, go_sem, d0, d1, d2]
    · have hv : Sk.parV s.data.toList = Sk.ro (Sk.prts s.data.toList [59, 32]) [] := by unfold Sk.parV; rw [if_neg (by omega), if_neg (by omega)]
      rw [hv]
      clear hv
      have hne : ([] == s.toList) = false := by
        rw [ByteArray.toList_eq]
        have : s.data.toList ≠ [] := fun h => hem (by rw [← hlz, h]; rfl)
        simpa using fun h => this (by simp [h])
      have hne' : (s.toList == []) = false := by
        rw [ByteArray.toList_eq]
        have : s.data.toList ≠ [] := fun h => hem (by rw [← hlz, h]; rfl)
        simpa using fun h => this (by simp [h])
      have hz : s.size ≤ 4096 := by omega
      obtain ⟨m0, hm0⟩ := hst.st.maxLen
      refine (callsIn_wide (n := 9)).1 ?_
      refine callsIn_of_wp_marks Tryd.func12 rfl trivial ?_ rfl
      simp only [Tryd.ntmps12, List.size_toArray, List.length_cons, List.length_nil, Nat.reduceAdd, Nat.reduceSub, Array.replicate_succ, Array.replicate_zero, List.push_toArray, List.append_toArray, List.nil_append, List.cons_append]
      gi_wp2_with (refine ⟨trivial, ?_⟩; gi_at_call 52; refine (callsIn_wide.2 (sPts_any s ⟨#[59, 32]⟩ _)).mono ?_; rintro e Z ⟨rfl, rfl⟩)
      obtain ⟨W0, hW0⟩ : ∃ W0, ((((((w.alloc (.cells #[.slice none 0 0] 23)).alloc (.cells #[.int .i64 0] 3)).alloc (.cells #[.int .i64 0] 24)).alloc (.cells #[.slice none 0 0] 23)).alloc (.cells #[.string s] 9)).alloc (.cells #[.string ⟨#[59, 32]⟩] 9)) = W0 := ⟨_, rfl⟩
      have hz0 : W0.heap.size = w.heap.size + 6 := by rw [← hW0]; simp
      have hB0 : Below w.heap.size w W0 := by rw [← hW0]; exact (((((allocB w _).alloc (by simp) _).alloc (by simp; omega) _).alloc (by simp; omega) _).alloc (by simp; omega) _).alloc (by simp; omega) _
      have hRa : BoxW W0 w.heap.size (.slice none 0 0) := by rw [← hW0]; exact (((((boxW_new w _ _).step (allocB _ _)).step (allocB _ _)).step (allocB _ _)).step (allocB _ _)).step (allocB _ _)
      have hRb : BoxW W0 (w.heap.size + 1) (.int .i64 0) := by
        have h := boxW_new (w.alloc (.cells #[.slice none 0 0] 23)) (.int .i64 0) 3
        rw [World.size_alloc] at h
        rw [← hW0]; exact (((h.step (allocB _ _)).step (allocB _ _)).step (allocB _ _)).step (allocB _ _)
      have hRc : BoxW W0 (w.heap.size + 2) (.int .i64 0) := by
        have h := boxW_new ((w.alloc (.cells #[.slice none 0 0] 23)).alloc (.cells #[.int .i64 0] 3)) (.int .i64 0) 24
        rw [World.size_alloc, World.size_alloc] at h
        rw [← hW0]; exact ((h.step (allocB _ _)).step (allocB _ _)).step (allocB _ _)
      have hX : BoxW W0 (w.heap.size + 3) (.slice none 0 0) := by
        have h := boxW_new (((w.alloc (.cells #[.slice none 0 0] 23)).alloc (.cells #[.int .i64 0] 3)).alloc (.cells #[.int .i64 0] 24)) (.slice none 0 0) 23
        rw [World.size_alloc, World.size_alloc, World.size_alloc] at h
        rw [← hW0]; exact (h.step (allocB _ _)).step (allocB _ _)
      have hTs : W0.cell? ⟨w.heap.size + 4, 0, none⟩ = some (.string s) := by
        have h := boxV_new ((((w.alloc (.cells #[.slice none 0 0] 23)).alloc (.cells #[.int .i64 0] 3)).alloc (.cells #[.int .i64 0] 24)).alloc (.cells #[.slice none 0 0] 23)) (.string s) 9
        rw [World.size_alloc, World.size_alloc, World.size_alloc, World.size_alloc] at h
        rw [← hW0]; exact (h.step (allocB _ _)).2
      have hTp : W0.cell? ⟨w.heap.size + 5, 0, none⟩ = some (.string ⟨#[59, 32]⟩) := by
        have h := boxV_new (((((w.alloc (.cells #[.slice none 0 0] 23)).alloc (.cells #[.int .i64 0] 3)).alloc (.cells #[.int .i64 0] 24)).alloc (.cells #[.slice none 0 0] 23)).alloc (.cells #[.string s] 9)) (.string ⟨#[59, 32]⟩) 9
        rw [World.size_alloc, World.size_alloc, World.size_alloc, World.size_alloc, World.size_alloc] at h
        rw [← hW0]; exact h.2
      have hm1 : ∃ m : Int, W0.cell? ⟨0, 0, none⟩ = some (.int .i64 m) := ⟨m0, (hB0.cell (p := ⟨0, 0, none⟩) (by show 0 < w.heap.size; omega)).trans hm0⟩
      have hI0 : PsI w 70 [] W0 := ⟨⟨[], .slice none 0 0, fun rest => rfl, by simp, RowT.nil _ _ _, hX⟩, hRa, hRb, hRc, hB0, by omega⟩
      rw [hW0]
      clear hW0 hRa hRb hRc hX
      refine wpIn_rangeFunc_ownG rfl (by omega) (gf := 83) (lb := #[.pointer (some ⟨w.heap.size + 1 + 1 + 1 + 1, 0, none⟩), .pointer (some ⟨w.heap.size + 1 + 1 + 1 + 1 + 1, 0, none⟩)]) rfl trivial (enters_of Tryd.func83 (by kernel_rfl) rfl)
        (parts_stops s ⟨#[59, 32]⟩ (w.heap.size + 1 + 1 + 1 + 1) (w.heap.size + 1 + 1 + 1 + 1 + 1) W0 hz (by decide) (by decide) (by omega) (by omega) hm1 hTs hTp) KpT.trans (KpT.put W0 (by omega) (by omega)) (Below.refl _ _) (fun _ => rfl)
        (PsI w 70) (PsX w) (PsI.own (by omega)) (PsX.own (by omega)) hI0
        (fun x => { tmps := #[.string s, undef, .pointer (some ⟨w.heap.size, 0, none⟩), .pointer (some ⟨w.heap.size + 1, 0, none⟩), .pointer (some ⟨w.heap.size + 1 + 1, 0, none⟩), .pointer (some ⟨w.heap.size + 1 + 1 + 1, 0, none⟩), .int .i64 x.1.1, .string x.1.2, undef, undef, undef, .string s, .int .i64 (s.size : Int), .bool false, .string s, .bool false, .string s, .func (.func 83) #[] #[.pointer (some ⟨w.heap.size + 1 + 1 + 1 + 1, 0, none⟩), .pointer (some ⟨w.heap.size + 1 + 1 + 1 + 1 + 1, 0, none⟩)], .int .i64 x.1.1, .string x.1.2, undef, undef, undef, undef, undef, undef, undef, undef, undef, undef, undef, undef, undef, undef, undef, undef, undef, undef, undef, undef, undef, undef, undef], defers := [] }) ?assign ?body ?done ?stop
      case assign =>
        intro l x W K hK
        have ez : ∀ T : Array Value, (#[18, 19].zip (Sk.pe x)).foldl (fun (t : Array Value) (x : Nat × Value) => t.setIfInBounds x.1 x.2) T = (T.setIfInBounds 18 (.int .i64 x.1.1)).setIfInBounds 19 (.string x.1.2) := fun T => by simp [Sk.pe]
        simp only [ez]
        gi_wp2
        exact hK
      case body =>
        rintro lp pre x W hI -
        obtain ⟨⟨L, v, hrun, hLl, hK, hX⟩, hRa, hRb, hRc, hB, hz6⟩ := hI
        obtain ⟨va, vc, rfl⟩ := hK.form
        have HNx := Lib.hid (PsI.next (x := x) hrun)
        have hpz : x.1.2.size ≤ 4096 := x.2.2.2
        have HPV : Hid (Sk.pv x = (x.1.1, x.1.2.data.toList)) := Lib.hid rfl
        have HK := Lib.hid hK
        have HX := Lib.hid hX
        have HRa := Lib.hid hRa
        have HRb := Lib.hid hRb
        have HRc := Lib.hid hRc
        have HB := Lib.hid hB
        have hd : 1 ≤ 9 - 1 - 1 := by omega
        obtain ⟨i0, hi0, hzi0, hzi1, hzi2⟩ := info_stp
        clear hrun hK hRa hRb hRc hB hI0 hm1 hTs hTp hm0 hX
        generalize x.1.2 = p at *
        generalize x.1.1 = at0 at *
        obtain ⟨q0, q1, q2⟩ := HX.out
        by_cases h64 : L.length = 64
        · have HNo : Hid (∀ rest, Sk.ro ((pre ++ [x]).map Sk.pv ++ rest) [] = ([], at0, 5)) := Lib.hid (fun rest => by rw [HNx.out, Sk.ro_many h64, HPV.out])
          have h64' : ((L.length : Int) == 64) = true := by rw [h64]; rfl
          obtain ⟨c0, c1, c2⟩ := HRa.out
          obtain ⟨d0, d1, d2⟩ := HRb.out
          obtain ⟨e0, e1, e2⟩ := HRc.out
          clear HNx HPV
          gi_wp2
          exact PsX.mk HRa.out HRb.out HRc.out HB.out (Below.refl _ _) HNo.out _
        have h64' : ((L.length : Int) == 64) = false := by rw [beq_eq_false_iff_ne]; omega
        have h64n : (L.length == 64) = false := by rw [beq_eq_false_iff_ne]; omega
        cases hrd : Sk.rdP p.data.toList with
        | none =>
          have HNo : Hid (∀ rest, Sk.ro ((pre ++ [x]).map Sk.pv ++ rest) [] = ([], at0, 4)) := Lib.hid (fun rest => by rw [HNx.out, Sk.ro_form h64 (by rw [HPV.out]; exact hrd), HPV.out])
          have CR := fun V (h : StQ V) => Lib.hid (rdP_no p V h hpz hrd)
          clear HNx HPV hrd
          gi_wp2_with (refine ⟨trivial, ?_⟩; gi_at_call 53; refine (CallsIn.inRound lp (callsIn_wide.2 (CR _ (HST.out.step HB.out)).out)).mono ?_; rintro e W1 ⟨ao, k1, cap, n1, rfl, hb1⟩; have HB1 := Lib.hid hb1; clear CR hb1; have HA1 := Lib.hid (HB1.out.alloc HB1.out.size (.cells #[.slice ao k1 cap, .int .i64 n1] 70)); obtain ⟨c0, c1, c2⟩ := HRa.out.step HA1.out; obtain ⟨d0, d1, d2⟩ := HRb.out.step HA1.out; obtain ⟨e0, e1, e2⟩ := HRc.out.step HA1.out)
          exact PsX.mk HRa.out HRb.out HRc.out HB.out (HB1.out.alloc HB1.out.size _) HNo.out _
        | some y =>
          obtain ⟨l, n⟩ := y
          have CR := fun V (h : StQ V) => Lib.hid (rdP_yes p l n V h hpz hrd)
          have CS := fun v V (h : SeeK V v l) => Lib.hid (sStp_any v l n V h)
          by_cases hch : Sk.chkP l n = 0
          · have HNo : Hid (∀ rest, Sk.ro ((pre ++ [x]).map Sk.pv ++ rest) [] = Sk.ro rest (L ++ [(l, n)])) := Lib.hid (fun rest => by rw [HNx.out, Sk.ro_on h64 (by rw [HPV.out]; exact hrd) hch])
            rw [hch] at CS
            clear HNx HPV hrd hch
            gi_wp2_with first
              | (refine ⟨trivial, ?_⟩; gi_at_call 53; refine (CallsIn.inRound lp (callsIn_wide.2 (CR _ (HST.out.step HB.out)).out)).mono ?_; rintro e W1 ⟨ao, cap, rfl, hs1, hf1, hl1, hb1⟩; have HB1 := Lib.hid hb1; have HS1 := Lib.hid hs1; have HF1 := Lib.hid hf1; have HL1 := Lib.hid (fun r e => Nat.lt_of_lt_of_le (hl1 r e) (show W1.heap.size ≤ W1.heap.size from Nat.le_refl _)); clear CR hb1 hs1 hf1 hl1)
              | (refine ⟨trivial, ?_⟩; gi_at_call 54; refine (CallsIn.inRound lp (callsIn_wide.2 (CS _ _ (HS1.out.step (allocB _ _))).out)).mono ?_; rintro e W2 ⟨rfl, hb2⟩; have HB2 := Lib.hid (below_nxt (HB1.out.alloc HB1.out.size _) hb2); have HS2 := Lib.hid ((HS1.out.step (allocB _ _)).step hb2); have HP2 := Lib.hid ((boxP_new W1 (.slice ao l.length cap) (.int .i64 n) 70).1.step hb2); have HZ2 := Lib.hid (show W1.heap.size ≤ W2.heap.size from (by have := hb2.size; simp at this; omega)); clear CS hb2; obtain ⟨c0, c1, c2⟩ := HRa.out.step HB2.out; obtain ⟨d0, d1, d2⟩ := HRb.out.step HB2.out; obtain ⟨e0, e1, e2⟩ := HRc.out.step HB2.out; obtain ⟨g0, g1, g2⟩ := HX.out.step HB2.out; obtain ⟨p0, p1, p2⟩ := HP2.out; have HK2 := Lib.hid (HK.out.step HB2.out))
              | (gi_at_builtin; refine wpListIn_append_stp rfl _ _ 23 rfl 70 i0 Tryd.underlying23 hi0 hzi0 hzi1 hzi2 _ L l n (.slice ao l.length cap) W2.heap.size rfl rfl (w.heap.size + 6) (HK2.out.step (allocB _ _)) (by simp) (by simp) (HS2.out.step (allocB _ _)) (fun r e => ⟨Nat.le_trans hz6 (HF1.out r e), Nat.lt_of_lt_of_le (HL1.out r e) (by have := HZ2.out; simp; omega), fun e' => (by have := (HK.out.lt r e').2; have := HF1.out r e; omega)⟩) (by omega) (by have := HB2.out.size; simp; omega) ?_; intro a5 p5 w5 hr5 hg5 hb5; have HX5 := Lib.hid (((HX.out.step HB2.out).step (allocB _ _)).grown hg5 (fun r e => by have := (HK2.out.lt r e).1; omega)); have HR5 := Lib.hid hr5; have HG5 := Lib.hid hg5; clear hr5 hg5 hb5; obtain ⟨s0, s1, s2⟩ := HX5.out)
            exact PsI.stp HK.out HRa.out HRb.out HRc.out HX.out HB.out hz6 (HB2.out.alloc HB2.out.size _) HG5.out HR5.out HNo.out (by omega) _
          · have HNo : Hid (∀ rest, Sk.ro ((pre ++ [x]).map Sk.pv ++ rest) [] = ([], at0, Sk.chkP l n)) := Lib.hid (fun rest => by rw [HNx.out, Sk.ro_bad h64 (by rw [HPV.out]; exact hrd) hch, HPV.out])
            have hcht : (Sk.chkP l n == 0) = false := by rw [beq_eq_false_iff_ne]; exact hch
            clear HNx HPV hrd hch
            generalize Sk.chkP l n = cc at *
            gi_wp2_with first
              | (refine ⟨trivial, ?_⟩; gi_at_call 53; refine (CallsIn.inRound lp (callsIn_wide.2 (CR _ (HST.out.step HB.out)).out)).mono ?_; rintro e W1 ⟨ao, cap, rfl, hs1, hf1, hl1, hb1⟩; have HB1 := Lib.hid hb1; have HS1 := Lib.hid hs1; have HF1 := Lib.hid hf1; have HL1 := Lib.hid (fun r e => Nat.lt_of_lt_of_le (hl1 r e) (show W1.heap.size ≤ W1.heap.size from Nat.le_refl _)); clear CR hb1 hs1 hf1 hl1)
              | (refine ⟨trivial, ?_⟩; gi_at_call 54; refine (CallsIn.inRound lp (callsIn_wide.2 (CS _ _ (HS1.out.step (allocB _ _))).out)).mono ?_; rintro e W2 ⟨rfl, hb2⟩; have HB2 := Lib.hid (below_nxt (HB1.out.alloc HB1.out.size _) hb2); have HS2 := Lib.hid ((HS1.out.step (allocB _ _)).step hb2); have HP2 := Lib.hid ((boxP_new W1 (.slice ao l.length cap) (.int .i64 n) 70).1.step hb2); have HZ2 := Lib.hid (show W1.heap.size ≤ W2.heap.size from (by have := hb2.size; simp at this; omega)); clear CS hb2; obtain ⟨c0, c1, c2⟩ := HRa.out.step HB2.out; obtain ⟨d0, d1, d2⟩ := HRb.out.step HB2.out; obtain ⟨e0, e1, e2⟩ := HRc.out.step HB2.out; obtain ⟨g0, g1, g2⟩ := HX.out.step HB2.out; obtain ⟨p0, p1, p2⟩ := HP2.out; have HK2 := Lib.hid (HK.out.step HB2.out))
            exact PsX.mk HRa.out HRb.out HRc.out HB.out HB2.out HNo.out _
      case done =>
        rintro D ys W hD hS ⟨⟨L, u, hrun, hLl, hK, hX⟩, hRa, hRb, hRc, hB, hz6⟩ hK0
        obtain ⟨ua, uc, hu⟩ := hK.form
        have hrd : Sk.ro (Sk.prts s.data.toList [59, 32]) [] = (L, 0, 0) := by
          have := hrun []
          rw [List.append_nil, hS] at this
          exact this
        rw [hrd]
        subst hu
        have hRa0 := hRa
        have hRb0 := hRb
        have hRc0 := hRc
        obtain ⟨q0, q1, q2⟩ := hX
        obtain ⟨c0, c1, c2⟩ := hRa
        obtain ⟨d0, d1, d2⟩ := hRb
        obtain ⟨e0, e1, e2⟩ := hRc
        gi_wp2
        obtain ⟨u, hu⟩ : ∃ u, u = Value.slice ua L.length uc := ⟨_, rfl⟩
        rw [← hu] at hK ⊢
        have hRa' := (((hRa0.set u).other (k := w.heap.size + 1) (o := 0) (by omega) (.int .i64 0)).other (k := w.heap.size + 2) (o := 0) (by omega) (.int .i64 0))
        have hRb' := (((hRb0.other (k := w.heap.size) (o := 0) (by omega) u).set (.int .i64 0)).other (k := w.heap.size + 2) (o := 0) (by omega) (.int .i64 0))
        have hRc' := (((hRc0.other (k := w.heap.size) (o := 0) (by omega) u).other (k := w.heap.size + 1) (o := 0) (by omega) (.int .i64 0)).set (.int .i64 0))
        have hKK := ((hK.set (a := ⟨w.heap.size, 0, none⟩) (by show w.heap.size < w.heap.size + 6; omega) u).set (a := ⟨w.heap.size + 1, 0, none⟩) (by show w.heap.size + 1 < w.heap.size + 6; omega) (.int .i64 0)).set (a := ⟨w.heap.size + 2, 0, none⟩) (by show w.heap.size + 2 < w.heap.size + 6; omega) (.int .i64 0)
        have hBB := ((hB.setCell (p := ⟨w.heap.size, 0, none⟩) (by simp) u).setCell (p := ⟨w.heap.size + 1, 0, none⟩) (by simp) (.int .i64 0)).setCell (p := ⟨w.heap.size + 2, 0, none⟩) (by simp) (.int .i64 0)
        have hK' := (((KeepsOthers.setCell W ⟨w.heap.size, 0, none⟩ u).trans (KeepsOthers.setCell _ ⟨w.heap.size + 1, 0, none⟩ (.int .i64 0))).trans (KeepsOthers.setCell _ ⟨w.heap.size + 2, 0, none⟩ (.int .i64 0))).same D _ hK0 rfl
        generalize ((W.setCell ⟨w.heap.size, 0, none⟩ u).setCell ⟨w.heap.size + 1, 0, none⟩ (.int .i64 0)).setCell ⟨w.heap.size + 2, 0, none⟩ (.int .i64 0) = W' at *
        refine ⟨by simp, .inl ⟨_, _, rfl, run_takeDeferred hK', ?_⟩⟩
        have hg := grownBy_putObj' W' D (.deferred none)
        have hr : ∀ r, some D = some r → ∃ o : Obj, W'.heap[r]? = some o ∧ o.isCells = false := fun r e => by cases e; exact ⟨_, hK', rfl⟩
        obtain ⟨-, f1, -⟩ := hRa'.kept hg hr
        obtain ⟨-, f2, -⟩ := hRb'.kept hg hr
        obtain ⟨-, f3, -⟩ := hRc'.kept hg hr
        have hse := (hKK.kept hg hr).sees
        rw [hu] at f1 hse
        refine ⟨.tuple #[.slice ua L.length uc, .int .i64 0, .int .i64 0], ?_, ⟨ua, uc, rfl, hse, hBB.trans (belowK_b (w := w) (Nat.le_refl _) W' D _ _ (by omega) hK' rfl rfl)⟩⟩
        simp [results, Tryd.f12, go_sem, f1, f2, f3]
      case stop =>
        rintro D c pre W hD ⟨rest, hpre⟩ ⟨rfl, k, m, hno, hRa, hRb, hRc, hB⟩ hK0
        have hrd : Sk.ro (Sk.prts s.data.toList [59, 32]) [] = ([], k, m) := by
          have hpre' : Sk.prts s.data.toList [59, 32] = pre.map Sk.pv ++ rest := hpre
          rw [hpre']; exact hno rest
        rw [hrd]
        gi_wp2
        refine ⟨by simp, .inl ⟨_, _, rfl, run_takeDeferred hK0, ?_⟩⟩
        have hg := grownBy_putObj' W D (.deferred none)
        have hr : ∀ r, some D = some r → ∃ o : Obj, W.heap[r]? = some o ∧ o.isCells = false := fun r e => by cases e; exact ⟨_, hK0, rfl⟩
        obtain ⟨-, f1, -⟩ := hRa.kept hg hr
        obtain ⟨-, f2, -⟩ := hRb.kept hg hr
        obtain ⟨-, f3, -⟩ := hRc.kept hg hr
        refine ⟨.tuple #[.slice none 0 0, .int .i64 k, .int .i64 m], ?_, ⟨none, 0, rfl, SeeT.nil _, hB.trans (belowK_b (w := w) (Nat.le_refl _) W D _ _ (by omega) hK0 rfl rfl)⟩⟩
        simp [results, Tryd.f12, go_sem, f1, f2, f3]
end Go.Proofs.YtjpbccpleflkhaaDoor
