/- Rows of strokes; what readStep reads, as plain facts. -/
import Derived.Test.YtecfbncfhehdcaaDoorQR
namespace Sk
open Go
def encS (x : Str) : List Value := [.int .i64 x.1, .bool x.2]
theorem flat_len (l : List Str) : (l.flatMap encS).length = l.length * 2 := by
  induction l with
  | nil => rfl
  | cons x l ih => simp [ih, encS]; omega
theorem flat_get (l : List Str) (j c : Nat) (hj : j < l.length) (hc : c < 2) : (l.flatMap encS)[j * 2 + c]? = (encS (l.getD j d0))[c]? := by
  induction l generalizing j with
  | nil => simp at hj
  | cons x l ih =>
    rcases Nat.eq_zero_or_pos j with rfl | hp
    · rcases (show c = 0 ∨ c = 1 by omega) with rfl | rfl <;> simp [encS]
    · obtain ⟨i, rfl⟩ : ∃ i, j = i + 1 := ⟨j - 1, by omega⟩
      have := ih i (by simpa using hj)
      rw [List.flatMap_cons, List.getElem?_append_right (by simp [encS]; omega)]
      rw [show (i + 1) * 2 + c - (encS x).length = i * 2 + c by simp [encS]; omega, this]
      simp
/-- One more part. -/
def stp1 (st : List Str × Int) (p : List UInt8) : Option (List Str × Int) :=
  if st.2 ≠ 0 then none else (match rdS p with
    | some y => some (st.1 ++ [y], 0)
    | none => if (wtV p).2 && !st.1.isEmpty then some (st.1, (wtV p).1) else none)
def runP : List (Int × List UInt8) → List Str × Int → Option (List Str × Int)
  | [], st => some st
  | p :: r, st => (stp1 st p.2).bind (runP r)
/-- The step with a text, if it has the form of one. -/
def rdP (l : List UInt8) : Option Stp := runP (prts l [32]) ([], 0)
theorem runP_stop {p : Int × List UInt8} {r : List (Int × List UInt8)} {st : List Str × Int} (h : stp1 st p.2 = none) : runP (p :: r) st = none := by rw [runP, h]; rfl
theorem runP_on {p : Int × List UInt8} {r : List (Int × List UInt8)} {st st' : List Str × Int} (h : stp1 st p.2 = some st') : runP (p :: r) st = runP r st' := by rw [runP, h]; rfl
theorem stp1_wait {l : List Str} {n : Int} (h : n ≠ 0) (p : List UInt8) : stp1 (l, n) p = none := by unfold stp1; rw [if_pos h]
theorem stp1_str {l : List Str} {p : List UInt8} {y : Str} (h : rdS p = some y) : stp1 (l, 0) p = some (l ++ [y], 0) := by unfold stp1; rw [if_neg (by simp), h]
theorem stp1_num {l : List Str} {p : List UInt8} (h : rdS p = none) (h1 : (wtV p).2 = true) (h2 : l.length ≠ 0) : stp1 (l, 0) p = some (l, (wtV p).1) := by
  unfold stp1
  rw [if_neg (by simp), h, h1]
  cases l with
  | nil => exact absurd rfl h2
  | cons x l => rfl
theorem stp1_no {l : List Str} {p : List UInt8} (h : rdS p = none) (h1 : (wtV p).2 = false ∨ l.length = 0) : stp1 (l, 0) p = none := by
  unfold stp1
  rw [if_neg (by simp), h]
  rcases h1 with h1 | h1
  · rw [h1]; rfl
  · have := List.eq_nil_of_length_eq_zero h1
    subst this
    cases (wtV p).2 <;> rfl
theorem wtV_bd (p : List UInt8) : 0 ≤ (wtV p).1 ∧ (wtV p).1 < 10000000 ∧ ((wtV p).2 = true → (wtV p).1 ≠ 0) ∧ ((wtV p).2 = false → (wtV p).1 = 0) := by
  unfold wtV
  by_cases h : (Tm.numOk p && decide (Fr.dv p ≠ 0)) = true
  · rw [if_pos h]
    rw [Bool.and_eq_true, decide_eq_true_iff] at h
    have := Tm.numOk_lt h.1
    exact ⟨by simp, by simp; omega, by simp; exact h.2, by simp⟩
  · rw [if_neg h]; simp
end Sk
namespace Go.Proofs.YtecfbncfhehdcaaDoor
open Go.RowKit
theorem addr_add (g t : Nat) : (⟨g, 0, none⟩ : Addr).add t = ⟨g, t, none⟩ := by unfold Addr.add; split <;> simp_all
/-- A row of strokes that is the call's own. -/
def RowK (B : Nat) (e : TypeId) (w : World) (v : Value) (l : List Sk.Str) : Prop := w.ownsRow B e 2 v l.length (l.flatMap Sk.encS)
theorem RowK.below {B : Nat} {e : TypeId} {w w' : World} {v : Value} {l : List Sk.Str} (h : RowK B e w v l) {C : Nat} (hb : Below C w w') (hC : w.heap.size ≤ C) : RowK B e w' v l := by
  rcases h with ⟨h0, h | ⟨g, cap, cur, h', h1, h2, h3⟩⟩
  · exact ⟨h0, .inl h⟩
  · exact ⟨h0, .inr ⟨g, cap, cur, h', h1, by rw [hb.block g (Nat.lt_of_lt_of_le (Array.getElem?_eq_some_iff.1 h2).1 hC)]; exact h2, h3⟩⟩
theorem RowK.step {B : Nat} {e : TypeId} {w w' : World} {v : Value} {l : List Sk.Str} (h : RowK B e w v l) (hb : Below w.heap.size w w') : RowK B e w' v l := h.below hb (Nat.le_refl _)
theorem RowK.nil (B : Nat) (e : TypeId) (w : World) : RowK B e w (.slice none 0 0) [] := World.ownsRow_nil _ _ _ _
theorem RowK.form {B : Nat} {e : TypeId} {w : World} {v : Value} {l : List Sk.Str} (h : RowK B e w v l) : ∃ ao cap, v = .slice ao l.length cap := by
  rcases h.2 with ⟨rfl, h0⟩ | ⟨g, cap, cur, rfl, _⟩
  · exact ⟨none, 0, by rw [h0]⟩
  · exact ⟨_, _, rfl⟩
theorem RowK.sees {B : Nat} {e : TypeId} {w : World} {v : Value} {l : List Sk.Str} (h : RowK B e w v l) : SeeK w v l := by
  have hc := fun g hg => World.ownsRow.cells h (g := g) hg
  have hlt := World.ownsRow.lt h
  rcases h with ⟨h0, ⟨rfl, h2⟩ | ⟨g, cap, cur, rfl, h1, h2, h3, h4, h5⟩⟩
  · have := List.eq_nil_of_length_eq_zero h2
    subst this
    exact SeeK.nil w
  · have hk := hc g rfl
    refine ⟨_, cap, rfl, h3, by unfold maxLen at h4; omega, fun _ => ⟨g, 0, rfl, (hlt g rfl).2, fun i hi => ⟨?_, ?_⟩⟩⟩
    · have := hk (i * 2) (.int .i64 (l.getD i Sk.d0).1) ((Sk.flat_get l i 0 hi (by omega)).trans rfl)
      rw [addr_add] at this
      rw [Nat.zero_add]; exact this
    · have := hk (i * 2 + 1) (.bool (l.getD i Sk.d0).2) ((Sk.flat_get l i 1 hi (by omega)).trans rfl)
      rw [addr_add] at this
      rw [Nat.zero_add]; exact this
theorem RowK.kept {B : Nat} {e : TypeId} {w w' : World} {v : Value} {l : List Sk.Str} {row : Option Nat} (h : RowK B e w v l) (hg : w.grownBy w' row) (hr : ∀ r, row = some r → ∃ o : Obj, w.heap[r]? = some o ∧ o.isCells = false) : RowK B e w' v l := by
  refine World.ownsRow.kept h hg ?_
  cases hv : v.ownBlock with
  | none => exact .inl rfl
  | some g =>
    refine .inr fun e' => ?_
    obtain ⟨o, ho, hc⟩ := hr g e'.symm
    rcases h.2 with ⟨rfl, -⟩ | ⟨g', cap, cur, rfl, h1, h2, -⟩
    · cases hv
    · have : g' = g := by simpa [Value.ownBlock] using hv
      subst this
      rw [h2] at ho
      cases ho
      cases hc
theorem RowK.set {B : Nat} {e : TypeId} {w : World} {v : Value} {l : List Sk.Str} (h : RowK B e w v l) {a : Addr} (ha : a.block < B) (u : Value) : RowK B e (w.setCell a u) v l := by
  refine World.ownsRow.kept h (row := some a.block) ⟨rfl, rfl, rfl, by simp [World.setCell], fun k _ hk => Below.heap_setCell _ _ _ _ (fun e => hk (by rw [e]))⟩ ?_
  cases hv : v.ownBlock with
  | none => exact .inl rfl
  | some g => exact .inr fun e' => by have := (World.ownsRow.lt h g hv).1; simp at e'; omega
/-- 'append' of a stroke to a slice of the call's own. -/
theorem wpListIn_append_str {F : Fence} {n : Nat} {P : Program} {w : World} {ops : Array Oper} {rest : List Oper} {o : Oper} {a : Act} {Q : Exit → Act → World → Prop} (hgd : o.guard = none) (s x : Operand) (t : TypeId)
    (ho : o.op = .call { callee := .builtin .append, args := #[s, x], argTypes := #[t, t] })
    (e : TypeId) (i : TypeInfo) (ht : P.underlying t = some (.slice e)) (hi : P.info? e = some i) (hz : i.zero = some (.agg #[.int .i64 0, .bool false])) (hsize : i.size = 2) (hby : i.bytes = 16)
    (v : Value) (l : List Sk.Str) (y : Sk.Str) (g : Nat) (hs : a.eval s = v) (hx : a.eval x = .slice (some ⟨g, 0, none⟩) 1 1) (B : Nat) (hown : RowK B e w v l)
    (h0 : w.cell? ⟨g, 0, none⟩ = some (.int .i64 y.1)) (h1 : w.cell? ⟨g, 1, none⟩ = some (.bool y.2)) (hlen : l.length ≤ 1048576) (hB : B ≤ w.heap.size)
    (h : ∀ ao' cap' w', RowK B e w' (.slice ao' (l.length + 1) cap') (l ++ [y]) → w.grownBy w' v.ownBlock → Below B w w' → wpListIn F n P ops Q rest (a.put o.dst (.slice ao' (l.length + 1) cap')) w') : wpListIn F n P ops Q (o :: rest) a w := by
  refine wpListIn_append_own w hgd s x t ho B e i (.agg #[.int .i64 0, .bool false]) 2 16 ht hi hz hsize hby rfl (by omega) v l.length _ hs hown ⟨g, 0, none⟩ 1 1 [.int .i64 y.1, .bool y.2] hx (by simp) ?_ ?_ (by unfold maxLen; omega) ?_ hB ?_
  · intro j u hj
    rw [addr_add]
    rcases j with _ | _ | j
    · simp at hj; subst hj; exact h0
    · simp at hj; subst hj; exact h1
    · simp at hj
  · simp [Value.oneCell']
  · omega
  · intro v' w' r1 r2 r3
    have hr : RowK B e w' v' (l ++ [y]) := by
      unfold RowK
      rw [List.length_append, List.flatMap_append]
      exact r1
    obtain ⟨ao', cap', rfl⟩ : ∃ ao' cap', v' = .slice ao' (l.length + 1) cap' := by
      rcases r1.2 with ⟨_, h⟩ | ⟨g, cap, cur, rfl, _⟩
      · omega
      · exact ⟨_, _, rfl⟩
    exact h _ _ _ hr r2 ((Below.refl _ _).grown r2 hB (fun g hg => (World.ownsRow.lt hown g hg).1))
theorem info_str2 : ∃ i : TypeInfo, Tryd.prog.info? 47 = some i ∧ i.zero = some (.agg #[.int .i64 0, .bool false]) ∧ i.size = 2 ∧ i.bytes = 16 := by
  have h : (Tryd.prog.info? 47).map (fun i => (i.zero, i.size, i.bytes)) = some (some (.agg #[.int .i64 0, .bool false]), 2, 16) := by kernel_rfl
  obtain ⟨i, h1, h2⟩ := Option.map_eq_some_iff.1 h
  simp only [Prod.mk.injEq] at h2
  exact ⟨i, h1, h2⟩
end Go.Proofs.YtecfbncfhehdcaaDoor

