/- Rows of steps; what Parse reads, as plain facts. -/
import Derived.Test.YtecfbncfhehdcaaDoorQU
namespace Sk
open Go
/-- The steps of the parts, or the offset and the error. -/
def ro : List (Int × List UInt8) → List Stp → List Stp × Int × Int
  | [], L => (L, 0, 0)
  | p :: r, L => if L.length = 64 then ([], p.1, 5) else (match rdP p.2 with
    | none => ([], p.1, 4)
    | some y => if chkP y.1 y.2 = 0 then ro r (L ++ [y]) else ([], p.1, chkP y.1 y.2))
/-- What Parse answers. -/
def parV (l : List UInt8) : List Stp × Int × Int := if 4096 < l.length then ([], 0, 17) else (if l.length = 0 then ([], 0, 0) else ro (prts l [59, 32]) [])
theorem ro_many {p : Int × List UInt8} {r : List (Int × List UInt8)} {L : List Stp} (h : L.length = 64) : ro (p :: r) L = ([], p.1, 5) := by rw [ro, if_pos h]
theorem ro_form {p : Int × List UInt8} {r : List (Int × List UInt8)} {L : List Stp} (h : L.length ≠ 64) (h1 : rdP p.2 = none) : ro (p :: r) L = ([], p.1, 4) := by rw [ro, if_neg h, h1]
theorem ro_bad {p : Int × List UInt8} {r : List (Int × List UInt8)} {L : List Stp} {y : Stp} (h : L.length ≠ 64) (h1 : rdP p.2 = some y) (h2 : chkP y.1 y.2 ≠ 0) : ro (p :: r) L = ([], p.1, chkP y.1 y.2) := by rw [ro, if_neg h, h1]; exact if_neg h2
theorem ro_on {p : Int × List UInt8} {r : List (Int × List UInt8)} {L : List Stp} {y : Stp} (h : L.length ≠ 64) (h1 : rdP p.2 = some y) (h2 : chkP y.1 y.2 = 0) : ro (p :: r) L = ro r (L ++ [y]) := by rw [ro, if_neg h, h1]; exact if_pos h2
end Sk
namespace Go.Proofs.YtecfbncfhehdcaaDoor
open Go.RowKit
/-- A slice's block is as it was. -/
theorem SeeK.same {W W' : World} {u : Value} {l : List Sk.Str} (h : SeeK W u l) (hz : W.heap.size ≤ W'.heap.size) (hb : ∀ r, u.ownBlock = some r → r < W.heap.size → W'.heap[r]? = W.heap[r]?) : SeeK W' u l := by
  obtain ⟨ao, cap, rfl, h1, h2, h3⟩ := h
  refine ⟨ao, cap, rfl, h1, h2, fun hl => ?_⟩
  obtain ⟨g, off, rfl, hg, h4⟩ := h3 hl
  have hk := hb g rfl hg
  exact ⟨g, off, rfl, Nat.lt_of_lt_of_le hg hz, fun i hi => ⟨(World.cell?_of_block (w := W) hk).trans (h4 i hi).1, (World.cell?_of_block (w := W) hk).trans (h4 i hi).2⟩⟩
theorem SeeK.kept {W W' : World} {u : Value} {l : List Sk.Str} {row : Option Nat} (h : SeeK W u l) (hg : W.grownBy W' row) (hr : ∀ r, row = some r → ∃ o : Obj, W.heap[r]? = some o ∧ o.isCells = false) : SeeK W' u l := by
  obtain ⟨ao, cap, rfl, h1, h2, h3⟩ := h
  refine ⟨ao, cap, rfl, h1, h2, fun hl => ?_⟩
  obtain ⟨g, off, rfl, hg', h4⟩ := h3 hl
  exact ⟨g, off, rfl, Nat.lt_of_lt_of_le hg' hg.size, fun i hi => ⟨cell_kept (h4 i hi).1 hg hr, cell_kept (h4 i hi).2 hg hr⟩⟩
theorem getD_left {α : Type} (l : List α) (x d : α) {i : Nat} (h : i < l.length) : (l ++ [x]).getD i d = l.getD i d := by simp [List.getD, List.getElem?_append_left h]
theorem getD_end {α : Type} (l : List α) (x d : α) {i : Nat} (h : i = l.length) : (l ++ [x]).getD i d = x := by subst h; simp [List.getD]
def encT (p : Value × Int) : List Value := [p.1, .int .i64 p.2]
def p0 : Value × Int := (.slice none 0 0, 0)
theorem flatT_len (l : List (Value × Int)) : (l.flatMap encT).length = l.length * 2 := by
  induction l with
  | nil => rfl
  | cons x l ih => simp [ih, encT]; omega
theorem flatT_get (l : List (Value × Int)) (j c : Nat) (hj : j < l.length) (hc : c < 2) : (l.flatMap encT)[j * 2 + c]? = (encT (l.getD j p0))[c]? := by
  induction l generalizing j with
  | nil => simp at hj
  | cons x l ih =>
    rcases Nat.eq_zero_or_pos j with rfl | hp
    · rcases (show c = 0 ∨ c = 1 by omega) with rfl | rfl <;> simp [encT]
    · obtain ⟨i, rfl⟩ : ∃ i, j = i + 1 := ⟨j - 1, by omega⟩
      have := ih i (by simpa using hj)
      rw [List.flatMap_cons, List.getElem?_append_right (by simp [encT]; omega)]
      rw [show (i + 1) * 2 + c - (encT x).length = i * 2 + c by simp [encT]; omega, this]
      simp
/-- What the cells of a row of steps hold. -/
def HoldT (B : Nat) (w : World) (v : Value) (ps : List (Value × Int)) (L : List Sk.Stp) : Prop :=
  ps.length = L.length ∧ ∀ i, i < L.length → SeeK w (ps.getD i p0).1 (L.getD i Sk.t0).1 ∧ (ps.getD i p0).2 = (L.getD i Sk.t0).2 ∧ ∀ r, (ps.getD i p0).1.ownBlock = some r → B ≤ r ∧ r < w.heap.size ∧ v.ownBlock ≠ some r
/-- A row of steps that is the call's own. -/
def RowT (B : Nat) (e : TypeId) (w : World) (v : Value) (L : List Sk.Stp) : Prop := ∃ ps, w.ownsRow B e 2 v L.length (ps.flatMap encT) ∧ HoldT B w v ps L
theorem HoldT.same {B : Nat} {W W' : World} {v : Value} {ps : List (Value × Int)} {L : List Sk.Stp} (h : HoldT B W v ps L) (hz : W.heap.size ≤ W'.heap.size) (hb : ∀ r, B ≤ r → r < W.heap.size → v.ownBlock ≠ some r → W'.heap[r]? = W.heap[r]?) : HoldT B W' v ps L :=
  ⟨h.1, fun i hi => by
    obtain ⟨h1, h2, h3⟩ := h.2 i hi
    exact ⟨h1.same hz (fun r e _ => hb r (h3 r e).1 (h3 r e).2.1 (h3 r e).2.2), h2, fun r e => ⟨(h3 r e).1, Nat.lt_of_lt_of_le (h3 r e).2.1 hz, (h3 r e).2.2⟩⟩⟩
theorem RowT.step {B : Nat} {e : TypeId} {w w' : World} {v : Value} {L : List Sk.Stp} (h : RowT B e w v L) (hb : Below w.heap.size w w') : RowT B e w' v L := by
  obtain ⟨ps, h1, h2⟩ := h
  refine ⟨ps, ?_, h2.same hb.size (fun r _ hr _ => hb.block r hr)⟩
  rcases h1 with ⟨h0, h | ⟨g, cap, cur, h', h1, h2, h3⟩⟩
  · exact ⟨h0, .inl h⟩
  · exact ⟨h0, .inr ⟨g, cap, cur, h', h1, by rw [hb.block g (Array.getElem?_eq_some_iff.1 h2).1]; exact h2, h3⟩⟩
theorem RowT.nil (B : Nat) (e : TypeId) (w : World) : RowT B e w (.slice none 0 0) [] := ⟨[], World.ownsRow_nil _ _ _ _, rfl, fun i hi => by simp at hi⟩
theorem RowT.form {B : Nat} {e : TypeId} {w : World} {v : Value} {L : List Sk.Stp} (h : RowT B e w v L) : ∃ ao cap, v = .slice ao L.length cap := by
  obtain ⟨ps, h, -⟩ := h
  rcases h.2 with ⟨rfl, h0⟩ | ⟨g, cap, cur, rfl, _⟩
  · exact ⟨none, 0, by rw [h0]⟩
  · exact ⟨_, _, rfl⟩
theorem RowT.lt {B : Nat} {e : TypeId} {w : World} {v : Value} {L : List Sk.Stp} (h : RowT B e w v L) : ∀ r, v.ownBlock = some r → B ≤ r ∧ r < w.heap.size := by
  obtain ⟨ps, h, -⟩ := h
  exact World.ownsRow.lt h
theorem RowT.sees {B : Nat} {e : TypeId} {w : World} {v : Value} {L : List Sk.Stp} (h : RowT B e w v L) : SeeT w v L := by
  obtain ⟨ps, h, hl, hp⟩ := h
  have hc := fun g hg => World.ownsRow.cells h (g := g) hg
  have hlt := World.ownsRow.lt h
  rcases h with ⟨h0, ⟨rfl, h2⟩ | ⟨g, cap, cur, rfl, h1, h2, h3, h4, h5⟩⟩
  · have := List.eq_nil_of_length_eq_zero h2
    subst this
    exact SeeT.nil w
  · have hk := hc g rfl
    refine ⟨_, cap, rfl, h3, by unfold maxLen at h4; omega, fun _ => ⟨g, 0, rfl, (hlt g rfl).2, fun i hi => ⟨⟨_, ?_, (hp i hi).1⟩, ?_⟩⟩⟩
    · have := hk (i * 2) (ps.getD i p0).1 ((flatT_get ps i 0 (by omega) (by omega)).trans rfl)
      rw [addr_add] at this
      rw [Nat.zero_add]; exact this
    · have := hk (i * 2 + 1) (.int .i64 (ps.getD i p0).2) ((flatT_get ps i 1 (by omega) (by omega)).trans rfl)
      rw [addr_add] at this
      rw [Nat.zero_add, ← (hp i hi).2.1]; exact this
theorem RowT.kept {B : Nat} {e : TypeId} {w w' : World} {v : Value} {L : List Sk.Stp} {row : Option Nat} (h : RowT B e w v L) (hg : w.grownBy w' row) (hr : ∀ r, row = some r → ∃ o : Obj, w.heap[r]? = some o ∧ o.isCells = false) : RowT B e w' v L := by
  obtain ⟨ps, h, hl, hp⟩ := h
  refine ⟨ps, World.ownsRow.kept h hg ?_, hl, fun i hi => ⟨(hp i hi).1.kept hg hr, (hp i hi).2.1, fun r e => ⟨((hp i hi).2.2 r e).1, Nat.lt_of_lt_of_le ((hp i hi).2.2 r e).2.1 hg.size, ((hp i hi).2.2 r e).2.2⟩⟩⟩
  cases hv : v.ownBlock with
  | none => exact .inl rfl
  | some g =>
    refine .inr fun e' => ?_
    obtain ⟨o, ho, hc⟩ := hr g e'.symm
    rcases h.2 with ⟨rfl, -⟩ | ⟨g', cap, cur, rfl, h1, h2, -⟩
    · cases hv
    · have : g' = g := by simpa [Value.ownBlock] using hv
      subst this
      rw [h2] at ho
      cases ho
      cases hc
theorem RowT.set {B : Nat} {e : TypeId} {w : World} {v : Value} {L : List Sk.Stp} (h : RowT B e w v L) {a : Addr} (ha : a.block < B) (u : Value) : RowT B e (w.setCell a u) v L := by
  obtain ⟨ps, h, hh⟩ := h
  refine ⟨ps, World.ownsRow.kept h (row := some a.block) ⟨rfl, rfl, rfl, by simp [World.setCell], fun k _ hk => Below.heap_setCell _ _ _ _ (fun e => hk (by rw [e]))⟩ ?_, hh.same (by simp [World.setCell]) (fun r hr _ _ => Below.heap_setCell _ _ _ _ (by omega))⟩
  cases hv : v.ownBlock with
  | none => exact .inl rfl
  | some g => exact .inr fun e' => by have := (World.ownsRow.lt h g hv).1; simp at e'; omega
theorem keeps_rowT {B : Nat} {e : TypeId} {W W' : World} {v : Value} {L : List Sk.Stp} (h : RowT B e W v L) (hg : W.grownBy W' v.ownBlock) : KeepsOthers W W' := KeepsOthers.of_grownBy hg (fun j o e' ho => by
  obtain ⟨ps, h, -⟩ := h
  rcases h.2 with ⟨rfl, -⟩ | ⟨g', cap, cur, rfl, h1, h2, -⟩
  · cases e'
  · have : g' = j := by simpa [Value.ownBlock] using e'
    subst this
    rw [h2] at ho; cases ho; rfl)
/-- 'append' of a step to a slice of the call's own. -/
theorem wpListIn_append_stp {F : Fence} {n : Nat} {P : Program} {w : World} {ops : Array Oper} {rest : List Oper} {o : Oper} {a : Act} {Q : Exit → Act → World → Prop} (hgd : o.guard = none) (s x : Operand) (t : TypeId)
    (ho : o.op = .call { callee := .builtin .append, args := #[s, x], argTypes := #[t, t] })
    (e : TypeId) (i : TypeInfo) (ht : P.underlying t = some (.slice e)) (hi : P.info? e = some i) (hz : i.zero = some (.agg #[.slice none 0 0, .int .i64 0])) (hsize : i.size = 2) (hby : i.bytes = 32)
    (v : Value) (L : List Sk.Stp) (l : List Sk.Str) (m : Int) (u : Value) (g : Nat) (hs : a.eval s = v) (hx : a.eval x = .slice (some ⟨g, 0, none⟩) 1 1) (B : Nat) (hown : RowT B e w v L)
    (h0 : w.cell? ⟨g, 0, none⟩ = some u) (h1 : w.cell? ⟨g, 1, none⟩ = some (.int .i64 m)) (hu : SeeK w u l) (hf : ∀ r, u.ownBlock = some r → B ≤ r ∧ r < w.heap.size ∧ v.ownBlock ≠ some r) (hlen : L.length ≤ 1048576) (hB : B ≤ w.heap.size)
    (h : ∀ ao' cap' w', RowT B e w' (.slice ao' (L.length + 1) cap') (L ++ [(l, m)]) → w.grownBy w' v.ownBlock → Below B w w' → wpListIn F n P ops Q rest (a.put o.dst (.slice ao' (L.length + 1) cap')) w') : wpListIn F n P ops Q (o :: rest) a w := by
  obtain ⟨ps, hown, hl, hp⟩ := hown
  refine wpListIn_append_own_at w hgd s x t ho B e i (.agg #[.slice none 0 0, .int .i64 0]) 2 32 ht hi hz hsize hby rfl (by omega) v L.length _ hs hown ⟨g, 0, none⟩ 1 1 [u, .int .i64 m] hx (by simp) ?_ ?_ (by unfold maxLen; omega) ?_ hB ?_
  · intro j u' hj
    rw [addr_add]
    rcases j with _ | _ | j
    · simp at hj; subst hj; exact h0
    · simp at hj; subst hj; exact h1
    · simp at hj
  · obtain ⟨ao, cap, rfl, -⟩ := hu
    simp [Value.oneCell']
  · omega
  · intro v' w' r1 r2 r3 r4
    have hk : ∀ u l, SeeK w u l → (∀ r, u.ownBlock = some r → B ≤ r ∧ r < w.heap.size ∧ v.ownBlock ≠ some r) → SeeK w' u l ∧ ∀ r, u.ownBlock = some r → B ≤ r ∧ r < w'.heap.size ∧ v'.ownBlock ≠ some r := fun u l hs hf =>
      ⟨hs.same r2.size (fun r e hr => r2.block r hr (fun e' => (hf r e).2.2 e'.symm)), fun r e => ⟨(hf r e).1, Nat.lt_of_lt_of_le (hf r e).2.1 r2.size, fun e' => by
        rcases r4 with r4 | r4
        · exact (hf r e).2.2 (r4 ▸ e')
        · rw [r4] at e'; have := (hf r e).2.1; simp at e'; omega⟩⟩
    have hr : RowT B e w' v' (L ++ [(l, m)]) := by
      refine ⟨ps ++ [(u, m)], ?_, by simp [hl], fun i hi => ?_⟩
      · rw [List.length_append, List.flatMap_append]
        exact r1
      · by_cases hi' : i < L.length
        · obtain ⟨a1, a2, a3⟩ := hp i hi'
          rw [getD_left _ _ _ (by omega), getD_left _ _ _ hi']
          obtain ⟨b1, b2⟩ := hk _ _ a1 a3
          exact ⟨b1, a2, b2⟩
        · have : i = L.length := by simp at hi; omega
          subst this
          rw [getD_end _ _ _ (by omega), getD_end _ _ _ rfl]
          obtain ⟨b1, b2⟩ := hk u l hu hf
          exact ⟨b1, rfl, b2⟩
    obtain ⟨ao', cap', rfl⟩ : ∃ ao' cap', v' = .slice ao' (L.length + 1) cap' := by
      rcases r1.2 with ⟨_, h⟩ | ⟨g, cap, cur, rfl, _⟩
      · omega
      · exact ⟨_, _, rfl⟩
    exact h _ _ _ hr r2 ((Below.refl _ _).grown r2 hB (fun g hg => (World.ownsRow.lt hown g hg).1))
theorem info_stp : ∃ i : TypeInfo, Tryd.prog.info? 70 = some i ∧ i.zero = some (.agg #[.slice none 0 0, .int .i64 0]) ∧ i.size = 2 ∧ i.bytes = 32 := by
  have h : (Tryd.prog.info? 70).map (fun i => (i.zero, i.size, i.bytes)) = some (some (.agg #[.slice none 0 0, .int .i64 0]), 2, 32) := by kernel_rfl
  obtain ⟨i, h1, h2⟩ := Option.map_eq_some_iff.1 h
  simp only [Prod.mk.injEq] at h2
  exact ⟨i, h1, h2⟩
/-- Between two rounds of Parse. -/
def PsI (w : World) (T : TypeId) (pre : List Sk.Prt) (W : World) : Prop :=
  (∃ (L : List Sk.Stp) (v : Value), (∀ rest, Sk.ro (pre.map Sk.pv ++ rest) [] = Sk.ro rest L) ∧ L.length ≤ 64 ∧ RowT (w.heap.size + 6) T W v L ∧ BoxW W (w.heap.size + 3) v) ∧ BoxW W w.heap.size (.slice none 0 0) ∧ BoxW W (w.heap.size + 1) (.int .i64 0) ∧ BoxW W (w.heap.size + 2) (.int .i64 0) ∧ Below w.heap.size w W ∧ w.heap.size + 6 ≤ W.heap.size
/-- When a round has left. -/
def PsX (w : World) (c : Code) (pre : List Sk.Prt) (W : World) : Prop :=
  c = .ret ∧ ∃ k m : Int, (∀ rest, Sk.ro (pre.map Sk.pv ++ rest) [] = ([], k, m)) ∧ BoxW W w.heap.size (.slice none 0 0) ∧ BoxW W (w.heap.size + 1) (.int .i64 k) ∧ BoxW W (w.heap.size + 2) (.int .i64 m) ∧ Below w.heap.size w W
theorem PsI.own {w : World} {T : TypeId} {B : Nat} (hB : w.heap.size ≤ B) : OwnFrom B (PsI w T) := by
  rintro pre W W' row ⟨⟨L, v, h1, h2, h5, h6⟩, h7, h8, h8', h9, h10⟩ hg hr
  have hr2 := fun r e => (hr r e).2
  exact ⟨⟨L, v, h1, h2, h5.kept hg hr2, h6.kept hg hr2⟩, h7.kept hg hr2, h8.kept hg hr2, h8'.kept hg hr2, h9.grown hg h9.size (fun r e => Nat.le_trans hB (hr r e).1), Nat.le_trans h10 hg.size⟩
theorem PsX.own {w : World} {B : Nat} (hB : w.heap.size ≤ B) (c : Code) : OwnFrom B (PsX w c) := by
  rintro pre W W' row ⟨h0, k, m, h1, h7, h8, h8', h9⟩ hg hr
  have hr2 := fun r e => (hr r e).2
  exact ⟨h0, k, m, h1, h7.kept hg hr2, h8.kept hg hr2, h8'.kept hg hr2, h9.grown hg h9.size (fun r e => Nat.le_trans hB (hr r e).1)⟩
theorem PsI.next {pre : List Sk.Prt} {x : Sk.Prt} {L : List Sk.Stp} (h : ∀ rest, Sk.ro (pre.map Sk.pv ++ rest) [] = Sk.ro rest L) (rest : List (Int × List UInt8)) : Sk.ro ((pre ++ [x]).map Sk.pv ++ rest) [] = Sk.ro (Sk.pv x :: rest) L := by
  rw [List.map_append, List.append_assoc, h]; rfl
/-- A round that has read a step. -/
theorem PsI.stp {w W W2 w5 : World} {T : TypeId} {v v5 : Value} {L : List Sk.Stp} {y : Sk.Stp} {pre' : List Sk.Prt} (hK : RowT (w.heap.size + 6) T W v L) (hRa : BoxW W w.heap.size (.slice none 0 0)) (hRb : BoxW W (w.heap.size + 1) (.int .i64 0)) (hRc : BoxW W (w.heap.size + 2) (.int .i64 0)) (hX : BoxW W (w.heap.size + 3) v) (hB : Below w.heap.size w W) (hz : w.heap.size + 6 ≤ W.heap.size)
    (hb : Below W.heap.size W W2) (hg : W2.grownBy w5 v.ownBlock) (hr : RowT (w.heap.size + 6) T w5 v5 (L ++ [y])) (hn : ∀ rest, Sk.ro (pre'.map Sk.pv ++ rest) [] = Sk.ro rest (L ++ [y])) (hl : L.length + 1 ≤ 64) (B : Nat) :
    KeepsFrom B W (w5.setCell ⟨w.heap.size + 3, 0, none⟩ v5) ∧ KpT (w.heap.size + 4) (w.heap.size + 5) W (w5.setCell ⟨w.heap.size + 3, 0, none⟩ v5) ∧ PsI w T pre' (w5.setCell ⟨w.heap.size + 3, 0, none⟩ v5) := by
  have hK2 := hK.step hb
  have hrow : ∀ r, v.ownBlock = some r → w.heap.size + 6 ≤ r := fun r e => (hK2.lt r e).1
  have hs2 := hb.size
  have hs5 := hg.size
  refine ⟨(((keeps_below hb).trans (keeps_rowT hK2 hg)).trans (KeepsOthers.setCell _ _ _)).from B, ((KpT.below hb (by omega) (by omega)).trans (KpT.grown hg (by omega) (by omega) (fun r e => by have := hrow r e; omega))).trans (KpT.setc _ (by simp) _), ⟨L ++ [y], v5, hn, by simpa using hl, hr.set (by show w.heap.size + 3 < w.heap.size + 6; omega) _, ((hX.step hb).grown hg (fun r e => by have := hrow r e; omega)).set _⟩, ?_, ?_, ?_, ?_, ?_⟩
  · exact ((hRa.step hb).grown hg (fun r e => by have := hrow r e; omega)).other (by omega) _
  · exact ((hRb.step hb).grown hg (fun r e => by have := hrow r e; omega)).other (by omega) _
  · exact ((hRc.step hb).grown hg (fun r e => by have := hrow r e; omega)).other (by omega) _
  · exact ((below_nxt hB hb).grown hg (by omega) (fun r e => by have := hrow r e; omega)).setCell (p := ⟨w.heap.size + 3, 0, none⟩) (by simp) _
  · simp; omega
/-- A round that leaves. -/
theorem PsX.mk {w W W2 : World} {pre' : List Sk.Prt} {k m : Int} (hRa : BoxW W w.heap.size (.slice none 0 0)) (hRb : BoxW W (w.heap.size + 1) (.int .i64 0)) (hRc : BoxW W (w.heap.size + 2) (.int .i64 0)) (hB : Below w.heap.size w W) (hb : Below W.heap.size W W2) (hn : ∀ rest, Sk.ro (pre'.map Sk.pv ++ rest) [] = ([], k, m)) (B : Nat) :
    KeepsFrom B W (((W2.setCell ⟨w.heap.size, 0, none⟩ (.slice none 0 0)).setCell ⟨w.heap.size + 1, 0, none⟩ (.int .i64 k)).setCell ⟨w.heap.size + 2, 0, none⟩ (.int .i64 m)) ∧ PsX w .ret pre' (((W2.setCell ⟨w.heap.size, 0, none⟩ (.slice none 0 0)).setCell ⟨w.heap.size + 1, 0, none⟩ (.int .i64 k)).setCell ⟨w.heap.size + 2, 0, none⟩ (.int .i64 m)) :=
  ⟨((((keeps_below hb).trans (KeepsOthers.setCell _ _ _)).trans (KeepsOthers.setCell _ _ _)).trans (KeepsOthers.setCell _ _ _)).from B, rfl, k, m, hn, ((((hRa.step hb).set _).other (by omega) _).other (by omega) _), ((((hRb.step hb).other (by omega) _).set _).other (by omega) _), ((((hRc.step hb).other (by omega) _).other (by omega) _).set _),
    (((below_nxt hB hb).setCell (p := ⟨w.heap.size, 0, none⟩) (by simp) _).setCell (p := ⟨w.heap.size + 1, 0, none⟩) (by simp) _).setCell (p := ⟨w.heap.size + 2, 0, none⟩) (by simp) _⟩
theorem rdP_yes (p : ByteArray) (l : List Sk.Str) (n : Int) (W : World) (hst : StQ W) (hz : p.size ≤ 4096) (h : Sk.rdP p.data.toList = some (l, n)) : Calls Tryd.prog 53 #[.string p] W fun e w' => ∃ ao cap, e = .returned (.tuple #[.agg #[.slice ao l.length cap, .int .i64 n], .bool true]) ∧ SeeK w' (.slice ao l.length cap) l ∧ (∀ r, (Value.slice ao l.length cap).ownBlock = some r → W.heap.size ≤ r) ∧ (∀ r, (Value.slice ao l.length cap).ownBlock = some r → r < w'.heap.size) ∧ Below W.heap.size W w' :=
  (sRdP_any p W hst hz).mono (by
    rintro e w' ⟨v, m, L, rfl, hs, hy, hf, hl, hb⟩
    have := hy _ h
    cases this
    obtain ⟨ao, cap, rfl, -⟩ := id hs
    exact ⟨ao, cap, by rw [h]; rfl, hs, hf, hl, hb⟩)
theorem rdP_no (p : ByteArray) (W : World) (hst : StQ W) (hz : p.size ≤ 4096) (h : Sk.rdP p.data.toList = none) : Calls Tryd.prog 53 #[.string p] W fun e w' => ∃ ao k cap n, e = .returned (.tuple #[.agg #[.slice ao k cap, .int .i64 n], .bool false]) ∧ Below W.heap.size W w' :=
  (sRdP_any p W hst hz).mono (by
    rintro e w' ⟨v, m, L, rfl, hs, hy, hf, hl, hb⟩
    obtain ⟨ao, cap, rfl, -⟩ := id hs
    exact ⟨ao, _, cap, m, by rw [h]; rfl, hb⟩)
/-- What Parse leaves. -/
def ParP (q : List Sk.Stp × Int × Int) (w : World) (e : Ending) (w' : World) : Prop := ∃ ao cap, e = .returned (.tuple #[.slice ao q.1.length cap, .int .i64 q.2.1, .int .i64 q.2.2]) ∧ SeeT w' (.slice ao q.1.length cap) q.1 ∧ Below w.heap.size w w'
end Go.Proofs.YtecfbncfhehdcaaDoor

