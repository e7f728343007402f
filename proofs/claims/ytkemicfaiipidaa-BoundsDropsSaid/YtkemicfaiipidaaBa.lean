/- Slices of integers and of slices in memory; boxes; append of integers. For walks. -/
import Derived.WalkKit
import Derived.Lib.Hide
import Derived.Deep.QuietTactic
import Derived.BigQuiet
import Derived.Deep.RegionWith
import Derived.Deep.Light
import Derived.Deep.LoopGhost
import Derived.Deep.RegionHeld3
import Derived.Laws.AppendOwnNone
import Derived.Laws.OwnMore
import Derived.Maps.AppendAt
import Derived.Deep.RegionLaw
import Derived.Test.YtkemicfaiipidaaProg
import Derived.Test.YtkemicfaiipidaaBp
namespace Bn
theorem set_getD {α : Type} (l : List α) (i j : Nat) (x d : α) (h : i < l.length) : (l.set i x).getD j d = if j = i then x else l.getD j d := by
  rw [List.getD_eq_getElem?_getD, List.getElem?_set, List.getD_eq_getElem?_getD]
  by_cases e : i = j
  · subst e; simp [h]
  · rw [if_neg e, if_neg (fun g => e g.symm)]
theorem ext_getD {α : Type} {l m : List α} (d : α) (hl : l.length = m.length) (h : ∀ i, i < l.length → l.getD i d = m.getD i d) : l = m := by
  apply List.ext_getElem hl
  intro i h1 h2
  have := h i h1
  rw [List.getD_eq_getElem?_getD, List.getD_eq_getElem?_getD, List.getElem?_eq_getElem h1, List.getElem?_eq_getElem h2] at this
  exact this
end Bn
namespace Go.Proofs.Ytkemicfaiipidaa
open Go.RowKit

theorem ret_bool {a b : Bool} (h : a = b) : Ending.returned (.bool a) = Ending.returned (.bool b) := by rw [h]
theorem ret_int {k : IntKind} {a b : Int} (h : a = b) : Ending.returned (.int k a) = Ending.returned (.int k b) := by rw [h]
theorem below_nxt {w0 w w' : World} (h : Below w0.heap.size w0 w) (hb : Below w.heap.size w w') : Below w0.heap.size w0 w' := h.trans (hb.mono h.size)
theorem below_box {w0 w w' : World} {o : Obj} (h : Below w0.heap.size w0 w) (hb : Below (w.alloc o).heap.size (w.alloc o) w') : Below w0.heap.size w0 w' :=
  (h.alloc h.size o).trans (hb.mono (by have := h.size; simp; omega))
theorem below_drewN {B : Nat} (w : World) (n : Nat) : Below B w (w.drewN n) := ⟨rfl, rfl, rfl, Nat.le_refl _, fun _ _ => rfl⟩

/-- Where integers lie, if there are any. -/
def CellsI (w : World) (ao : Option Addr) (l : List Int) : Prop :=
  0 < l.length → ∃ b off, ao = some ⟨b, off, none⟩ ∧ b < w.heap.size ∧ ∀ i, i < l.length → w.cell? ⟨b, off + i, none⟩ = some (.int .i64 (l.getD i 0))
/-- A slice value reads as a list of integers. -/
def SeesI (w : World) (v : Value) (l : List Int) : Prop := (v = .slice none 0 0 ∧ l = []) ∨
  ∃ b off cap, v = .slice (some ⟨b, off, none⟩) l.length cap ∧ l.length ≤ cap ∧ cap ≤ maxLen ∧ b < w.heap.size ∧ ∀ i, i < l.length → w.cell? ⟨b, off + i, none⟩ = some (.int .i64 (l.getD i 0))
theorem CellsI.step {w w' : World} {ao : Option Addr} {l : List Int} (h : CellsI w ao l) (hb : Below w.heap.size w w') : CellsI w' ao l := by
  intro hp
  obtain ⟨b, off, rfl, g2, g3⟩ := h hp
  exact ⟨b, off, rfl, Nat.lt_of_lt_of_le g2 hb.size, fun i hi => (hb.cell (p := ⟨b, off + i, none⟩) g2).trans (g3 i hi)⟩
theorem SeesI.below {w w' : World} {v : Value} {l : List Int} (h : SeesI w v l) {B : Nat} (hb : Below B w w') (hB : w.heap.size ≤ B) : SeesI w' v l := by
  rcases h with h | ⟨b, off, cap, rfl, h1, h2, h3, h4⟩
  · exact .inl h
  · exact .inr ⟨b, off, cap, rfl, h1, h2, Nat.lt_of_lt_of_le h3 hb.size, fun i hi => (hb.cell (p := ⟨b, off + i, none⟩) (Nat.lt_of_lt_of_le h3 hB)).trans (h4 i hi)⟩
theorem SeesI.step {w w' : World} {v : Value} {l : List Int} (h : SeesI w v l) (hb : Below w.heap.size w w') : SeesI w' v l := h.below hb (Nat.le_refl _)
theorem SeesI.opened {w : World} {v : Value} {l : List Int} (h : SeesI w v l) : ∃ ao cap, v = .slice ao l.length cap ∧ l.length ≤ cap ∧ cap ≤ 9223372036854775807 ∧ CellsI w ao l := by
  rcases h with ⟨rfl, rfl⟩ | ⟨b, off, cap, rfl, h1, h2, h3, h4⟩
  · exact ⟨none, 0, rfl, Nat.le_refl _, by omega, fun h => by simp at h⟩
  · exact ⟨_, cap, rfl, h1, by unfold maxLen at h2; omega, fun _ => ⟨b, off, rfl, h3, h4⟩⟩
theorem CellsI.at {w wr : World} {ao : Option Addr} {l : List Int} (h : CellsI w ao l) (hb : Below w.heap.size w wr) {i : Nat} (hi : i < l.length) :
    ∃ b off, ao = some ⟨b, off, none⟩ ∧ b < w.heap.size ∧ wr.cell? ⟨b, off + i, none⟩ = some (.int .i64 (l.getD i 0)) := by
  obtain ⟨b, off, h1, h2, h3⟩ := h (by omega)
  exact ⟨b, off, h1, h2, (hb.cell (p := ⟨b, off + i, none⟩) h2).trans (h3 i hi)⟩
theorem SeesI.nil (w : World) : SeesI w (.slice none 0 0) [] := .inl ⟨rfl, rfl⟩
theorem SeesI.one (w : World) (x : Int) (T : TypeId) : SeesI (w.alloc (.cells #[.int .i64 x] T)) (.slice (some ⟨w.heap.size, 0, none⟩) 1 1) [x] :=
  .inr ⟨w.heap.size, 0, 1, rfl, Nat.le_refl _, by unfold maxLen; omega, by simp, fun i hi => by
    obtain rfl : i = 0 := by simp at hi; omega
    simp⟩

/-- A slice of integers of the call's own, from block B on, which may have grown. -/
def RowI (B : Nat) (e : TypeId) (w : World) (v : Value) (l : List Int) : Prop := w.ownsRow B e 1 v l.length (l.map fun n => .int .i64 n)
theorem RowI.sees {B : Nat} {e : TypeId} {w : World} {v : Value} {l : List Int} (h : RowI B e w v l) : SeesI w v l := by
  rcases h.2 with ⟨rfl, h0⟩ | ⟨g, cap, cur, rfl, hb, hg, h1, h2, h3, h4⟩
  · have := List.eq_nil_of_length_eq_zero h0
    subst this
    exact SeesI.nil w
  · refine .inr ⟨g, 0, cap, rfl, h1, h2, (Array.getElem?_eq_some_iff.1 hg).1, fun i hi => ?_⟩
    have h5 := World.ownsRow.cellAt h i (by omega)
    rw [Nat.zero_add, h5, List.getElem?_map, List.getElem?_eq_getElem hi, Option.map_some, List.getD_eq_getElem?_getD, List.getElem?_eq_getElem hi]
    rfl
theorem RowI.form {B : Nat} {e : TypeId} {w : World} {v : Value} {l : List Int} (h : RowI B e w v l) : ∃ ao cap, v = .slice ao l.length cap := by
  rcases h.2 with ⟨rfl, h0⟩ | ⟨g, cap, cur, rfl, _⟩
  · exact ⟨none, 0, by rw [h0]⟩
  · exact ⟨_, _, rfl⟩
theorem RowI.nil (B : Nat) (e : TypeId) (w : World) : RowI B e w (.slice none 0 0) [] := World.ownsRow_nil _ _ _ _
theorem RowI.one (B : Nat) (e : TypeId) (w : World) (hB : B ≤ w.heap.size) (x : Int) : RowI B e (w.alloc (.cells #[.int .i64 x] e)) (.slice (some ⟨w.heap.size, 0, none⟩) 1 1) [x] :=
  ⟨rfl, .inr ⟨w.heap.size, 1, _, rfl, hB, heap_alloc_new w _, Nat.le_refl _, by unfold maxLen; omega, rfl, rfl⟩⟩
theorem RowI.below {B : Nat} {e : TypeId} {w w' : World} {v : Value} {l : List Int} (h : RowI B e w v l) {C : Nat} (hb : Below C w w') (hC : w.heap.size ≤ C) : RowI B e w' v l := by
  refine ⟨h.1, ?_⟩
  rcases h.2 with h' | ⟨g, cap, cur, h', h1, h2, h3⟩
  · exact .inl h'
  · exact .inr ⟨g, cap, cur, h', h1, by rw [hb.block g (Nat.lt_of_lt_of_le (Array.getElem?_eq_some_iff.1 h2).1 hC)]; exact h2, h3⟩
theorem RowI.step {B : Nat} {e : TypeId} {w w' : World} {v : Value} {l : List Int} (h : RowI B e w v l) (hb : Below w.heap.size w w') : RowI B e w' v l := h.below hb (Nat.le_refl _)
theorem RowI.mono {B B' : Nat} {e : TypeId} {w : World} {v : Value} {l : List Int} (h : RowI B e w v l) (hb : B' ≤ B) : RowI B' e w v l := by
  rcases h with ⟨h0, h | ⟨g, cap, cur, h1, h2, h3⟩⟩
  · exact ⟨h0, .inl h⟩
  · exact ⟨h0, .inr ⟨g, cap, cur, h1, by omega, h3⟩⟩
theorem RowI.kept {B : Nat} {e : TypeId} {w w' : World} {v : Value} {l : List Int} {row : Option Nat} (h : RowI B e w v l) (hg : w.grownBy w' row) (hne : v.ownBlock = none ∨ v.ownBlock ≠ row) : RowI B e w' v l := World.ownsRow.kept h hg hne
/-- What may have been written but one row. -/
theorem below_grown {B : Nat} {w w' : World} {g : Nat} (hg : w.grownBy w' (some g)) (hB : B ≤ w.heap.size) (h : B ≤ g) : Below B w w' := (Below.refl B w).grown hg hB (fun k hk => by cases hk; exact h)
theorem grown_below {w w' : World} {r : Option Nat} (h : Below w.heap.size w w') : w.grownBy w' r := ⟨h.os, h.tape, h.output, h.size, fun k hk _ => h.block k hk⟩
theorem grown_trans {w w1 w2 : World} {r : Option Nat} (h : w.grownBy w1 r) (h2 : w1.grownBy w2 r) : w.grownBy w2 r :=
  ⟨h2.os.trans h.os, h2.tape.trans h.tape, h2.output.trans h.output, Nat.le_trans h.size h2.size, fun k hk hne => (h2.block k (Nat.lt_of_lt_of_le hk h.size) hne).trans (h.block k hk hne)⟩

/-- 'append' of integers to a slice of the call's own. -/
theorem wpList_append_int {P : Program} {w : World} {ops : Array Oper} {rest : List Oper} {o : Oper} {a : Act} {Q : Exit → Act → World → Prop} (hgd : o.guard = none) (s x : Operand) (t : TypeId)
    (ho : o.op = .call { callee := .builtin .append, args := #[s, x], argTypes := #[t, t] })
    (e : TypeId) (i : TypeInfo) (ht : P.underlying t = some (.slice e)) (hi : P.info? e = some i) (hz : i.zero = some (.int .i64 0)) (hsize : i.size = 1) (hby : i.bytes = 8)
    (v y : Value) (l m : List Int) (hs : a.eval s = v) (hx : a.eval x = y) (B : Nat) (hown : RowI B e w v l) (hy : SeesI w y m) (hlen : l.length + m.length ≤ 1048576) (hB : B ≤ w.heap.size)
    (h : ∀ ao' cap' w', RowI B e w' (.slice ao' (l.length + m.length) cap') (l ++ m) → w.grownBy w' v.ownBlock → (Value.ownBlock (.slice ao' (l.length + m.length) cap') = v.ownBlock ∨ ∃ g, Value.ownBlock (.slice ao' (l.length + m.length) cap') = some g ∧ w.heap.size ≤ g) → wpList P ops Q rest (a.put o.dst (.slice ao' (l.length + m.length) cap')) w') : wpList P ops Q (o :: rest) a w := by
  rcases hy with ⟨rfl, rfl⟩ | ⟨b, off, cap, rfl, h1, h2, h3, h4⟩
  · refine wpList_append_own_none hgd s x t ho B e i 1 ht hi v l.length _ hs hown hx ?_
    obtain ⟨ao', cap', rfl⟩ := hown.form
    have := h ao' cap' w
    rw [List.append_nil] at this
    exact this hown ⟨rfl, rfl, rfl, Nat.le_refl _, fun _ _ _ => rfl⟩ (.inl rfl)
  · refine wpList_append_own_at w hgd s x t ho B e i (.int .i64 0) 1 8 ht hi hz hsize hby rfl (by omega) v l.length _ hs hown ⟨b, off, none⟩ m.length cap (m.map fun n => .int .i64 n) hx (by simp) ?_ ?_ (by unfold maxLen; omega) (by omega) hB ?_
    · intro j u hj
      rw [List.getElem?_map] at hj
      by_cases hjl : j < m.length
      · rw [List.getElem?_eq_getElem hjl, Option.map_some] at hj
        have h5 := h4 j hjl
        rw [List.getD_eq_getElem?_getD, List.getElem?_eq_getElem hjl, Option.getD_some] at h5
        have hadd : (⟨b, off, none⟩ : Addr).add j = ⟨b, off + j, none⟩ := by unfold Addr.add; split <;> simp_all
        rw [hadd, h5]
        exact hj
      · rw [List.getElem?_eq_none (by omega)] at hj; cases hj
    · exact fun u hu => by obtain ⟨n, _, rfl⟩ := List.mem_map.1 hu; rfl
    · intro v' w' r1 r2 r3 r4
      have hr : RowI B e w' v' (l ++ m) := by
        unfold RowI
        rw [List.length_append, List.map_append]
        exact r1
      obtain ⟨ao', cap', rfl⟩ := hr.form
      rw [List.length_append] at *
      exact h _ _ _ hr r2 (r4.imp id fun e => ⟨_, e, Nat.le_refl _⟩)
/-- What a new value of a row of the call's own leaves as it was. -/
theorem RowI.belowOwn {B C : Nat} {e : TypeId} {w w' : World} {v : Value} {l : List Int} (h : RowI B e w v l) (hg : w.grownBy w' v.ownBlock) (hC : C ≤ w.heap.size) (hCB : C ≤ B) : Below C w w' :=
  (Below.refl C w).grown hg hC (fun g hg => Nat.le_trans hCB (World.ownsRow.lt h g hg).1)

theorem info_int : ∃ i : TypeInfo, Try.prog.info? 3 = some i ∧ i.zero = some (.int .i64 0) ∧ i.size = 1 ∧ i.bytes = 8 := by
  have h : (Try.prog.info? 3).map (fun i => (i.zero, i.size, i.bytes)) = some (some (.int .i64 0), 1, 8) := by kernel_rfl
  obtain ⟨i, h1, h2⟩ := Option.map_eq_some_iff.1 h
  simp only [Prod.mk.injEq] at h2
  exact ⟨i, h1, h2⟩

/-- A block of integers that may be written. -/
def ArrI (W : World) (g : Nat) (ls : List Int) : Prop := g < W.heap.size ∧ ∀ i, i < ls.length → W.cell? ⟨g, i, none⟩ = some (.int .i64 (ls.getD i 0)) ∧ W.frozen? ⟨g, i, none⟩ = false
theorem ArrI.below {W W' : World} {g : Nat} {ls : List Int} (h : ArrI W g ls) {B : Nat} (hB : g < B) (hb : Below B W W') : ArrI W' g ls :=
  ⟨Nat.lt_of_lt_of_le h.1 hb.size, fun i hi => ⟨(hb.cell (p := ⟨g, i, none⟩) hB).trans (h.2 i hi).1, (hb.frozen (p := ⟨g, i, none⟩) hB).trans (h.2 i hi).2⟩⟩
theorem ArrI.step {W W' : World} {g : Nat} {ls : List Int} (h : ArrI W g ls) (hb : Below W.heap.size W W') : ArrI W' g ls := h.below h.1 hb
theorem ArrI.put {W : World} {g i : Nat} {ls : List Int} (h : ArrI W g ls) (hi : i < ls.length) (x : Int) : ArrI (W.setCell ⟨g, i, none⟩ (.int .i64 x)) g (ls.set i x) := by
  refine ⟨by simpa [World.setCell] using h.1, fun j hj => ?_⟩
  have hj' : j < ls.length := by simpa using hj
  obtain ⟨h1, h2⟩ := h.2 j hj'
  rw [World.frozen?_setCell, Bn.set_getD _ _ _ _ _ hi]
  refine ⟨?_, h2⟩
  by_cases e : j = i
  · subst e
    rw [if_pos rfl, World.cell?_setCell_same' _ _ _ (by rw [h1]; rfl)]
  · rw [if_neg e, World.cell?_setCell_other (w := W) (v := .int .i64 x) (a := ⟨g, i, none⟩) (b := ⟨g, j, none⟩) (fun e' => e (congrArg Addr.off e').symm), h1]
theorem ArrI.sees {W : World} {g cap : Nat} {ls : List Int} (h : ArrI W g ls) (hc : ls.length ≤ cap) (hm : cap ≤ maxLen) : SeesI W (.slice (some ⟨g, 0, none⟩) ls.length cap) ls :=
  .inr ⟨g, 0, cap, rfl, hc, hm, h.1, fun i hi => by rw [Nat.zero_add]; exact (h.2 i hi).1⟩
/-- A variable in a block of its own. -/
def BoxV (W : World) (g : Nat) (v : Value) : Prop := g < W.heap.size ∧ W.cell? ⟨g, 0, none⟩ = some v
theorem BoxV.step {W W' : World} {g : Nat} {v : Value} (h : BoxV W g v) (hb : Below W.heap.size W W') : BoxV W' g v := ⟨Nat.lt_of_lt_of_le h.1 hb.size, (hb.cell (p := ⟨g, 0, none⟩) h.1).trans h.2⟩
theorem BoxV.grown {W W' : World} {g A : Nat} {v : Value} (h : BoxV W g v) (hg : W.grownBy W' (some A)) (hA : g ≠ A) : BoxV W' g v := ⟨Nat.lt_of_lt_of_le h.1 hg.size, hg.cell h.2 (by simpa using hA)⟩
theorem grown_then {w w1 w2 : World} {r : Option Nat} (h : w.grownBy w1 r) (h2 : Below w.heap.size w1 w2) : w.grownBy w2 r :=
  ⟨h2.os.trans h.os, h2.tape.trans h.tape, h2.output.trans h.output, Nat.le_trans h.size h2.size, fun k hk hne => (h2.block k hk).trans (h.block k hk hne)⟩
theorem grown_set {w w1 : World} {A i : Nat} {v : Value} (h : w.grownBy w1 (some A)) : w.grownBy (w1.setCell ⟨A, i, none⟩ v) (some A) :=
  ⟨h.os, h.tape, h.output, by simpa [World.setCell] using h.size, fun k hk hne => by
    rw [Below.heap_setCell _ _ _ _ (fun e => hne (by rw [e]))]; exact h.block k hk hne⟩
theorem grown_refl (w : World) (r : Option Nat) : w.grownBy w r := ⟨rfl, rfl, rfl, Nat.le_refl _, fun _ _ _ => rfl⟩

end Go.Proofs.Ytkemicfaiipidaa

