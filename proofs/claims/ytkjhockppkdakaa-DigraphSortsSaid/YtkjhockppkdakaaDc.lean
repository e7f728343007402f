/- Lists of integers in memory; append of integers; slices of slices. For walks. -/
import Derived.Test.YtkjhockppkdakaaDb
import Derived.Laws.OwnMore
import Derived.Maps.AppendAt
import Derived.Deep.RegionLaw
namespace Dg
/-- A list of natural numbers as integers. -/
def ci (l : List Nat) : List Int := l.map fun n : Nat => (n : Int)
theorem ci_len (l : List Nat) : (ci l).length = l.length := by simp [ci]
theorem ci_at (l : List Nat) (i : Nat) : (ci l).getD i 0 = ((l.getD i 0 : Nat) : Int) := by
  unfold ci
  simp only [List.getD_eq_getElem?_getD, List.getElem?_map]
  cases l[i]? <;> rfl
theorem ci_append (l m : List Nat) : ci (l ++ m) = ci l ++ ci m := by simp [ci]
theorem ci_nil : ci [] = [] := rfl
theorem ci_inj {l m : List Nat} (h : ci l = ci m) : l = m := by
  have : (ci l).map Int.toNat = (ci m).map Int.toNat := by rw [h]
  unfold ci at this
  simpa [Function.comp_def] using this
end Dg
namespace Go.Proofs.Ytkjhockppkdakaa
open Go.RowKit

/-- Where integers lie, if there are any. -/
def CellsI (w : World) (ao : Option Addr) (l : List Int) : Prop :=
  0 < l.length → ∃ b off, ao = some ⟨b, off, none⟩ ∧ b < w.heap.size ∧ ∀ i, i < l.length → w.cell? ⟨b, off + i, none⟩ = some (.int .i64 (l.getD i 0))
/-- A slice value reads as a list of integers. -/
def SeesI (w : World) (v : Value) (l : List Int) : Prop := (v = .slice none 0 0 ∧ l = []) ∨
  ∃ b off cap, v = .slice (some ⟨b, off, none⟩) l.length cap ∧ l.length ≤ cap ∧ cap ≤ maxLen ∧ b < w.heap.size ∧ ∀ i, i < l.length → w.cell? ⟨b, off + i, none⟩ = some (.int .i64 (l.getD i 0))
theorem CellsI.step {w w' : World} {ao : Option Addr} {l : List Int} (h : CellsI w ao l) (hb : Below w.heap.size w w') : CellsI w' ao l := by
  intro hp
  obtain ⟨b, off, rfl, g2, g3⟩ := h hp
  exact ⟨b, off, rfl, Nat.lt_of_lt_of_le g2 hb.size, fun i hi => (hb.cell (p := ⟨b, off + i, none⟩) g2).trans (g3 i hi)⟩
theorem SeesI.below {w w' : World} {v : Value} {l : List Int} (h : SeesI w v l) {B : Nat} (hb : Below B w w') (hB : w.heap.size ≤ B) : SeesI w' v l := by
  rcases h with h | ⟨b, off, cap, rfl, h1, h2, h3, h4⟩
  · exact .inl h
  · exact .inr ⟨b, off, cap, rfl, h1, h2, Nat.lt_of_lt_of_le h3 hb.size, fun i hi => (hb.cell (p := ⟨b, off + i, none⟩) (Nat.lt_of_lt_of_le h3 hB)).trans (h4 i hi)⟩
theorem SeesI.step {w w' : World} {v : Value} {l : List Int} (h : SeesI w v l) (hb : Below w.heap.size w w') : SeesI w' v l := h.below hb (Nat.le_refl _)
theorem SeesI.opened {w : World} {v : Value} {l : List Int} (h : SeesI w v l) : ∃ ao cap, v = .slice ao l.length cap ∧ l.length ≤ cap ∧ cap ≤ 9223372036854775807 ∧ CellsI w ao l := by
  rcases h with ⟨rfl, rfl⟩ | ⟨b, off, cap, rfl, h1, h2, h3, h4⟩
  · exact ⟨none, 0, rfl, Nat.le_refl _, by omega, fun h => by simp at h⟩
  · exact ⟨_, cap, rfl, h1, by unfold maxLen at h2; omega, fun _ => ⟨b, off, rfl, h3, h4⟩⟩
theorem CellsI.at {w wr : World} {ao : Option Addr} {l : List Int} (h : CellsI w ao l) (hb : Below w.heap.size w wr) {i : Nat} (hi : i < l.length) :
    ∃ b off, ao = some ⟨b, off, none⟩ ∧ b < w.heap.size ∧ wr.cell? ⟨b, off + i, none⟩ = some (.int .i64 (l.getD i 0)) := by
  obtain ⟨b, off, h1, h2, h3⟩ := h (by omega)
  exact ⟨b, off, h1, h2, (hb.cell (p := ⟨b, off + i, none⟩) h2).trans (h3 i hi)⟩
theorem SeesI.nil (w : World) : SeesI w (.slice none 0 0) [] := .inl ⟨rfl, rfl⟩
theorem SeesI.one (w : World) (x : Int) (T : TypeId) : SeesI (w.alloc (.cells #[.int .i64 x] T)) (.slice (some ⟨w.heap.size, 0, none⟩) 1 1) [x] :=
  .inr ⟨w.heap.size, 0, 1, rfl, Nat.le_refl _, by unfold maxLen; omega, by simp, fun i hi => by
    obtain rfl : i = 0 := by simp at hi; omega
    simp⟩

/-- A slice of integers of the call's own, from block B on, which may have grown. -/
def RowI (B : Nat) (e : TypeId) (w : World) (v : Value) (l : List Int) : Prop := w.ownsRow B e 1 v l.length (l.map fun n => .int .i64 n)
theorem RowI.sees {B : Nat} {e : TypeId} {w : World} {v : Value} {l : List Int} (h : RowI B e w v l) : SeesI w v l := by
  rcases h.2 with ⟨rfl, h0⟩ | ⟨g, cap, cur, rfl, hb, hg, h1, h2, h3, h4⟩
  · have := List.eq_nil_of_length_eq_zero h0
    subst this
    exact SeesI.nil w
  · refine .inr ⟨g, 0, cap, rfl, h1, h2, (Array.getElem?_eq_some_iff.1 hg).1, fun i hi => ?_⟩
    have h5 := World.ownsRow.cellAt h i (by omega)
    rw [Nat.zero_add, h5, List.getElem?_map, List.getElem?_eq_getElem hi, Option.map_some, List.getD_eq_getElem?_getD, List.getElem?_eq_getElem hi]
    rfl
theorem RowI.form {B : Nat} {e : TypeId} {w : World} {v : Value} {l : List Int} (h : RowI B e w v l) : ∃ ao cap, v = .slice ao l.length cap := by
  rcases h.2 with ⟨rfl, h0⟩ | ⟨g, cap, cur, rfl, _⟩
  · exact ⟨none, 0, by rw [h0]⟩
  · exact ⟨_, _, rfl⟩
theorem RowI.nil (B : Nat) (e : TypeId) (w : World) : RowI B e w (.slice none 0 0) [] := World.ownsRow_nil _ _ _ _
theorem RowI.one (B : Nat) (e : TypeId) (w : World) (hB : B ≤ w.heap.size) (x : Int) : RowI B e (w.alloc (.cells #[.int .i64 x] e)) (.slice (some ⟨w.heap.size, 0, none⟩) 1 1) [x] :=
  ⟨rfl, .inr ⟨w.heap.size, 1, _, rfl, hB, heap_alloc_new w _, Nat.le_refl _, by unfold maxLen; omega, rfl, rfl⟩⟩
theorem RowI.below {B : Nat} {e : TypeId} {w w' : World} {v : Value} {l : List Int} (h : RowI B e w v l) {C : Nat} (hb : Below C w w') (hC : w.heap.size ≤ C) : RowI B e w' v l := by
  refine ⟨h.1, ?_⟩
  rcases h.2 with h' | ⟨g, cap, cur, h', h1, h2, h3⟩
  · exact .inl h'
  · exact .inr ⟨g, cap, cur, h', h1, by rw [hb.block g (Nat.lt_of_lt_of_le (Array.getElem?_eq_some_iff.1 h2).1 hC)]; exact h2, h3⟩
theorem RowI.step {B : Nat} {e : TypeId} {w w' : World} {v : Value} {l : List Int} (h : RowI B e w v l) (hb : Below w.heap.size w w') : RowI B e w' v l := h.below hb (Nat.le_refl _)
theorem RowI.mono {B B' : Nat} {e : TypeId} {w : World} {v : Value} {l : List Int} (h : RowI B e w v l) (hb : B' ≤ B) : RowI B' e w v l := by
  rcases h with ⟨h0, h | ⟨g, cap, cur, h1, h2, h3⟩⟩
  · exact ⟨h0, .inl h⟩
  · exact ⟨h0, .inr ⟨g, cap, cur, h1, by omega, h3⟩⟩
theorem RowI.kept {B : Nat} {e : TypeId} {w w' : World} {v : Value} {l : List Int} {row : Option Nat} (h : RowI B e w v l) (hg : w.grownBy w' row) (hne : v.ownBlock = none ∨ v.ownBlock ≠ row) : RowI B e w' v l := World.ownsRow.kept h hg hne
/-- What may have been written but one row. -/
theorem below_grown {B : Nat} {w w' : World} {g : Nat} (hg : w.grownBy w' (some g)) (hB : B ≤ w.heap.size) (h : B ≤ g) : Below B w w' := (Below.refl B w).grown hg hB (fun k hk => by cases hk; exact h)
theorem grown_below {w w' : World} {r : Option Nat} (h : Below w.heap.size w w') : w.grownBy w' r := ⟨h.os, h.tape, h.output, h.size, fun k hk _ => h.block k hk⟩
theorem grown_trans {w w1 w2 : World} {r : Option Nat} (h : w.grownBy w1 r) (h2 : w1.grownBy w2 r) : w.grownBy w2 r :=
  ⟨h2.os.trans h.os, h2.tape.trans h.tape, h2.output.trans h.output, Nat.le_trans h.size h2.size, fun k hk hne => (h2.block k (Nat.lt_of_lt_of_le hk h.size) hne).trans (h.block k hk hne)⟩

/-- 'append' of integers to a slice of the call's own. -/
theorem wpList_append_int {P : Program} {w : World} {ops : Array Oper} {rest : List Oper} {o : Oper} {a : Act} {Q : Exit → Act → World → Prop} (hgd : o.guard = none) (s x : Operand) (t : TypeId)
    (ho : o.op = .call { callee := .builtin .append, args := #[s, x], argTypes := #[t, t] })
    (e : TypeId) (i : TypeInfo) (ht : P.underlying t = some (.slice e)) (hi : P.info? e = some i) (hz : i.zero = some (.int .i64 0)) (hsize : i.size = 1) (hby : i.bytes = 8)
    (v y : Value) (l m : List Int) (hs : a.eval s = v) (hx : a.eval x = y) (B : Nat) (hown : RowI B e w v l) (hy : SeesI w y m) (hlen : l.length + m.length ≤ 1048576) (hB : B ≤ w.heap.size)
    (h : ∀ ao' cap' w', RowI B e w' (.slice ao' (l.length + m.length) cap') (l ++ m) → w.grownBy w' v.ownBlock → (Value.ownBlock (.slice ao' (l.length + m.length) cap') = v.ownBlock ∨ ∃ g, Value.ownBlock (.slice ao' (l.length + m.length) cap') = some g ∧ w.heap.size ≤ g) → wpList P ops Q rest (a.put o.dst (.slice ao' (l.length + m.length) cap')) w') : wpList P ops Q (o :: rest) a w := by
  rcases hy with ⟨rfl, rfl⟩ | ⟨b, off, cap, rfl, h1, h2, h3, h4⟩
  · refine wpList_append_own_none hgd s x t ho B e i 1 ht hi v l.length _ hs hown hx ?_
    obtain ⟨ao', cap', rfl⟩ := hown.form
    have := h ao' cap' w
    rw [List.append_nil] at this
    exact this hown ⟨rfl, rfl, rfl, Nat.le_refl _, fun _ _ _ => rfl⟩ (.inl rfl)
  · refine wpList_append_own_at w hgd s x t ho B e i (.int .i64 0) 1 8 ht hi hz hsize hby rfl (by omega) v l.length _ hs hown ⟨b, off, none⟩ m.length cap (m.map fun n => .int .i64 n) hx (by simp) ?_ ?_ (by unfold maxLen; omega) (by omega) hB ?_
    · intro j u hj
      rw [List.getElem?_map] at hj
      by_cases hjl : j < m.length
      · rw [List.getElem?_eq_getElem hjl, Option.map_some] at hj
        have h5 := h4 j hjl
        rw [List.getD_eq_getElem?_getD, List.getElem?_eq_getElem hjl, Option.getD_some] at h5
        have hadd : (⟨b, off, none⟩ : Addr).add j = ⟨b, off + j, none⟩ := by unfold Addr.add; split <;> simp_all
        rw [hadd, h5]
        exact hj
      · rw [List.getElem?_eq_none (by omega)] at hj; cases hj
    · exact fun u hu => by obtain ⟨n, _, rfl⟩ := List.mem_map.1 hu; rfl
    · intro v' w' r1 r2 r3 r4
      have hr : RowI B e w' v' (l ++ m) := by
        unfold RowI
        rw [List.length_append, List.map_append]
        exact r1
      obtain ⟨ao', cap', rfl⟩ := hr.form
      rw [List.length_append] at *
      exact h _ _ _ hr r2 (r4.imp id fun e => ⟨_, e, Nat.le_refl _⟩)
/-- What a new value of a row of the call's own leaves as it was. -/
theorem RowI.belowOwn {B C : Nat} {e : TypeId} {w w' : World} {v : Value} {l : List Int} (h : RowI B e w v l) (hg : w.grownBy w' v.ownBlock) (hC : C ≤ w.heap.size) (hCB : C ≤ B) : Below C w w' :=
  (Below.refl C w).grown hg hC (fun g hg => Nat.le_trans hCB (World.ownsRow.lt h g hg).1)

theorem info_int : ∃ i : TypeInfo, Try.prog.info? 3 = some i ∧ i.zero = some (.int .i64 0) ∧ i.size = 1 ∧ i.bytes = 8 := by
  have h : (Try.prog.info? 3).map (fun i => (i.zero, i.size, i.bytes)) = some (some (.int .i64 0), 1, 8) := by kernel_rfl
  obtain ⟨i, h1, h2⟩ := Option.map_eq_some_iff.1 h
  simp only [Prod.mk.injEq] at h2
  exact ⟨i, h1, h2⟩

/-- A slice value reads as a list of lists of integers. -/
def SeesL (w : World) (v : Value) (L : List (List Int)) : Prop :=
  ∃ N cap, v = .slice (some ⟨N, 0, none⟩) L.length cap ∧ L.length ≤ cap ∧ cap ≤ 9223372036854775807 ∧ N < w.heap.size ∧ ∀ i, i < L.length → ∃ u, w.cell? ⟨N, i, none⟩ = some u ∧ SeesI w u (L.getD i [])
theorem SeesL.step {w w' : World} {v : Value} {L : List (List Int)} (h : SeesL w v L) (hb : Below w.heap.size w w') : SeesL w' v L := by
  obtain ⟨N, cap, rfl, h1, h2, h3, h4⟩ := h
  refine ⟨N, cap, rfl, h1, h2, Nat.lt_of_lt_of_le h3 hb.size, fun i hi => ?_⟩
  obtain ⟨u, g1, g2⟩ := h4 i hi
  exact ⟨u, (hb.cell (p := ⟨N, i, none⟩) h3).trans g1, g2.step hb⟩
end Go.Proofs.Ytkjhockppkdakaa
