/- What it is for a slice of limbs in memory to be a natural number, and that it stays so while nothing older is written. For walks. -/
import Derived.WalkKit
import Derived.Lib.Hide
import Derived.Deep.QuietTactic
import Derived.BigQuiet
import Derived.Deep.RegionWith
import Derived.Laws.AppendOwnNone
import Derived.Test.YtldclpdmcopgnaaGreatDoorNum
namespace Go.Proofs.YtldclpdmcopgnaaGreatDoor
open Go.RowKit

/-- A slice value reads as a list of numbers. -/
def Sees (k : IntKind) (w : World) (v : Value) (l : List Nat) : Prop :=
  (v = .slice none 0 0 ∧ l = []) ∨
  ∃ b off cap, v = .slice (some ⟨b, off, none⟩) l.length cap ∧ l.length ≤ cap ∧ cap ≤ maxLen ∧ b < w.heap.size ∧
    ∀ i, i < l.length → w.cell? ⟨b, off + i, none⟩ = some (.int k ((l.getD i 0 : Nat) : Int))

theorem Sees.below {k : IntKind} {w w' : World} {v : Value} {l : List Nat} (h : Sees k w v l) {B : Nat} (hb : Below B w w') (hB : w.heap.size ≤ B) : Sees k w' v l := by
  rcases h with h | ⟨b, off, cap, rfl, h1, h2, h3, h4⟩
  · exact .inl h
  · refine .inr ⟨b, off, cap, rfl, h1, h2, Nat.lt_of_lt_of_le h3 hb.size, fun i hi => ?_⟩
    rw [hb.cell (p := ⟨b, off + i, none⟩) (Nat.lt_of_lt_of_le h3 hB)]
    exact h4 i hi

/-- A slice value is a natural number, of at most m limbs of a base. -/
def IsNat (k : IntKind) (B : Nat) (w : World) (v : Value) (n m : Nat) : Prop := ∃ l, Sees k w v l ∧ Limb.norm B l ∧ Limb.val B l = n ∧ l.length ≤ m

theorem IsNat.below {k : IntKind} {B : Nat} {w w' : World} {v : Value} {n m : Nat} (h : IsNat k B w v n m) {C : Nat} (hb : Below C w w') (hC : w.heap.size ≤ C) : IsNat k B w' v n m := by
  obtain ⟨l, h1, h2⟩ := h
  exact ⟨l, h1.below hb hC, h2⟩
theorem IsNat.up {k : IntKind} {B : Nat} {w : World} {v : Value} {n m m' : Nat} (h : IsNat k B w v n m) (hm : m ≤ m') : IsNat k B w v n m' := by
  obtain ⟨l, h1, h2, h3, h4⟩ := h
  exact ⟨l, h1, h2, h3, Nat.le_trans h4 hm⟩

/-- A part of a slice from the beginning. -/
theorem Sees.take {k : IntKind} {w : World} {b off len cap : Nat} {l : List Nat} (h : Sees k w (.slice (some ⟨b, off, none⟩) len cap) l) (n : Nat) (hn : n ≤ l.length) : Sees k w (.slice (some ⟨b, off, none⟩) n cap) (l.take n) := by
  rcases h with ⟨h, _⟩ | ⟨b', off', cap', he, h1, h2, h3, h4⟩
  · cases h
  · cases he
    refine .inr ⟨b, off, cap, by rw [List.length_take, Nat.min_eq_left hn], by rw [List.length_take]; omega, h2, h3, fun i hi => ?_⟩
    rw [List.length_take] at hi
    rw [Limb.getD_take _ _ _ (by omega)]
    exact h4 i (by omega)

theorem Sees.form {k : IntKind} {w : World} {v : Value} {l : List Nat} (h : Sees k w v l) : ∃ ao cap, v = .slice ao l.length cap ∧ l.length ≤ cap ∧ cap ≤ maxLen := by
  rcases h with ⟨rfl, rfl⟩ | ⟨b, off, cap, rfl, h1, h2, h3, h4⟩
  · exact ⟨none, 0, rfl, Nat.le_refl _, Nat.zero_le _⟩
  · exact ⟨_, cap, rfl, h1, h2⟩
theorem Sees.pos {k : IntKind} {w : World} {v : Value} {l : List Nat} (h : Sees k w v l) (hl : 0 < l.length) :
    ∃ b off cap, v = .slice (some ⟨b, off, none⟩) l.length cap ∧ l.length ≤ cap ∧ cap ≤ maxLen ∧ b < w.heap.size ∧ ∀ i, i < l.length → w.cell? ⟨b, off + i, none⟩ = some (.int k ((l.getD i 0 : Nat) : Int)) := by
  rcases h with ⟨rfl, rfl⟩ | h
  · simp at hl
  · exact h
/-- Where the numbers lie, if there are any. -/
def Cells (k : IntKind) (w : World) (ao : Option Addr) (l : List Nat) : Prop :=
  0 < l.length → ∃ b off, ao = some ⟨b, off, none⟩ ∧ b < w.heap.size ∧ ∀ i, i < l.length → w.cell? ⟨b, off + i, none⟩ = some (.int k ((l.getD i 0 : Nat) : Int))
theorem Sees.opened {k : IntKind} {w : World} {v : Value} {l : List Nat} (h : Sees k w v l) : ∃ ao cap, v = .slice ao l.length cap ∧ l.length ≤ cap ∧ cap ≤ 9223372036854775807 ∧ Cells k w ao l := by
  rcases h with ⟨rfl, rfl⟩ | ⟨b, off, cap, rfl, h1, h2, h3, h4⟩
  · exact ⟨none, 0, rfl, Nat.le_refl _, by omega, fun h => by simp at h⟩
  · exact ⟨_, cap, rfl, h1, by unfold maxLen at h2; omega, fun _ => ⟨b, off, rfl, h3, h4⟩⟩
theorem Cells.at {k : IntKind} {w wr : World} {ao : Option Addr} {l : List Nat} (h : Cells k w ao l) (hb : Below w.heap.size w wr) {i : Nat} (hi : i < l.length) :
    ∃ b off, ao = some ⟨b, off, none⟩ ∧ b < w.heap.size ∧ wr.cell? ⟨b, off + i, none⟩ = some (.int k ((l.getD i 0 : Nat) : Int)) := by
  obtain ⟨b, off, h1, h2, h3⟩ := h (by omega)
  exact ⟨b, off, h1, h2, (hb.cell (p := ⟨b, off + i, none⟩) h2).trans (h3 i hi)⟩
theorem Sees.drewN {k : IntKind} {w : World} {v : Value} {l : List Nat} (h : Sees k w v l) (n : Nat) : Sees k (w.drewN n) v l := by
  rcases h with h | ⟨b, off, cap, rfl, h1, h2, h3, h4⟩
  · exact .inl h
  · exact .inr ⟨b, off, cap, rfl, h1, h2, h3, h4⟩
theorem below_drewN {B : Nat} (w : World) (n : Nat) : Below B w (w.drewN n) := ⟨rfl, rfl, rfl, Nat.le_refl _, fun _ _ => rfl⟩

theorem quiet_more {P : Program} {f : FuncId} {args : Array Value} {w : World} {a n : Nat} {v : Value}
    (h : Calls P f args (w.drewN (a + n)) fun e w' => e = .returned v ∧ w.drewN (a + n) = w') :
    Calls P f args (w.drewN (a + n)) fun e w'' => e = .returned v ∧ ∃ m, w'' = w.drewN (a + m) :=
  h.mono fun _ _ ⟨he, hm⟩ => ⟨he, n, hm.symm⟩
theorem quiet_one {P : Program} {f : FuncId} {args : Array Value} {w : World} {n : Nat} {v : Value}
    (h : Calls P f args (w.drewN n) fun e w' => e = .returned v ∧ w.drewN n = w') : Calls P f args (w.drewN n) fun e w'' => e = .returned v ∧ ∃ m, w'' = w.drewN m :=
  h.mono fun _ _ ⟨he, hm⟩ => ⟨he, n, hm.symm⟩
theorem quiet_more_d {P : Program} {f : FuncId} {args : Array Value} {w : World} {a n : Nat} {v : Value}
    (h : Calls P f args (w.drewN (a + n)) fun e w' => e = .returned v ∧ ∃ m, w' = (w.drewN (a + n)).drewN m) :
    Calls P f args (w.drewN (a + n)) fun e w'' => e = .returned v ∧ ∃ m, w'' = w.drewN (a + m) :=
  h.mono fun _ _ ⟨he, m, hm⟩ => ⟨he, n + m, by rw [hm, World.drewN_drewN, Nat.add_assoc]⟩

theorem ret_int {k : IntKind} {a b : Int} (h : a = b) : Ending.returned (.int k a) = .returned (.int k b) := by rw [h]

/-- A row of numbers of the call's own, at the head of a block. -/
def Own (k : IntKind) (e : TypeId) (w : World) (g : Nat) (l : List Nat) : Prop :=
  l.length ≤ 1048576 ∧ w.ownsRow 0 e 1 (.slice (some ⟨g, 0, none⟩) l.length l.length) l.length (l.map fun n => .int k ((n : Nat) : Int))

section
variable {k : IntKind} {e : TypeId} {w : World} {g : Nat} {l : List Nat}
theorem Own.cell (h : Own k e w g l) {i : Nat} (hi : i < l.length) : w.cell? ⟨g, i, none⟩ = some (.int k ((l.getD i 0 : Nat) : Int)) := by
  rw [h.2.cellAt i (by omega), List.getElem?_map, List.getElem?_eq_getElem hi, Option.map_some, List.getD_eq_getElem?_getD, List.getElem?_eq_getElem hi]
  rfl
theorem Own.free (h : Own k e w g l) (i : Nat) : w.frozen? ⟨g, i, none⟩ = false := h.2.frozenAt i
theorem Own.lt (h : Own k e w g l) : g < w.heap.size := (h.2.lt g rfl).2
theorem Own.set (h : Own k e w g l) (i x : Nat) : Own k e (w.setCell ⟨g, i, none⟩ (.int k (x : Int))) g (l.set i x) := by
  refine ⟨by rw [List.length_set]; exact h.1, ?_⟩
  have := (h.2.stored i (.int k (x : Int))).1
  rw [List.length_set, List.map_set]
  exact this
theorem Own.put (h : Own k e w g l) (i x : Nat) (u : Int) (hu : u = (x : Int)) : Own k e (w.setCell ⟨g, i, none⟩ (.int k u)) g (l.set i x) := by
  subst hu
  exact h.set i x
theorem Own.below {w' : World} (h : Own k e w g l) {B : Nat} (hb : Below B w w') (hB : g < B) : Own k e w' g l := by
  refine ⟨h.1, h.2.1, ?_⟩
  rcases h.2.2 with ⟨h', _⟩ | ⟨g', cap, cur, h', h1, h2, h3⟩
  · cases h'
  · have hg : g' = g := by cases h'; rfl
    subst hg
    exact .inr ⟨g', cap, cur, h', h1, by rw [hb.block g' hB]; exact h2, h3⟩
theorem Own.drewN (h : Own k e w g l) (n : Nat) : Own k e (w.drewN n) g l := h
theorem Own.sees (h : Own k e w g l) : Sees k w (.slice (some ⟨g, 0, none⟩) l.length l.length) l :=
  .inr ⟨g, 0, l.length, rfl, Nat.le_refl _, by have := h.1; unfold maxLen; omega, h.lt, fun i hi => by rw [Nat.zero_add]; exact h.cell hi⟩
end

theorem replicate_map (k : IntKind) (n : Nat) : (List.replicate n (0 : Nat)).map (fun n => Value.int k ((n : Nat) : Int)) = List.replicate n (.int k 0) := by simp

/-- 'make([]T, n)' of numbers. -/
theorem wpList_make_nat {P : Program} (w : World) {ops : Array Oper} {rest : List Oper} {o : Oper} {a : Act} {Q : Exit → Act → World → Prop}
    (hg : o.guard = none) (l c : Operand) (t : TypeId) (hop : o.op = Op.makeSlice t l c)
    (e : TypeId) (i : TypeInfo) (k : IntKind) (bytes : Nat) (h1 : P.underlying t = some (.slice e)) (h2 : P.info? e = some i) (h3 : i.zero = some (.int k 0)) (h4 : i.size = 1) (h5 : i.bytes = bytes) (h6 : bytes ≤ 8)
    (kl kc : IntKind) (L C : Int) (n : Nat) (hl : a.eval l = .int kl L) (hc : a.eval c = .int kc C) (hL : L = (n : Int)) (hC : C = (n : Int)) (hn : n ≤ 1048576)
    (hK : ∀ w', Own k e w' w.heap.size (List.replicate n 0) → Below w.heap.size w w' → wpList P ops Q rest (a.put o.dst (.slice (some ⟨w.heap.size, 0, none⟩) n n)) w') :
    wpList P ops Q (o :: rest) a w := by
  refine wpList_make_full w hg l c t hop 0 e i (.int k 0) 1 h1 h2 h3 h4 kl kc L C n hl hc hL hC ?_ (by unfold maxLen; omega) (Nat.zero_le _) ?_
  · rw [h5]; have : bytes * n ≤ 8 * 1048576 := Nat.mul_le_mul h6 hn; omega
  · intro w' r1 r2
    refine hK w' ⟨by rw [List.length_replicate]; exact hn, ?_⟩ ((Below.refl _ _).grown r2 (Nat.le_refl _) (fun _ h => by cases h))
    rw [List.length_replicate, replicate_map]
    rw [Nat.mul_one] at r1
    have : (madeCells (Value.int k 0).cells n).toList = List.replicate n (.int k 0) := toList_madeCells_one _ _
    rw [this] at r1
    exact r1

/-- A slice of numbers of the call's own, from block B on, which may have grown. -/
def Row (B : Nat) (k : IntKind) (e : TypeId) (w : World) (v : Value) (l : List Nat) : Prop := w.ownsRow B e 1 v l.length (l.map fun n => .int k ((n : Nat) : Int))

theorem Row.sees {B : Nat} {k : IntKind} {e : TypeId} {w : World} {v : Value} {l : List Nat} (h : Row B k e w v l) : Sees k w v l := by
  rcases h.2 with ⟨rfl, h0⟩ | ⟨g, cap, cur, rfl, hb, hg, h1, h2, h3, h4⟩
  · exact .inl ⟨rfl, List.eq_nil_of_length_eq_zero h0⟩
  · refine .inr ⟨g, 0, cap, rfl, h1, h2, (Array.getElem?_eq_some_iff.1 hg).1, fun i hi => ?_⟩
    have h5 := World.ownsRow.cellAt h i (by omega)
    rw [Nat.zero_add, h5, List.getElem?_map, List.getElem?_eq_getElem hi, Option.map_some, List.getD_eq_getElem?_getD, List.getElem?_eq_getElem hi]
    rfl
theorem Row.nil (B : Nat) (k : IntKind) (e : TypeId) (w : World) : Row B k e w (.slice none 0 0) [] := World.ownsRow_nil _ _ _ _
theorem Row.one (B : Nat) (k : IntKind) (e : TypeId) (w : World) (hB : B ≤ w.heap.size) (x : Nat) (u : Int) (hu : u = (x : Int)) : Row B k e (w.alloc (.cells #[.int k u] e)) (.slice (some ⟨w.heap.size, 0, none⟩) 1 1) [x] := by
  subst hu
  exact ⟨rfl, .inr ⟨w.heap.size, 1, _, rfl, hB, heap_alloc_new w _, Nat.le_refl _, by unfold maxLen; omega, rfl, rfl⟩⟩
theorem Row.below {B : Nat} {k : IntKind} {e : TypeId} {w w' : World} {v : Value} {l : List Nat} (h : Row B k e w v l) {C : Nat} (hb : Below C w w') (hC : w.heap.size ≤ C) : Row B k e w' v l := by
  refine ⟨h.1, ?_⟩
  rcases h.2 with h' | ⟨g, cap, cur, h', h1, h2, h3⟩
  · exact .inl h'
  · exact .inr ⟨g, cap, cur, h', h1, by rw [hb.block g (Nat.lt_of_lt_of_le (Array.getElem?_eq_some_iff.1 h2).1 hC)]; exact h2, h3⟩

/-- 'append' of numbers to a slice of the call's own. -/
theorem wpList_append_nat {P : Program} {w : World} {ops : Array Oper} {rest : List Oper} {o : Oper} {a : Act} {Q : Exit → Act → World → Prop} (hgd : o.guard = none) (s x : Operand) (t : TypeId)
    (ho : o.op = .call { callee := .builtin .append, args := #[s, x], argTypes := #[t, t] })
    (e : TypeId) (i : TypeInfo) (k : IntKind) (bytes : Nat) (ht : P.underlying t = some (.slice e)) (hi : P.info? e = some i) (hz : i.zero = some (.int k 0)) (hsize : i.size = 1) (hby : i.bytes = bytes) (hb8 : bytes ≤ 8)
    (v y : Value) (l m : List Nat) (hs : a.eval s = v) (hx : a.eval x = y) (B : Nat) (hown : Row B k e w v l) (hy : Sees k w y m) (hlen : l.length + m.length ≤ 1048576) (hB : B ≤ w.heap.size)
    (h : ∀ v' w', Row B k e w' v' (l ++ m) → Below B w w' → wpList P ops Q rest (a.put o.dst v') w') : wpList P ops Q (o :: rest) a w := by
  rcases hy with ⟨rfl, rfl⟩ | ⟨b, off, cap, rfl, h1, h2, h3, h4⟩
  · refine wpList_append_own_none hgd s x t ho B e i 1 ht hi v l.length _ hs hown hx ?_
    exact h v w (by rw [List.append_nil]; exact hown) (Below.refl _ _)
  · refine wpList_append_own w hgd s x t ho B e i (.int k 0) 1 bytes ht hi hz hsize hby rfl (by omega) v l.length _ hs hown ⟨b, off, none⟩ m.length cap (m.map fun n => .int k ((n : Nat) : Int)) hx (by simp) ?_ ?_ (by unfold maxLen; omega) ?_ hB ?_
    · intro j u hj
      rw [List.getElem?_map] at hj
      by_cases hjl : j < m.length
      · rw [List.getElem?_eq_getElem hjl, Option.map_some] at hj
        have h5 := h4 j hjl
        rw [List.getD_eq_getElem?_getD, List.getElem?_eq_getElem hjl, Option.getD_some] at h5
        have hadd : (⟨b, off, none⟩ : Addr).add j = ⟨b, off + j, none⟩ := by unfold Addr.add; split <;> simp_all
        rw [hadd, h5]
        exact hj
      · rw [List.getElem?_eq_none (by omega)] at hj; cases hj
    · exact fun u hu => by obtain ⟨n, _, rfl⟩ := List.mem_map.1 hu; rfl
    · have : (l.length + m.length) * bytes ≤ 1048576 * 8 := Nat.mul_le_mul hlen hb8
      omega
    · intro v' w' r1 r2 r3
      refine h v' w' ?_ ((Below.refl _ _).grown r2 hB (fun g hg => (World.ownsRow.lt hown g hg).1))
      unfold Row
      rw [List.length_append, List.map_append]
      exact r1

theorem Sees.dropped {k : IntKind} {w : World} {b off cap : Nat} {l : List Nat} (h : Sees k w (.slice (some ⟨b, off, none⟩) l.length cap) l) (n : Nat) (hn : n ≤ l.length) : Sees k w (.slice (some ⟨b, off + n, none⟩) (l.length - n) (cap - n)) (l.drop n) := by
  rcases h with ⟨h, _⟩ | ⟨b', off', cap', he, h1, h2, h3, h4⟩
  · cases h
  · cases he
    refine .inr ⟨b, off + n, cap - n, by rw [List.length_drop], by rw [List.length_drop]; omega, by omega, h3, fun i hi => ?_⟩
    rw [List.length_drop] at hi
    rw [Limb.getD_drop, Nat.add_assoc]
    exact h4 (n + i) (by omega)
theorem Sees.empty {k : IntKind} {w : World} {b off len cap : Nat} {l : List Nat} (h : Sees k w (.slice (some ⟨b, off, none⟩) len cap) l) : Sees k w (.slice (some ⟨b, off, none⟩) 0 0) [] := by
  rcases h with ⟨h, _⟩ | ⟨b', off', cap', he, h1, h2, h3, h4⟩
  · cases h
  · cases he
    exact .inr ⟨b, off, 0, rfl, Nat.le_refl _, Nat.zero_le _, h3, fun i hi => by simp at hi⟩

end Go.Proofs.YtldclpdmcopgnaaGreatDoor

