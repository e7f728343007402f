/- What it is for a slice of numbers in memory to read as a list, and 'append' to a slice of the call's own. For walks. -/
import Derived.WalkKit
import Derived.Lib.Hide
import Derived.Laws.AppendOwnNone
import Derived.Test.YtahjdmdgkkienaaGreatDoorUa
namespace Go.Proofs.YtahjdmdgkkienaaGreatDoor
open Go.RowKit

/-- A slice value reads as a list of numbers. -/
def Sees (k : IntKind) (w : World) (v : Value) (l : List Nat) : Prop :=
  (v = .slice none 0 0 ∧ l = []) ∨
  ∃ b off cap, v = .slice (some ⟨b, off, none⟩) l.length cap ∧ l.length ≤ cap ∧ cap ≤ maxLen ∧ b < w.heap.size ∧
    ∀ i, i < l.length → w.cell? ⟨b, off + i, none⟩ = some (.int k ((l.getD i 0 : Nat) : Int))

theorem Sees.below {k : IntKind} {w w' : World} {v : Value} {l : List Nat} (h : Sees k w v l) {B : Nat} (hb : Below B w w') (hB : w.heap.size ≤ B) : Sees k w' v l := by
  rcases h with h | ⟨b, off, cap, rfl, h1, h2, h3, h4⟩
  · exact .inl h
  · refine .inr ⟨b, off, cap, rfl, h1, h2, Nat.lt_of_lt_of_le h3 hb.size, fun i hi => ?_⟩
    rw [hb.cell (p := ⟨b, off + i, none⟩) (Nat.lt_of_lt_of_le h3 hB)]
    exact h4 i hi

theorem Sees.form {k : IntKind} {w : World} {v : Value} {l : List Nat} (h : Sees k w v l) : ∃ ao cap, v = .slice ao l.length cap ∧ l.length ≤ cap ∧ cap ≤ maxLen := by
  rcases h with ⟨rfl, rfl⟩ | ⟨b, off, cap, rfl, h1, h2, h3, h4⟩
  · exact ⟨none, 0, rfl, Nat.le_refl _, Nat.zero_le _⟩
  · exact ⟨_, cap, rfl, h1, h2⟩
theorem Sees.pos {k : IntKind} {w : World} {v : Value} {l : List Nat} (h : Sees k w v l) (hl : 0 < l.length) :
    ∃ b off cap, v = .slice (some ⟨b, off, none⟩) l.length cap ∧ l.length ≤ cap ∧ cap ≤ maxLen ∧ b < w.heap.size ∧ ∀ i, i < l.length → w.cell? ⟨b, off + i, none⟩ = some (.int k ((l.getD i 0 : Nat) : Int)) := by
  rcases h with ⟨rfl, rfl⟩ | h
  · simp at hl
  · exact h
/-- Where the numbers lie, if there are any. -/
def Cells (k : IntKind) (w : World) (ao : Option Addr) (l : List Nat) : Prop :=
  0 < l.length → ∃ b off, ao = some ⟨b, off, none⟩ ∧ b < w.heap.size ∧ ∀ i, i < l.length → w.cell? ⟨b, off + i, none⟩ = some (.int k ((l.getD i 0 : Nat) : Int))
theorem Sees.opened {k : IntKind} {w : World} {v : Value} {l : List Nat} (h : Sees k w v l) : ∃ ao cap, v = .slice ao l.length cap ∧ l.length ≤ cap ∧ cap ≤ 9223372036854775807 ∧ Cells k w ao l := by
  rcases h with ⟨rfl, rfl⟩ | ⟨b, off, cap, rfl, h1, h2, h3, h4⟩
  · exact ⟨none, 0, rfl, Nat.le_refl _, by omega, fun h => by simp at h⟩
  · exact ⟨_, cap, rfl, h1, by unfold maxLen at h2; omega, fun _ => ⟨b, off, rfl, h3, h4⟩⟩
theorem Cells.at {k : IntKind} {w wr : World} {ao : Option Addr} {l : List Nat} (h : Cells k w ao l) (hb : Below w.heap.size w wr) {i : Nat} (hi : i < l.length) :
    ∃ b off, ao = some ⟨b, off, none⟩ ∧ b < w.heap.size ∧ wr.cell? ⟨b, off + i, none⟩ = some (.int k ((l.getD i 0 : Nat) : Int)) := by
  obtain ⟨b, off, h1, h2, h3⟩ := h (by omega)
  exact ⟨b, off, h1, h2, (hb.cell (p := ⟨b, off + i, none⟩) h2).trans (h3 i hi)⟩
theorem Sees.drewN {k : IntKind} {w : World} {v : Value} {l : List Nat} (h : Sees k w v l) (n : Nat) : Sees k (w.drewN n) v l := by
  rcases h with h | ⟨b, off, cap, rfl, h1, h2, h3, h4⟩
  · exact .inl h
  · exact .inr ⟨b, off, cap, rfl, h1, h2, h3, h4⟩
theorem below_drewN {B : Nat} (w : World) (n : Nat) : Below B w (w.drewN n) := ⟨rfl, rfl, rfl, Nat.le_refl _, fun _ _ => rfl⟩

/-- A slice of numbers of the call's own, from block B on, which may have grown. -/
def Row (B : Nat) (k : IntKind) (e : TypeId) (w : World) (v : Value) (l : List Nat) : Prop := w.ownsRow B e 1 v l.length (l.map fun n => .int k ((n : Nat) : Int))

theorem Row.sees {B : Nat} {k : IntKind} {e : TypeId} {w : World} {v : Value} {l : List Nat} (h : Row B k e w v l) : Sees k w v l := by
  rcases h.2 with ⟨rfl, h0⟩ | ⟨g, cap, cur, rfl, hb, hg, h1, h2, h3, h4⟩
  · exact .inl ⟨rfl, List.eq_nil_of_length_eq_zero h0⟩
  · refine .inr ⟨g, 0, cap, rfl, h1, h2, (Array.getElem?_eq_some_iff.1 hg).1, fun i hi => ?_⟩
    have h5 := World.ownsRow.cellAt h i (by omega)
    rw [Nat.zero_add, h5, List.getElem?_map, List.getElem?_eq_getElem hi, Option.map_some, List.getD_eq_getElem?_getD, List.getElem?_eq_getElem hi]
    rfl
theorem Row.nil (B : Nat) (k : IntKind) (e : TypeId) (w : World) : Row B k e w (.slice none 0 0) [] := World.ownsRow_nil _ _ _ _
theorem Row.one (B : Nat) (k : IntKind) (e : TypeId) (w : World) (hB : B ≤ w.heap.size) (x : Nat) (u : Int) (hu : u = (x : Int)) : Row B k e (w.alloc (.cells #[.int k u] e)) (.slice (some ⟨w.heap.size, 0, none⟩) 1 1) [x] := by
  subst hu
  exact ⟨rfl, .inr ⟨w.heap.size, 1, _, rfl, hB, heap_alloc_new w _, Nat.le_refl _, by unfold maxLen; omega, rfl, rfl⟩⟩
theorem Row.below {B : Nat} {k : IntKind} {e : TypeId} {w w' : World} {v : Value} {l : List Nat} (h : Row B k e w v l) {C : Nat} (hb : Below C w w') (hC : w.heap.size ≤ C) : Row B k e w' v l := by
  refine ⟨h.1, ?_⟩
  rcases h.2 with h' | ⟨g, cap, cur, h', h1, h2, h3⟩
  · exact .inl h'
  · exact .inr ⟨g, cap, cur, h', h1, by rw [hb.block g (Nat.lt_of_lt_of_le (Array.getElem?_eq_some_iff.1 h2).1 hC)]; exact h2, h3⟩

/-- 'append' of numbers to a slice of the call's own. -/
theorem wpList_append_nat {P : Program} {w : World} {ops : Array Oper} {rest : List Oper} {o : Oper} {a : Act} {Q : Exit → Act → World → Prop} (hgd : o.guard = none) (s x : Operand) (t : TypeId)
    (ho : o.op = .call { callee := .builtin .append, args := #[s, x], argTypes := #[t, t] })
    (e : TypeId) (i : TypeInfo) (k : IntKind) (bytes : Nat) (ht : P.underlying t = some (.slice e)) (hi : P.info? e = some i) (hz : i.zero = some (.int k 0)) (hsize : i.size = 1) (hby : i.bytes = bytes) (hb8 : bytes ≤ 8)
    (v y : Value) (l m : List Nat) (hs : a.eval s = v) (hx : a.eval x = y) (B : Nat) (hown : Row B k e w v l) (hy : Sees k w y m) (hlen : l.length + m.length ≤ 1048576) (hB : B ≤ w.heap.size)
    (h : ∀ v' w', Row B k e w' v' (l ++ m) → Below B w w' → wpList P ops Q rest (a.put o.dst v') w') : wpList P ops Q (o :: rest) a w := by
  rcases hy with ⟨rfl, rfl⟩ | ⟨b, off, cap, rfl, h1, h2, h3, h4⟩
  · refine wpList_append_own_none hgd s x t ho B e i 1 ht hi v l.length _ hs hown hx ?_
    exact h v w (by rw [List.append_nil]; exact hown) (Below.refl _ _)
  · refine wpList_append_own w hgd s x t ho B e i (.int k 0) 1 bytes ht hi hz hsize hby rfl (by omega) v l.length _ hs hown ⟨b, off, none⟩ m.length cap (m.map fun n => .int k ((n : Nat) : Int)) hx (by simp) ?_ ?_ (by unfold maxLen; omega) ?_ hB ?_
    · intro j u hj
      rw [List.getElem?_map] at hj
      by_cases hjl : j < m.length
      · rw [List.getElem?_eq_getElem hjl, Option.map_some] at hj
        have h5 := h4 j hjl
        rw [List.getD_eq_getElem?_getD, List.getElem?_eq_getElem hjl, Option.getD_some] at h5
        have hadd : (⟨b, off, none⟩ : Addr).add j = ⟨b, off + j, none⟩ := by unfold Addr.add; split <;> simp_all
        rw [hadd, h5]
        exact hj
      · rw [List.getElem?_eq_none (by omega)] at hj; cases hj
    · exact fun u hu => by obtain ⟨n, _, rfl⟩ := List.mem_map.1 hu; rfl
    · have : (l.length + m.length) * bytes ≤ 1048576 * 8 := Nat.mul_le_mul hlen hb8
      omega
    · intro v' w' r1 r2 r3
      refine h v' w' ?_ ((Below.refl _ _).grown r2 hB (fun g hg => (World.ownsRow.lt hown g hg).1))
      unfold Row
      rw [List.length_append, List.map_append]
      exact r1

/-- One new variable of a table. -/
theorem tab1_new (w : World) (n : Int) (b : Nat) (T : TypeId) : TabI (w.alloc (.cells #[.int .i64 n, .int .u64 b] T)) w.heap.size n b ∧ Below w.heap.size w (w.alloc (.cells #[.int .i64 n, .int .u64 b] T)) ∧ (w.alloc (.cells #[.int .i64 n, .int .u64 b] T)).heap.size = w.heap.size + 1 :=
  ⟨tabI_new w n b T, (Below.refl _ w).alloc (Nat.le_refl _) _, by simp⟩
/-- Two of them. -/
theorem tab2_new (w : World) (n : Int) (b : Nat) (m : Int) (c : Nat) (T : TypeId) :
    TabI ((w.alloc (.cells #[.int .i64 n, .int .u64 b] T)).alloc (.cells #[.int .i64 m, .int .u64 c] T)) w.heap.size n b ∧
    TabI ((w.alloc (.cells #[.int .i64 n, .int .u64 b] T)).alloc (.cells #[.int .i64 m, .int .u64 c] T)) (w.heap.size + 1) m c ∧
    Below w.heap.size w ((w.alloc (.cells #[.int .i64 n, .int .u64 b] T)).alloc (.cells #[.int .i64 m, .int .u64 c] T)) ∧
    ((w.alloc (.cells #[.int .i64 n, .int .u64 b] T)).alloc (.cells #[.int .i64 m, .int .u64 c] T)).heap.size = w.heap.size + 2 := by
  obtain ⟨a1, a2, a3⟩ := tab1_new w n b T
  obtain ⟨b1, b2, b3⟩ := tab1_new (w.alloc (.cells #[.int .i64 n, .int .u64 b] T)) m c T
  rw [a3] at b1 b2 b3
  exact ⟨a1.below (by omega) b2, b1, a2.trans (b2.mono (by omega)), b3⟩
/-- Three of them. -/
theorem tab3_new (w : World) (n : Int) (b : Nat) (m : Int) (c : Nat) (k : Int) (d : Nat) (T : TypeId) :
    TabI (((w.alloc (.cells #[.int .i64 n, .int .u64 b] T)).alloc (.cells #[.int .i64 m, .int .u64 c] T)).alloc (.cells #[.int .i64 k, .int .u64 d] T)) w.heap.size n b ∧
    TabI (((w.alloc (.cells #[.int .i64 n, .int .u64 b] T)).alloc (.cells #[.int .i64 m, .int .u64 c] T)).alloc (.cells #[.int .i64 k, .int .u64 d] T)) (w.heap.size + 1) m c ∧
    TabI (((w.alloc (.cells #[.int .i64 n, .int .u64 b] T)).alloc (.cells #[.int .i64 m, .int .u64 c] T)).alloc (.cells #[.int .i64 k, .int .u64 d] T)) (w.heap.size + 2) k d ∧
    Below w.heap.size w (((w.alloc (.cells #[.int .i64 n, .int .u64 b] T)).alloc (.cells #[.int .i64 m, .int .u64 c] T)).alloc (.cells #[.int .i64 k, .int .u64 d] T)) ∧
    (((w.alloc (.cells #[.int .i64 n, .int .u64 b] T)).alloc (.cells #[.int .i64 m, .int .u64 c] T)).alloc (.cells #[.int .i64 k, .int .u64 d] T)).heap.size = w.heap.size + 3 := by
  obtain ⟨a1, a2, a3, a4⟩ := tab2_new w n b m c T
  obtain ⟨b1, b2, b3⟩ := tab1_new ((w.alloc (.cells #[.int .i64 n, .int .u64 b] T)).alloc (.cells #[.int .i64 m, .int .u64 c] T)) k d T
  rw [a4] at b1 b2 b3
  exact ⟨a1.below (by omega) b2, a2.below (by omega) b2, b1, a3.trans (b2.mono (by omega)), b3⟩

end Go.Proofs.YtahjdmdgkkienaaGreatDoor

