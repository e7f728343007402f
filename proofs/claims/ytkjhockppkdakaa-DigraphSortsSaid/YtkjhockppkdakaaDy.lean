/- The sort of edges. -/
import Derived.Test.YtkjhockppkdakaaDx
import Derived.Shelf.SlSortCmp.NoneTotal
import Derived.RangeFuncBox
namespace De
open Go
/-- A cube's two cells. -/
def encC (x : Nat × Nat) : List Value := [.int .i64 (x.1 : Int), .int .i64 (x.2 : Int)]
/-- The sorted list. -/
def sortL (l : List (Nat × Nat)) : List (Nat × Nat) := l.mergeSort fun x y => !(Go.Proofs.ltOf ord y x)
theorem sortL_length (l : List (Nat × Nat)) : (sortL l).length = l.length := List.length_mergeSort l
theorem sortL_mem {l : List (Nat × Nat)} {x : Nat × Nat} : x ∈ sortL l ↔ x ∈ l := List.mem_mergeSort
theorem flat_len (l : List (Nat × Nat)) : (l.flatMap encC).length = l.length * 2 := by
  induction l with
  | nil => rfl
  | cons x l ih => simp [ih, encC]; omega
theorem flat_get (l : List (Nat × Nat)) (j c : Nat) (hj : j < l.length) (hc : c < 2) : (l.flatMap encC)[j * 2 + c]? = (encC (l.getD j (0, 0)))[c]? := by
  induction l generalizing j with
  | nil => simp at hj
  | cons x l ih =>
    rcases Nat.eq_zero_or_pos j with rfl | hp
    · rcases (show c = 0 ∨ c = 1 by omega) with rfl | rfl <;> simp [encC]
    · obtain ⟨i, rfl⟩ : ∃ i, j = i + 1 := ⟨j - 1, by omega⟩
      have := ih i (by simpa using hj)
      rw [List.flatMap_cons, List.getElem?_append_right (by simp [encC]; omega)]
      rw [show (i + 1) * 2 + c - (encC x).length = i * 2 + c by simp [encC]; omega, this]
      simp
theorem ltOrd (x y : Nat × Nat) : Go.Proofs.ltOf ord x y = decide (x.1 < y.1 ∨ (x.1 = y.1 ∧ x.2 < y.2)) := by
  unfold Go.Proofs.ltOf ord Go.Lib.compareInt
  rw [decide_eq_decide]
  (repeat' split) <;> omega
end De
namespace Go.Proofs.Ytkjhockppkdakaa
open Go.RowKit Go.Shelf Go.Sort

theorem swoC : SWO (ltOf De.ord) where
  irrefl x := by rw [De.ltOrd]; simp
  trans x y z h1 h2 := by rw [De.ltOrd] at *; simp at *; omega
  ntrans x y z h1 h2 := by rw [De.ltOrd] at *; simp at *; omega
theorem totC (x y : Nat × Nat) (h1 : ltOf De.ord x y = false) (h2 : ltOf De.ord y x = false) : x = y := by
  rw [De.ltOrd] at *
  simp at h1 h2
  exact Prod.ext (by omega) (by omega)

theorem grownBy_sortedK {w : World} {g n : Nat} {os : Array Obj} (d : Array (Nat × Nat)) : w.grownBy (sortWorldK De.encC 2 w g 0 n d os) (some g) := by
  refine ⟨rfl, rfl, rfl, by simp [sortWorldK, putRowK], fun k hk hne => ?_⟩
  unfold sortWorldK putRowK
  rw [heap_grow_old _ _ (by simpa using hk)]
  have : g ≠ k := fun e => hne (by rw [e])
  simp [putRow, mapBlock, Sort.ahead, Array.getElem?_modify, this]

theorem holds_of_row {w : World} {B : Nat} {e : TypeId} {g n cap : Nat} {l : List (Nat × Nat)} (h : w.ownsRow B e 2 (.slice (some ⟨g, 0, none⟩) n cap) l.length (l.flatMap De.encC)) : HoldsK De.encC 2 w g 0 l.toArray := by
  intro t ht
  have ht2 : t < l.length * 2 := by simpa using ht
  have hj : t / 2 < l.length := by omega
  have h5 := World.ownsRow.cells h (g := g) rfl t
  have e1 : t = t / 2 * 2 + t % 2 := by omega
  have h6 := De.flat_get l (t / 2) (t % 2) hj (Nat.mod_lt _ (by omega))
  rw [← e1] at h6
  rw [addr_add] at h5
  refine ⟨?_, ?_⟩
  · rw [Nat.zero_add]
    have h7 := get_flatK De.encC 2 l.toArray t (by simpa using ht)
    unfold id
    rw [h7]
    have hm : t % 2 = 0 ∨ t % 2 = 1 := by omega
    have e2 : (l.toArray)[t / 2]! = l.getD (t / 2) (0, 0) := by simp [hj]
    rw [e2]
    refine h5 _ ?_
    rw [h6]
    rcases hm with hm | hm <;> rw [hm] <;> rfl
  · rcases h.2 with ⟨hv, _⟩ | ⟨g', cap', cur, hv, _, hg, _⟩
    · cases hv
    · cases hv
      simp [World.frozen?, hg]


/-- A block of edges that may be written. -/
def ArrE (W : World) (g : Nat) (l : List (Nat × Nat)) : Prop := g < W.heap.size ∧ ∀ i, i < l.length → (W.cell? ⟨g, i * 2, none⟩ = some (.int .i64 ((l.getD i (0, 0)).1 : Int)) ∧ W.cell? ⟨g, i * 2 + 1, none⟩ = some (.int .i64 ((l.getD i (0, 0)).2 : Int))) ∧ W.frozen? ⟨g, i * 2, none⟩ = false ∧ W.frozen? ⟨g, i * 2 + 1, none⟩ = false
theorem dSortE_any (l : List (Nat × Nat)) (v : Value) (w : World) (B : Nat) (e : TypeId) (h : w.ownsRow B e 2 v l.length (l.flatMap De.encC)) (hlen : l.length < 4611686018427387904) :
    Calls Try.prog 60 #[v, .func (.func 61) #[] #[]] w fun e w' => e = .returned (.tuple #[]) ∧ w.grownBy w' v.ownBlock ∧ ((v = .slice none 0 0 ∧ l = []) ∨ ∃ g cap, v = .slice (some ⟨g, 0, none⟩) l.length cap ∧ B ≤ g ∧ l.length ≤ cap ∧ cap ≤ maxLen ∧ ArrE w' g (De.sortL l)) := by
  rcases h.2 with ⟨rfl, h0⟩ | ⟨g, cap, cur, rfl, hb, hg, h1, h2, h3, h4⟩
  · have hcon := AnyF.slices_SortFunc_none Try.sortEdge none 0 (.func (.func 61) #[] #[]) w
    change Calls Try.prog 60 _ _ _ at hcon
    obtain rfl : l = [] := List.eq_nil_of_length_eq_zero h0
    refine hcon.mono ?_
    rintro e w' ⟨rfl, rfl⟩
    exact ⟨rfl, ⟨rfl, rfl, rfl, Nat.le_refl _, fun _ _ _ => rfl⟩, .inl ⟨rfl, rfl⟩⟩
  · have hH := holds_of_row h
    have hblk : g < w.heap.size := (Array.getElem?_eq_some_iff.1 hg).1
    have eg : ∀ args w, (callFunc 61 args).run Try.prog w = .ok (.enter 61 args) w := enters_of Try.func61 (by kernel_rfl) rfl
    have hcon := AnyQ.slices_SortFunc_total Try.sortEdge 2 Try.isAgg60 Try.sizeOf60 De.encC (fun _ => rfl) (fun x v hv => by simp [De.encC] at hv; rcases hv with rfl | rfl <;> rfl) De.ord swoC 61 #[] g 0 cap l.toArray w eg
      (fun _ _ _ _ x y => order_any x y _) hH hblk (by simpa using hlen) totC
    change Calls Try.prog 60 _ _ _ at hcon
    rw [List.size_toArray] at hcon
    refine hcon.mono ?_
    rintro e w' ⟨rfl, n, os, rfl⟩
    have hbg : w.grownBy (sortWorldK De.encC 2 w g 0 n (De.sortL l).toArray os) (some g) := grownBy_sortedK _
    refine ⟨rfl, hbg, .inr ⟨g, cap, rfl, hb, h1, h2, Nat.lt_of_lt_of_le hblk hbg.size, fun i hi => ?_⟩⟩
    have hK : HoldsK De.encC 2 (sortWorldK De.encC 2 w g 0 n (De.sortL l).toArray os) g 0 (De.sortL l).toArray :=
      holdsK_grow De.encC 2 _ os g 0 _ (by rw [size_putRowK]; simpa using hblk) (holdsK_putRowK De.encC 2 (Sort.ahead w n) g 0 l.toArray (De.sortL l).toArray (holdsK_ahead De.encC 2 w n g 0 _ hH) (by simp [De.sortL_length]))
    obtain ⟨k0, f0⟩ := hK.cell (i := i) (c := 0) (by simpa using hi) (by omega)
    obtain ⟨k1, f1⟩ := hK.cell (i := i) (c := 1) (by simpa using hi) (by omega)
    have e2 : ((De.sortL l).toArray)[i]! = (De.sortL l).getD i (0, 0) := by simp [hi]
    rw [e2] at k0 k1
    rw [Nat.zero_add, Nat.add_zero] at k0 f0
    rw [Nat.zero_add] at k1 f1
    exact ⟨⟨k0, k1⟩, f0, f1⟩
end Go.Proofs.Ytkjhockppkdakaa
