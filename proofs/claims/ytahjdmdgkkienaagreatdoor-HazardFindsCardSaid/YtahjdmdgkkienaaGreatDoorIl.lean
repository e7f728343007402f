/- Slices of cubes: how they read, and the sort of them. -/
import Derived.Test.YtahjdmdgkkienaaGreatDoorIk
import Derived.Test.YtahjdmdgkkienaaGreatDoorUi
import Derived.Shelf.SlSortCmp.NoneTotal
import Derived.RangeFuncBox
namespace Ic
open Go
/-- A cube's two cells. -/
def encC (x : Nat × Nat) : List Value := [.int .u64 (x.1 : Int), .int .u64 (x.2 : Int)]
/-- The sorted list. -/
def sortL (l : List (Nat × Nat)) : List (Nat × Nat) := l.mergeSort fun x y => !(Go.Proofs.ltOf ord y x)
theorem sortL_length (l : List (Nat × Nat)) : (sortL l).length = l.length := List.length_mergeSort l
theorem sortL_mem {l : List (Nat × Nat)} {x : Nat × Nat} : x ∈ sortL l ↔ x ∈ l := List.mem_mergeSort
theorem flat_len (l : List (Nat × Nat)) : (l.flatMap encC).length = l.length * 2 := by
  induction l with
  | nil => rfl
  | cons x l ih => simp [ih, encC]; omega
theorem flat_get (l : List (Nat × Nat)) (j c : Nat) (hj : j < l.length) (hc : c < 2) : (l.flatMap encC)[j * 2 + c]? = (encC (l.getD j (0, 0)))[c]? := by
  induction l generalizing j with
  | nil => simp at hj
  | cons x l ih =>
    rcases Nat.eq_zero_or_pos j with rfl | hp
    · rcases (show c = 0 ∨ c = 1 by omega) with rfl | rfl <;> simp [encC]
    · obtain ⟨i, rfl⟩ : ∃ i, j = i + 1 := ⟨j - 1, by omega⟩
      have := ih i (by simpa using hj)
      rw [List.flatMap_cons, List.getElem?_append_right (by simp [encC]; omega)]
      rw [show (i + 1) * 2 + c - (encC x).length = i * 2 + c by simp [encC]; omega, this]
      simp
theorem ltOrd (x y : Nat × Nat) : Go.Proofs.ltOf ord x y = decide (x.1 < y.1 ∨ (x.1 = y.1 ∧ x.2 < y.2)) := by
  unfold Go.Proofs.ltOf ord Go.Lib.compareInt
  rw [decide_eq_decide]
  (repeat' split) <;> omega
end Ic
namespace Go.Proofs.YtahjdmdgkkienaaGreatDoor
open Go.RowKit Go.Shelf Go.Sort

/-- A slice value reads as a list of cubes. -/
def SeesC (w : World) (v : Value) (l : List (Nat × Nat)) : Prop :=
  (v = .slice none 0 0 ∧ l = []) ∨
  ∃ g cap, v = .slice (some ⟨g, 0, none⟩) l.length cap ∧ l.length ≤ cap ∧ cap ≤ maxLen ∧ g < w.heap.size ∧
    ∀ i, i < l.length → w.cell? ⟨g, i * 2, none⟩ = some (.int .u64 ((l.getD i (0, 0)).1 : Int)) ∧ w.cell? ⟨g, i * 2 + 1, none⟩ = some (.int .u64 ((l.getD i (0, 0)).2 : Int))
theorem SeesC.step {w w' : World} {v : Value} {l : List (Nat × Nat)} (h : SeesC w v l) (hb : Below w.heap.size w w') : SeesC w' v l := by
  rcases h with h | ⟨g, cap, rfl, h1, h2, h3, h4⟩
  · exact .inl h
  · exact .inr ⟨g, cap, rfl, h1, h2, Nat.lt_of_lt_of_le h3 hb.size, fun i hi => ⟨(hb.cell (p := ⟨g, i * 2, none⟩) h3).trans (h4 i hi).1, (hb.cell (p := ⟨g, i * 2 + 1, none⟩) h3).trans (h4 i hi).2⟩⟩

theorem swoC : SWO (ltOf Ic.ord) where
  irrefl x := by rw [Ic.ltOrd]; simp
  trans x y z h1 h2 := by rw [Ic.ltOrd] at *; simp at *; omega
  ntrans x y z h1 h2 := by rw [Ic.ltOrd] at *; simp at *; omega
theorem totC (x y : Nat × Nat) (h1 : ltOf Ic.ord x y = false) (h2 : ltOf Ic.ord y x = false) : x = y := by
  rw [Ic.ltOrd] at *
  simp at h1 h2
  exact Prod.ext (by omega) (by omega)

theorem grownBy_sortedK {w : World} {g n : Nat} {os : Array Obj} (d : Array (Nat × Nat)) : w.grownBy (sortWorldK Ic.encC 2 w g 0 n d os) (some g) := by
  refine ⟨rfl, rfl, rfl, by simp [sortWorldK, putRowK], fun k hk hne => ?_⟩
  unfold sortWorldK putRowK
  rw [heap_grow_old _ _ (by simpa using hk)]
  have : g ≠ k := fun e => hne (by rw [e])
  simp [putRow, mapBlock, Sort.ahead, Array.getElem?_modify, this]

theorem addr_add (g t : Nat) : (⟨g, 0, none⟩ : Addr).add t = ⟨g, t, none⟩ := by unfold Addr.add; split <;> simp_all
theorem holds_of_row {w : World} {B : Nat} {e : TypeId} {g n cap : Nat} {l : List (Nat × Nat)} (h : w.ownsRow B e 2 (.slice (some ⟨g, 0, none⟩) n cap) l.length (l.flatMap Ic.encC)) : HoldsK Ic.encC 2 w g 0 l.toArray := by
  intro t ht
  have ht2 : t < l.length * 2 := by simpa using ht
  have hj : t / 2 < l.length := by omega
  have h5 := World.ownsRow.cells h (g := g) rfl t
  have e1 : t = t / 2 * 2 + t % 2 := by omega
  have h6 := Ic.flat_get l (t / 2) (t % 2) hj (Nat.mod_lt _ (by omega))
  rw [← e1] at h6
  rw [addr_add] at h5
  refine ⟨?_, ?_⟩
  · rw [Nat.zero_add]
    have h7 := get_flatK Ic.encC 2 l.toArray t (by simpa using ht)
    unfold id
    rw [h7]
    have hm : t % 2 = 0 ∨ t % 2 = 1 := by omega
    have e2 : (l.toArray)[t / 2]! = l.getD (t / 2) (0, 0) := by simp [hj]
    rw [e2]
    refine h5 _ ?_
    rw [h6]
    rcases hm with hm | hm <;> rw [hm] <;> rfl
  · rcases h.2 with ⟨hv, _⟩ | ⟨g', cap', cur, hv, _, hg, _⟩
    · cases hv
    · cases hv
      simp [World.frozen?, hg]


theorem iSort_any (l : List (Nat × Nat)) (v : Value) (w : World) (B : Nat) (e : TypeId) (h : w.ownsRow B e 2 v l.length (l.flatMap Ic.encC)) (hlen : l.length < 4611686018427387904) :
    Calls Tryz.prog 81 #[v, .func (.func 82) #[] #[]] w fun e w' => e = .returned (.tuple #[]) ∧ w.grownBy w' v.ownBlock ∧ SeesC w' v (Ic.sortL l) := by
  rcases h.2 with ⟨rfl, h0⟩ | ⟨g, cap, cur, rfl, hb, hg, h1, h2, h3, h4⟩
  · have hcon := AnyF.slices_SortFunc_none Tryz.sortCube none 0 (.func (.func 82) #[] #[]) w
    change Calls Tryz.prog 81 _ _ _ at hcon
    obtain rfl : l = [] := List.eq_nil_of_length_eq_zero h0
    refine hcon.mono ?_
    rintro e w' ⟨rfl, rfl⟩
    exact ⟨rfl, ⟨rfl, rfl, rfl, Nat.le_refl _, fun _ _ _ => rfl⟩, .inl ⟨rfl, by simp [Ic.sortL]⟩⟩
  · have hH := holds_of_row h
    have hblk : g < w.heap.size := (Array.getElem?_eq_some_iff.1 hg).1
    have eg : ∀ args w, (callFunc 82 args).run Tryz.prog w = .ok (.enter 82 args) w := enters_of Tryz.func82 (by kernel_rfl) rfl
    have hcon := AnyQ.slices_SortFunc_total Tryz.sortCube 2 Tryz.isAgg62 Tryz.sizeOf62 Ic.encC (fun _ => rfl) (fun x v hv => by simp [Ic.encC] at hv; rcases hv with rfl | rfl <;> rfl) Ic.ord swoC 82 #[] g 0 cap l.toArray w eg
      (fun _ _ _ _ x y => order_any x y _) hH hblk (by simpa using hlen) totC
    change Calls Tryz.prog 81 _ _ _ at hcon
    rw [List.size_toArray] at hcon
    refine hcon.mono ?_
    rintro e w' ⟨rfl, n, os, rfl⟩
    have hbg : w.grownBy (sortWorldK Ic.encC 2 w g 0 n (Ic.sortL l).toArray os) (some g) := grownBy_sortedK _
    refine ⟨rfl, hbg, .inr ⟨g, cap, by rw [Ic.sortL_length], by rw [Ic.sortL_length]; exact h1, h2, Nat.lt_of_lt_of_le hblk hbg.size, fun i hi => ?_⟩⟩
    have hK : HoldsK Ic.encC 2 (sortWorldK Ic.encC 2 w g 0 n (Ic.sortL l).toArray os) g 0 (Ic.sortL l).toArray :=
      holdsK_grow Ic.encC 2 _ os g 0 _ (by rw [size_putRowK]; simpa using hblk) (holdsK_putRowK Ic.encC 2 (Sort.ahead w n) g 0 l.toArray (Ic.sortL l).toArray (holdsK_ahead Ic.encC 2 w n g 0 _ hH) (by simp [Ic.sortL_length]))
    have k0 := (hK.cell (i := i) (c := 0) (by simpa using hi) (by omega)).1
    have k1 := (hK.cell (i := i) (c := 1) (by simpa using hi) (by omega)).1
    have e2 : ((Ic.sortL l).toArray)[i]! = (Ic.sortL l).getD i (0, 0) := by simp [hi]
    rw [e2] at k0 k1
    rw [Nat.zero_add, Nat.add_zero] at k0
    rw [Nat.zero_add] at k1
    exact ⟨k0, k1⟩
end Go.Proofs.YtahjdmdgkkienaaGreatDoor

