/- The essential prime implicants: Essential of package implicant. -/
import Derived.Test.YtahjdmdgkkienaaGreatDoorIm
import Derived.Test.YtahjdmdgkkienaaGreatDoorUj
import Derived.Test.YtahjdmdgkkienaaGreatDoorUk
import Derived.Deep.RegionHeld3
namespace Ic
/-- The points that are in one cube of a list at least, and in two. -/
def onc (n : Nat) (l : List (Nat × Nat)) : Nat × Nat := l.foldl (fun s x => (s.1 ||| tab n x.1 x.2, s.2 ||| (s.1 &&& tab n x.1 x.2))) (0, 0)
/-- The indices of the cubes that alone have some point of On. -/
def ess (n on : Nat) (l : List (Nat × Nat)) (i : Nat) : Bool := (on &&& (18446744073709551615 - (onc n l).2)) &&& tab n (l.getD i (0, 0)).1 (l.getD i (0, 0)).2 != 0
def essL (n on : Nat) (l : List (Nat × Nat)) : List Nat := Tt.pts (ess n on l) l.length
theorem onc_snoc (n : Nat) (l : List (Nat × Nat)) (x : Nat × Nat) : onc n (l ++ [x]) = ((onc n l).1 ||| tab n x.1 x.2, (onc n l).2 ||| ((onc n l).1 &&& tab n x.1 x.2)) := by simp [onc, List.foldl_append]
theorem onc_take {n : Nat} {l : List (Nat × Nat)} {i : Nat} (h : i < l.length) : onc n (l.take (i + 1)) = ((onc n (l.take i)).1 ||| tab n (l.getD i (0, 0)).1 (l.getD i (0, 0)).2, (onc n (l.take i)).2 ||| ((onc n (l.take i)).1 &&& tab n (l.getD i (0, 0)).1 (l.getD i (0, 0)).2)) := by
  rw [List.take_add_one, List.getElem?_eq_getElem h, Option.toList_some, onc_snoc, List.getD_eq_getElem?_getD, List.getElem?_eq_getElem h, Option.getD_some]
theorem onc_lt {n : Nat} (hn : n ≤ 6) (l : List (Nat × Nat)) : (onc n l).1 < 2 ^ 64 ∧ (onc n l).2 < 2 ^ 64 := by
  unfold onc
  have : ∀ (l : List (Nat × Nat)) (s : Nat × Nat), s.1 < 2 ^ 64 ∧ s.2 < 2 ^ 64 → (l.foldl (fun s x => (s.1 ||| tab n x.1 x.2, s.2 ||| (s.1 &&& tab n x.1 x.2))) s).1 < 2 ^ 64 ∧ (l.foldl (fun s x => (s.1 ||| tab n x.1 x.2, s.2 ||| (s.1 &&& tab n x.1 x.2))) s).2 < 2 ^ 64 := by
    intro l
    induction l with
    | nil => intro s h; exact h
    | cons x l ih =>
      intro s h
      rw [List.foldl_cons]
      have ht := Tt.w64 hn (tab_lt n x.1 x.2)
      exact ih _ ⟨Nat.or_lt_two_pow h.1 ht, Nat.or_lt_two_pow h.2 (Nat.lt_of_le_of_lt Nat.and_le_left h.1)⟩
  exact this l (0, 0) ⟨by decide, by decide⟩
theorem cubesL_fits (n : Nat) : ∀ x ∈ cubesL n, Fits n x := by
  induction n with
  | zero => intro x h; simp [cubesL] at h; subst h; exact Fits.zero
  | succ n ih =>
    intro x h
    rw [cubesL, List.mem_flatMap] at h
    obtain ⟨y, hy, hx⟩ := h
    simp only [three, List.mem_cons, List.not_mem_nil, or_false] at hx
    rcases hx with rfl | rfl | rfl
    · exact (ih y hy).one
    · exact (ih y hy).two
    · exact (ih y hy).tri
theorem primesS_fits (n on fr : Nat) : ∀ x ∈ primesS n on fr, Fits n x := by
  intro x h
  rw [primesS, sortL_mem, primesL, List.mem_filter] at h
  exact cubesL_fits n x h.1
theorem primesS_len {n on fr : Nat} (hn : n ≤ 6) : (primesS n on fr).length ≤ 729 := by
  rw [primesS, sortL_length, primesL]
  refine Nat.le_trans (List.length_filter_le _ _) ?_
  rw [cubesL_len]
  exact Nat.pow_le_pow_right (n := 3) (by omega) hn
end Ic
namespace Go.Proofs.YtahjdmdgkkienaaGreatDoor
open Go.RowKit Go.Shelf

/-- Where the cubes lie, if there are any. -/
def CellsC (w : World) (ao : Option Addr) (l : List (Nat × Nat)) : Prop :=
  0 < l.length → ∃ g, ao = some ⟨g, 0, none⟩ ∧ g < w.heap.size ∧ ∀ i, i < l.length → w.cell? ⟨g, i * 2, none⟩ = some (.int .u64 ((l.getD i (0, 0)).1 : Int)) ∧ w.cell? ⟨g, i * 2 + 1, none⟩ = some (.int .u64 ((l.getD i (0, 0)).2 : Int))
theorem SeesC.opened {w : World} {v : Value} {l : List (Nat × Nat)} (h : SeesC w v l) : ∃ ao cap, v = .slice ao l.length cap ∧ l.length ≤ cap ∧ cap ≤ 9223372036854775807 ∧ CellsC w ao l := by
  rcases h with ⟨rfl, rfl⟩ | ⟨g, cap, rfl, h1, h2, h3, h4⟩
  · exact ⟨none, 0, rfl, Nat.le_refl _, by omega, fun h => by simp at h⟩
  · exact ⟨_, cap, rfl, h1, by unfold maxLen at h2; omega, fun _ => ⟨g, rfl, h3, h4⟩⟩
theorem CellsC.at {w wr : World} {ao : Option Addr} {l : List (Nat × Nat)} (h : CellsC w ao l) (hb : Below w.heap.size w wr) {i : Nat} (hi : i < l.length) :
    ∃ g, ao = some ⟨g, 0, none⟩ ∧ g < w.heap.size ∧ wr.cell? ⟨g, i * 2, none⟩ = some (.int .u64 ((l.getD i (0, 0)).1 : Int)) ∧ wr.cell? ⟨g, i * 2 + 1, none⟩ = some (.int .u64 ((l.getD i (0, 0)).2 : Int)) := by
  obtain ⟨g, h1, h2, h3⟩ := h (by omega)
  exact ⟨g, h1, h2, (hb.cell (p := ⟨g, i * 2, none⟩) h2).trans (h3 i hi).1, (hb.cell (p := ⟨g, i * 2 + 1, none⟩) h2).trans (h3 i hi).2⟩

end Go.Proofs.YtahjdmdgkkienaaGreatDoor

