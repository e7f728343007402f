/- The contracts of Meet and Consensus of package implicant. -/
import Derived.Test.YtahjdmdgkkienaaGreatDoorIb
namespace Go.Proofs.YtahjdmdgkkienaaGreatDoor
open Go.RowKit Go.Shelf

theorem iOnes64_any (x : Nat) (w : World) (hx : x < 64) : Calls Tryz.prog 74 #[.int .u64 (x : Int)] w fun e w' => e = .returned (.int .i64 ((Ic.cnt x : Nat) : Int)) ∧ w = w' := by
  obtain ⟨X, hX⟩ : ∃ X : Int, (x : Int) = X := ⟨_, rfl⟩
  obtain ⟨N, hN⟩ : ∃ N : Int, ((Ic.cnt x : Nat) : Int) = N := ⟨_, rfl⟩
  have HX := Lib.hid (And.intro hX (And.intro hN hx))
  rw [hX, hN]
  clear hX hN hx
  go_enter Tryz.func74, Tryz.ntmps74
  go_wp2
  go_ret
  refine ⟨ret_int ?_, rfl⟩
  obtain ⟨rfl, rfl, hx⟩ := HX.out
  clear HX
  revert x
  decide +kernel
theorem iOnes_any (x : Nat) (w : World) (hx : x < 64) : Calls Tryz.prog 55 #[.int .u64 (x : Int)] w fun e w' => e = .returned (.int .i64 ((Ic.cnt x : Nat) : Int)) ∧ w = w' := by
  have C := fun W => Lib.hid (iOnes64_any x W hx)
  generalize Ic.cnt x = N at *
  go_enter Tryz.func55, Tryz.ntmps55
  go_wp2_with (go_at_call 74; refine ((C _).out).mono ?_; rintro e w1 ⟨rfl, rfl⟩)
  go_ret
  exact ⟨rfl, rfl⟩

theorem CubI.set0 {W : World} {g c v : Nat} (h : CubI W g c v) (d : Nat) : CubI (W.setCell ⟨g, 0, none⟩ (.int .u64 (d : Int))) g d v := by
  obtain ⟨h0, h1, h2, h3, h4⟩ := h
  exact ⟨by simpa using h0, World.cell?_setCell_same' _ _ _ (by rw [h1]; rfl), (World.cell?_setCell_other (w := W) (v := .int .u64 (d : Int)) (a := ⟨g, 0, none⟩) (b := ⟨g, 1, none⟩) (by simp)).trans h2, by rw [World.frozen?_setCell]; exact h3, by rw [World.frozen?_setCell]; exact h4⟩
theorem CubI.set1 {W : World} {g c v : Nat} (h : CubI W g c v) (u : Nat) : CubI (W.setCell ⟨g, 1, none⟩ (.int .u64 (u : Int))) g c u := by
  obtain ⟨h0, h1, h2, h3, h4⟩ := h
  exact ⟨by simpa using h0, (World.cell?_setCell_other (w := W) (v := .int .u64 (u : Int)) (a := ⟨g, 1, none⟩) (b := ⟨g, 0, none⟩) (by simp)).trans h1, World.cell?_setCell_same' _ _ _ (by rw [h2]; rfl), by rw [World.frozen?_setCell]; exact h3, by rw [World.frozen?_setCell]; exact h4⟩
/-- A new cube in its variable, behind a store. -/
theorem CubI.put {W : World} {g c v : Nat} (h : CubI W g c v) (d u : Nat) : CubI ((W.setCell ⟨g, 0, none⟩ (.int .u64 (d : Int))).setCell ⟨g, 1, none⟩ (.int .u64 (u : Int))) g d u := (h.set0 d).set1 u
theorem CubI.other {W : World} {g g' j c v : Nat} (x : Value) (h : CubI W g c v) (hne : g' ≠ g) : CubI (W.setCell ⟨g', j, none⟩ x) g c v := by
  obtain ⟨h0, h1, h2, h3, h4⟩ := h
  exact ⟨by simpa using h0, (World.cell?_setCell_other (w := W) (v := x) (a := ⟨g', j, none⟩) (b := ⟨g, 0, none⟩) (fun e => hne (congrArg Addr.block e))).trans h1,
    (World.cell?_setCell_other (w := W) (v := x) (a := ⟨g', j, none⟩) (b := ⟨g, 1, none⟩) (fun e => hne (congrArg Addr.block e))).trans h2, by rw [World.frozen?_setCell]; exact h3, by rw [World.frozen?_setCell]; exact h4⟩
end Go.Proofs.YtahjdmdgkkienaaGreatDoor

