/- The contracts of the reference of tables: Both, Either, Made. -/
import Derived.Test.YtekeedccgnbkkaaDoorUh
namespace Go.Proofs.YtekeedccgnbkkaaDoor
open Go.RowKit

theorem TabI.setBits {W : World} {g : Nat} {n : Int} {b : Nat} (h : TabI W g n b) (c : Nat) : TabI (W.setCell ⟨g, 1, none⟩ (.int .u64 (c : Int))) g n c := by
  obtain ⟨h0, h1, h2, h3, h4⟩ := h
  exact ⟨by simpa using h0, (World.cell?_setCell_other (w := W) (v := .int .u64 (c : Int)) (a := ⟨g, 1, none⟩) (b := ⟨g, 0, none⟩) (by simp)).trans h1, World.cell?_setCell_same' _ _ _ (by rw [h2]; rfl), by rw [World.frozen?_setCell]; exact h3, by rw [World.frozen?_setCell]; exact h4⟩
theorem TabI.other {W : World} {g g' j : Nat} {n : Int} {b : Nat} (v : Value) (h : TabI W g n b) (hne : g' ≠ g) : TabI (W.setCell ⟨g', j, none⟩ v) g n b := by
  obtain ⟨h0, h1, h2, h3, h4⟩ := h
  exact ⟨by simpa using h0, (World.cell?_setCell_other (w := W) (v := v) (a := ⟨g', j, none⟩) (b := ⟨g, 0, none⟩) (fun e => hne (congrArg Addr.block e))).trans h1,
    (World.cell?_setCell_other (w := W) (v := v) (a := ⟨g', j, none⟩) (b := ⟨g, 1, none⟩) (fun e => hne (congrArg Addr.block e))).trans h2, by rw [World.frozen?_setCell]; exact h3, by rw [World.frozen?_setCell]; exact h4⟩
theorem TabI.drew {W : World} {g : Nat} {n : Int} {b : Nat} (h : TabI W g n b) : TabI W.drew g n b := h
/-- A bit that is set. -/
theorem or_bit (b k : Nat) (hb : b < 2 ^ 64) (hk : k < 64) : bits .or .u64 (b : Int) (IntKind.u64.wrap (2 ^ k)) = ((b ||| 2 ^ k : Nat) : Int) := by
  have hp : 2 ^ k < 2 ^ 64 := Nat.pow_lt_pow_right (by omega) hk
  have h0 : 0 < 2 ^ k := Nat.pow_pos (by omega)
  have e2 : IntKind.u64.wrap (2 ^ k) = ((2 ^ k : Nat) : Int) := by
    rw [show ((2 : Int) ^ k) = ((2 ^ k : Nat) : Int) by simp, IntKind.wrap_u64]
    omega
  rw [e2, u64_or_nat _ _ (by omega) (by omega)]

/-- Does a list have a number? -/
def inB (xs : List Nat) (k : Nat) : Bool := xs.contains k
theorem inB_step {xs : List Nat} {k : Nat} (h : ∀ i, i < xs.length → xs.getD i 0 ≠ k) : inB xs k = false := by
  unfold inB
  rw [Bool.eq_false_iff]
  intro h2
  rw [List.contains_iff_mem] at h2
  obtain ⟨i, hi, he⟩ := List.getElem_of_mem h2
  exact h i hi (by rw [List.getD_eq_getElem?_getD, List.getElem?_eq_getElem hi]; exact he)
theorem inB_hit {xs : List Nat} {i k : Nat} (hi : i < xs.length) (h : xs.getD i 0 = k) : inB xs k = true := by
  unfold inB
  rw [List.contains_iff_mem]
  rw [List.getD_eq_getElem?_getD, List.getElem?_eq_getElem hi] at h
  exact List.mem_of_getElem h

end Go.Proofs.YtekeedccgnbkkaaDoor

