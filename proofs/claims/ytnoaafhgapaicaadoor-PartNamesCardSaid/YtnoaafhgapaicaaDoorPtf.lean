/- Words of package lexer, for all texts. -/
import Derived.Test.YtnoaafhgapaicaaDoorGI
namespace Pt
def isLet (c : UInt8) : Bool := (decide (97 ≤ c.toNat) && decide (c.toNat ≤ 122)) || (decide (65 ≤ c.toNat) && decide (c.toNat ≤ 90))
def isDg (c : UInt8) : Bool := decide (48 ≤ c.toNat) && decide (c.toNat ≤ 57)
def inn (c : UInt8) : Bool := isLet c || isDg c || c.toNat == 95
theorem hits : ∀ n, n < 256 → hit (UInt8.ofNat n) 5 = isLet (UInt8.ofNat n) ∧ hit (UInt8.ofNat n) 3 = isDg (UInt8.ofNat n) ∧ hit (UInt8.ofNat n) 4 = (n == 95) ∧ ∀ i, i < 6 → ∀ j, j < 6 → hit (UInt8.ofNat n) i = true → hit (UInt8.ofNat n) j = true → i = j := by decide +kernel
theorem hit_of (c : UInt8) : hit c 5 = isLet c ∧ hit c 3 = isDg c ∧ hit c 4 = (c.toNat == 95) ∧ ∀ i, i < 6 → ∀ j, j < 6 → hit c i = true → hit c j = true → i = j := by
  have := hits c.toNat (UInt8.toNat_lt c)
  rwa [UInt8.ofNat_toNat] at this
def clsV (c : UInt8) : Nat := if isLet c then 5 else if isDg c then 3 else if c.toNat == 95 then 4 else if hit c 1 then 1 else if hit c 2 then 2 else 0
theorem cls_is {c : UInt8} {r : Nat} (h : Cls c r) : r = clsV c := by
  obtain ⟨h5, h3, h4, hx⟩ := hit_of c
  unfold clsV
  rw [← h5, ← h3, ← h4]
  rcases h with ⟨g1, g2, g3⟩ | ⟨rfl, g3⟩
  · have key : ∀ j, j < 6 → hit c j = true → r = j := fun j hj h => hx r g1 j hj g2 h
    have nk : ∀ j, j < 6 → r ≠ j → hit c j = false := fun j hj hne => by
      cases e : hit c j with
      | false => rfl
      | true => exact absurd (key j hj e) hne
    have hr : r = 0 ∨ r = 1 ∨ r = 2 ∨ r = 3 ∨ r = 4 ∨ r = 5 := by omega
    rcases hr with rfl | rfl | rfl | rfl | rfl | rfl <;> simp [nk, g2]
  · simp [g3]
theorem cls_five (c : UInt8) : clsV c = 5 ↔ isLet c = true := by
  unfold clsV
  cases isLet c <;> simp
  split <;> (try split) <;> (try split) <;> (try split) <;> omega
theorem cls_inn (c : UInt8) : decide (3 ≤ clsV c) = inn c := by
  unfold clsV inn
  cases isLet c <;> cases isDg c <;> cases (c.toNat == 95) <;> simp
  split <;> (try split) <;> omega
theorem cls_lt (c : UInt8) : clsV c < 6 := by unfold clsV; split <;> (try split) <;> (try split) <;> (try split) <;> (try split) <;> omega
end Pt
namespace Go.Proofs.YtnoaafhgapaicaaDoor
open Go.RowKit
/-- What the second variable of lexer holds. -/
structure Lg (w : World) : Prop where
  lx : Lx w
  go : ∀ r, r < 6 → w.cell? ⟨1, 30 + r, none⟩ = some (.bool (decide (3 ≤ r)))
theorem Lg.next {w w' : World} (h : Lg w) (hb : Below w.heap.size w w') : Lg w' :=
  ⟨h.lx.next hb, fun r hr => (hb.cell (p := ⟨1, 30 + r, none⟩) (by have := h.lx.size; show 1 < w.heap.size; omega)).trans (h.go r hr)⟩
theorem classOf_fun (c : UInt8) (w : World) (hx : Lx w) : Calls Tryd.prog 75 #[.int .u8 (c.toNat : Int)] w fun e w' => e = .returned (.int .i64 (Pt.clsV c : Int)) ∧ w' = w := by
  refine (classOf_any c.toNat (UInt8.toNat_lt c) w hx).mono ?_
  rintro e w' ⟨r, rfl, hr, rfl⟩
  rw [UInt8.ofNat_toNat] at hr
  rw [Pt.cls_is hr]
  exact ⟨rfl, rfl⟩
end Go.Proofs.YtnoaafhgapaicaaDoor
