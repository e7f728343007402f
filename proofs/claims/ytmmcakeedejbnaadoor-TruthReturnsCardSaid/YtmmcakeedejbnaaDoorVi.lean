/- Rename of package truth and of its reference, in the same words. -/
import Derived.Test.YtmmcakeedejbnaaDoorVh
import Derived.Test.YtmmcakeedejbnaaDoorVg
import Derived.Test.YtmmcakeedejbnaaDoorUo
namespace Go.Proofs.YtmmcakeedejbnaaDoor
open Go.RowKit

def renV (n : Int) (b : Nat) (os : List Int) : (Int × Nat) × Int := if Tt.chk n b = 0 then (if Tt.ordE n os = 0 then ((n, Tt.mk n.toNat (fun x => b.testBit (Tt.refY (os.map Int.toNat) x n.toNat))), 0) else ((0, 0), Tt.ordE n os)) else ((0, 0), Tt.chk n b)
theorem tRename_any (n : Int) (b : Nat) (os : List Int) (v : Value) (w : World) (hb : b < 2 ^ 64) (hst : St w) (hs : SeesI w v os) :
    Calls Tryd.prog 37 #[.agg #[.int .i64 n, .int .u64 b], v] w fun e w' => e = .returned (.tuple #[.agg #[.int .i64 (renV n b os).1.1, .int .u64 ((renV n b os).1.2 : Nat)], .int .i64 (renV n b os).2]) ∧ Below w.heap.size w w' := by
  unfold renV
  by_cases h : Tt.chk n b = 0
  · obtain ⟨m, rfl, hm, hb2⟩ := chk_nat h
    rw [if_pos h]
    by_cases hO : Tt.ordE m os = 0
    · rw [if_pos hO]
      exact tRename_ok m b os v w hm hb2 hst hs hO
    · rw [if_neg hO]
      exact tRename_wrong m b os v w hm hb2 hs hO
  · rw [if_neg h]
    exact tRename_bad n b os v w hb hs h
theorem rRename_any (n : Int) (b : Nat) (os : List Int) (v : Value) (w : World) (hb : b < 2 ^ 64) (hs : SeesI w v os) :
    Calls Tryd.prog 38 #[.agg #[.int .i64 n, .int .u64 b], v] w fun e w' => e = .returned (.tuple #[.agg #[.int .i64 (renV n b os).1.1, .int .u64 ((renV n b os).1.2 : Nat)], .int .i64 (renV n b os).2]) ∧ Below w.heap.size w w' := by
  unfold renV
  by_cases h : Tt.chk n b = 0
  · obtain ⟨m, rfl, hm, hb2⟩ := chk_nat h
    rw [if_pos h]
    by_cases hO : Tt.ordE m os = 0
    · rw [if_pos hO]
      exact rRename_ok m b os v w hm hb2 hs hO
    · rw [if_neg hO]
      by_cases hl : (os.length : Int) = (m : Int)
      · have e : Tt.ordE m os = Tt.ordFrom m [] os := by unfold Tt.ordE; rw [if_pos hl]
        rw [e] at hO ⊢
        exact rRename_wrong m b os v w hm hb2 hs hl hO
      · have e : Tt.ordE m os = 8 := by unfold Tt.ordE; rw [if_neg hl]
        rw [e]
        exact rRename_len m b os v w hm hb2 hs hl
  · rw [if_neg h]
    exact rRename_bad n b os v w hb hs h
end Go.Proofs.YtmmcakeedejbnaaDoor
