/- Leq of package bounds: its closure. -/
import Derived.Test.YtkemicfaiipidaaBMh
import Derived.Test.YtkemicfaiipidaaBMi
import Derived.Test.YtkemicfaiipidaaBMj
import Derived.Test.YtkemicfaiipidaaBMk
import Derived.Test.YtkemicfaiipidaaBMl
namespace Go.Proofs.Ytkemicfaiipidaa
open Go.RowKit
theorem bLeq1_any (i j g bb mb lb : Nat) (n k : Int) (c : Bool) (m : Bn.Mx) (v : Value) (S : List (List Int)) (W : World) (hi : i < 13) (hj : j < 13) (hM : MtxI W g n m) (hB : BoxB W bb k v) (hm : BoxV W mb (.pointer (some ⟨g, 0, none⟩))) (hL : BoxW W lb (.bool c)) (hS : SeesR W v S) (hil : i < S.length) (hjl : j < (S.getD i []).length) :
    Calls Try.prog 60 #[.int .i64 i, .int .i64 j, .pointer (some ⟨lb, 0, none⟩), .pointer (some ⟨bb, 0, none⟩), .pointer (some ⟨mb, 0, none⟩)] W fun e w' => e = .returned (.tuple #[]) ∧ W.grownBy w' (some lb) ∧ BoxW w' lb (.bool (c && !Bn.less (Bn.mx S i j) (m i j))) := by
  cases c
  · exact bLeq1_a1 i j g bb mb lb n k m v S W hi hj hM hB hm hL hS hil hjl
  · by_cases hx : Bn.mx S i j = -1099511627776
    · rw [show (true && !Bn.less (Bn.mx S i j) (m i j)) = true by unfold Bn.less; simp [hx]]
      exact bLeq1_a2 i j g bb mb lb n k m v S W hi hj hM hB hm hL hS hil hjl hx
    · by_cases hy : m i j = -1099511627776
      · rw [show (true && !Bn.less (Bn.mx S i j) (m i j)) = false by unfold Bn.less; simp [hx, hy]]
        exact bLeq1_a3 i j g bb mb lb n k m v S W hi hj hM hB hm hL hS hil hjl hx hy
      · by_cases hxy : m i j ≤ Bn.mx S i j
        · rw [show (true && !Bn.less (Bn.mx S i j) (m i j)) = true by unfold Bn.less; simp [hx, hy]; omega]
          exact bLeq1_a4 i j g bb mb lb n k m v S W hi hj hM hB hm hL hS hil hjl hx hy hxy
        · rw [show (true && !Bn.less (Bn.mx S i j) (m i j)) = false by unfold Bn.less; simp [hx, hy]; omega]
          exact bLeq1_a5 i j g bb mb lb n k m v S W hi hj hM hB hm hL hS hil hjl hx hy hxy
end Go.Proofs.Ytkemicfaiipidaa

