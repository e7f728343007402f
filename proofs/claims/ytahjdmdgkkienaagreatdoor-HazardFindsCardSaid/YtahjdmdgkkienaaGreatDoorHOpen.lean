/- What the condition of a card gives the walks: the variables of the program and of the library; forms and small arrays that came in. -/
import Derived.Test.YtahjdmdgkkienaaGreatDoorRows
import Derived.Test.YtahjdmdgkkienaaGreatDoorTie
import Derived.Test.YtahjdmdgkkienaaGreatDoorCards
import Derived.Test.YtahjdmdgkkienaaGreatDoorHB
import Derived.Test.YtahjdmdgkkienaaGreatDoorVp
import Derived.Lib.SmallJoins
import Derived.Deep.Slices
import Derived.Deep.SlicePairs
import Derived.Carry
import Derived.Deep.DeepHandedRow
import Derived.Deep.DeepWitnessRowRef
import Derived.Lay
import Derived.MakeChecks
import Derived.Stop.LaidErr
import Derived.Lib.LaidTab
import Derived.ProofKit
import Derived.SevenTiedAt
namespace Go.Proofs.YtahjdmdgkkienaaGreatDoor
open Go.ChangeShapes Go.WideShapes Go.RowKit

theorem ownKey : ownKnob Tryz.prog.godebug = none := by kernel_rfl
def tzInts : List Int := Lib.deBruijn64tab.map fun n : Nat => (n : Int)
def colInts : List Int := [12297829382473034410, 14757395258967641292, 17361641481138401520, 18374966859414961920, 18446462603027742720, 18446744069414584320]
theorem tz_eq : (Rows.laid_math_bits_deBruijn64tab : DataW Unit) = Lib.tabData .u8 tzInts := by kernel_rfl
theorem col_eq : (Rows.laid_pneumatic_truth_columns : DataW Unit) = Lib.tabData .u64 colInts := by kernel_rfl
theorem tz_type : (Tryz.prog.globals[3]?).map (·.type) = some 141 := by kernel_rfl
theorem col_type : (Tryz.prog.globals[2]?).map (·.type) = some 140 := by kernel_rfl
theorem tz_named : Tryz.prog.globalNamed "math/bits.deBruijn64tab" = some 3 := by kernel_rfl
theorem col_named : Tryz.prog.globalNamed "pneumatic/truth.columns" = some 2 := by kernel_rfl
/-- Three rows of three numbers. -/
def nest (r0 r1 r2 : List Int) : DataW Unit := .agg [Lib.tabData .i64 r0, Lib.tabData .i64 r1, Lib.tabData .i64 r2]
theorem bo_eq : (Rows.laid_pneumatic_hazard_both : DataW Unit) = nest [0, 0, 0] [0, 1, 2] [0, 2, 2] := by kernel_rfl
theorem ei_eq : (Rows.laid_pneumatic_hazard_either : DataW Unit) = nest [0, 1, 2] [1, 1, 1] [2, 1, 2] := by kernel_rfl
theorem bo_type : (Tryz.prog.globals[1]?).map (·.type) = some 87 := by kernel_rfl
theorem ei_type : (Tryz.prog.globals[0]?).map (·.type) = some 87 := by kernel_rfl
theorem bo_named : Tryz.prog.globalNamed "pneumatic/hazard.both" = some 1 := by kernel_rfl
theorem ei_named : Tryz.prog.globalNamed "pneumatic/hazard.either" = some 0 := by kernel_rfl
theorem nest_cells {W : World} {name : String} {r0 r1 r2 : List Int} {rest : List (String × DataW Unit)} {g : Nat} (hg : Tryz.prog.globalNamed name = some g) (hty : (Tryz.prog.globals[g]?).map (·.type) = some 87)
    (h0 : r0.length = 3) (h1 : r1.length = 3) (h2 : r2.length = 3) (h : laidMet Tryz.prog ((name, nest r0 r1 r2) :: rest) W) (i : Nat) (hi : i < 9) :
    W.cell? ⟨g, i, none⟩ = some (.int .i64 ((r0 ++ r1 ++ r2).getD i 0)) := by
  obtain ⟨ps, ⟨g', t', cs, fuel, p, q, hg', ht', hvar, hd, _, _⟩, _⟩ := h
  obtain rfl := Option.some.inj (hg.symm.trans hg')
  obtain rfl := Option.some.inj (hty.symm.trans ht')
  obtain ⟨cs⟩ := cs
  have hc3 : Tryz.prog.cellsOf 86 = 3 := by kernel_rfl
  have hc9 : Tryz.prog.cellsOf 87 = 9 := by kernel_rfl
  have hc1 : Tryz.prog.cellsOf 3 = 1 := by kernel_rfl
  obtain ⟨xs, m, rfl, hx, hlen, hl, hxi⟩ := DataW.trod_array Tryz.underlying87 hd
  rw [hc9] at hlen
  simp only at hlen hxi
  have hfst : xs.map (·.1) = [Lib.tabData .i64 r0, Lib.tabData .i64 r1, Lib.tabData .i64 r2] := by
    have := congrArg Prod.fst hx
    simpa [nest] using this.symm
  have row : ∀ (k : Nat) (r : List Int), k < 3 → (xs.map (·.1))[k]? = some (Lib.tabData .i64 r) → (cs.drop (k * 3)).take 3 = r.map fun z => Value.int .i64 z := by
    intro k r hk hr
    have := hxi k hk
    rw [hc3] at this
    rw [List.getElem?_map] at hr
    obtain ⟨y, hy, he⟩ := Option.map_eq_some_iff.1 hr
    obtain ⟨y1, y2⟩ := y
    simp only at he
    subst he
    rw [hy] at this
    exact Lib.cells_of_tab Tryz.underlying86 Tryz.underlying3 hc1 hc3 this
  have e0 := row 0 r0 (by omega) (by rw [hfst]; rfl)
  have e1 := row 1 r1 (by omega) (by rw [hfst]; rfl)
  have e2 := row 2 r2 (by omega) (by rw [hfst]; rfl)
  rw [Nat.zero_mul, List.drop_zero] at e0
  rw [Nat.one_mul] at e1
  rw [show 2 * 3 = 6 from rfl] at e2
  have hcs : cs = (r0 ++ r1 ++ r2).map fun z => Value.int .i64 z := by
    have a := List.take_append_drop 3 cs
    have b := List.take_append_drop 3 (cs.drop 3)
    rw [List.drop_drop] at b
    have c : (cs.drop 6).take 3 = cs.drop 6 := List.take_of_length_le (by rw [List.length_drop]; omega)
    rw [← c, e2, e1] at b
    rw [← b, e0] at a
    rw [← a, List.map_append, List.map_append, List.append_assoc]
  have hv := World.var?_cell hg hvar i
  have hlen9 : (r0 ++ r1 ++ r2).length = 9 := by rw [List.length_append, List.length_append]; omega
  generalize r0 ++ r1 ++ r2 = L at *
  have hil : i < L.length := by omega
  subst hcs
  simpa [List.getD, hil] using hv
theorem al_of {W : World} (_ : W.ShapedOpen Tryz.prog)
    (hL : laidMet Tryz.prog [("math/bits.deBruijn64tab", Rows.laid_math_bits_deBruijn64tab), ("pneumatic/truth.columns", Rows.laid_pneumatic_truth_columns), ("pneumatic/hazard.both", Rows.laid_pneumatic_hazard_both), ("pneumatic/hazard.either", Rows.laid_pneumatic_hazard_either)] W) : St W ∧ Stz W ∧ Tabs W := by
  have h1 := hL
  have h2 := hL.tail
  have h3 := hL.tail.tail
  have h4 := hL.tail.tail.tail
  rw [tz_eq] at h1
  rw [col_eq] at h2
  rw [bo_eq] at h3
  rw [ei_eq] at h4
  have t1 := Lib.tabIs_of_head tz_named tz_type Tryz.underlying141 Tryz.underlying5 (by kernel_rfl) (by kernel_rfl) h1
  have t2 := Lib.tabIs_of_head col_named col_type Tryz.underlying140 Tryz.underlying27 (by kernel_rfl) (by kernel_rfl) h2
  have c1 : TzTab W := fun j hj => by
    have h := t1.cell tz_named j (show j < tzInts.length from hj)
    rw [h]
    have e : ∀ j, j < 64 → tzInts.getD j 0 = ((Lib.deBruijn64tab.getD j 0 : Nat) : Int) := by decide +kernel
    rw [e j hj]
  have c2 : ColTab W := fun j hj => by
    have h := t2.cell col_named j (show j < colInts.length from hj)
    rw [h]
    have e : ∀ j, j < 6 → colInts.getD j 0 = ((Tt.col j : Nat) : Int) := by decide +kernel
    rw [e j hj]
  have k3 := nest_cells bo_named bo_type rfl rfl rfl h3
  have k4 := nest_cells ei_named ei_type rfl rfl rfl h4
  have e3 : ∀ x, x ≤ 2 → ∀ y, y ≤ 2 → ([0, 0, 0] ++ [0, 1, 2] ++ [0, 2, 2] : List Int).getD (x * 3 + y) 0 = ((Hz.both x y : Nat) : Int) := by
    intro x hx y hy
    rcases (show x = 0 ∨ x = 1 ∨ x = 2 by omega) with rfl | rfl | rfl <;> rcases (show y = 0 ∨ y = 1 ∨ y = 2 by omega) with rfl | rfl | rfl <;> rfl
  have e4 : ∀ x, x ≤ 2 → ∀ y, y ≤ 2 → ([0, 1, 2] ++ [1, 1, 1] ++ [2, 1, 2] : List Int).getD (x * 3 + y) 0 = ((Hz.either x y : Nat) : Int) := by
    intro x hx y hy
    rcases (show x = 0 ∨ x = 1 ∨ x = 2 by omega) with rfl | rfl | rfl <;> rcases (show y = 0 ∨ y = 1 ∨ y = 2 by omega) with rfl | rfl | rfl <;> rfl
  refine ⟨⟨c2, World.block_lt_of_cell? W ⟨2, 0, none⟩ (c2 0 (by omega))⟩, ⟨c1, World.block_lt_of_cell? W ⟨3, 0, none⟩ (c1 0 (by omega))⟩, ?_⟩
  exact ⟨fun x y hx hy => by rw [k3 (x * 3 + y) (by omega), e3 x hx y hy], fun x y hx hy => by rw [k4 (x * 3 + y) (by omega), e4 x hx y hy], World.block_lt_of_cell? W ⟨1, 0, none⟩ (k3 0 (by omega)), World.block_lt_of_cell? W ⟨0, 0, none⟩ (k4 0 (by omega))⟩

section
variable {H : Type} {enc : TypeId × Value → H} {P : Program} {w : World} {base : Nat} {spare : Nat → Bool} {held : Bool}
theorem wf_u64 {z : Int} (h : (Lit.int .u64 z).wf = true) : 0 ≤ z ∧ z ≤ 18446744073709551615 := by
  simp [Lit.wf] at h
  have e1 : IntKind.u64.min = 0 := by decide
  have e2 : IntKind.u64.max = 18446744073709551615 := by decide
  (try rw [e1] at h)
  (try rw [e2] at h)
  exact h
theorem wf_u8 {z : Int} (h : (Lit.int .u8 z).wf = true) : 0 ≤ z ∧ z ≤ 255 := by
  simp [Lit.wf] at h
  have e1 : IntKind.u8.min = 0 := by decide
  have e2 : IntKind.u8.max = 255 := by decide
  (try rw [e1] at h)
  (try rw [e2] at h)
  exact h
theorem lst2 {α : Type} {l : List α} (h : l.length = 2) : ∃ c0 c1, l = [c0, c1] := by
  match l, h with
  | [c0, c1], _ => exact ⟨c0, c1, rfl⟩
theorem arr2 {α : Type} {cs : Array α} (h : cs.size = 2) : ∃ c0 c1, cs = #[c0, c1] := by
  obtain ⟨l⟩ := cs
  obtain ⟨c0, c1, rfl⟩ := lst2 (l := l) h
  exact ⟨c0, c1, rfl⟩
theorem open_by2 {t e : TypeId} {k : IntKind} {fuel : Nat} {c0 c1 : Value} {x : DataW H × List MemPlace} (ht : P.underlying t = some (.array 2 e)) (he : P.underlying e = some (.int k)) (hce : P.cellsOf e = 1)
    (h : DataW.trod enc P w base spare held fuel t [c0, c1] = some x) :
    ∃ z0 z1 : Int, c0 = .int k z0 ∧ c1 = .int k z1 ∧ (Lit.int k z0).wf = true ∧ (Lit.int k z1).wf = true ∧
      x = (.agg [.lit (.int k z0), .lit (.int k z1)], []) := by
  obtain ⟨xs, m, rfl, rfl, _, hl, hx⟩ := DataW.trod_array ht h
  obtain ⟨y0, y1, rfl⟩ := lst2 hl
  have g0 := hx 0 (by omega)
  have g1 := hx 1 (by omega)
  simp [hce] at g0 g1
  obtain ⟨z0, f0, rfl, w0⟩ := DataW.trod_int he g0
  obtain ⟨z1, f1, rfl, w1⟩ := DataW.trod_int he g1
  simp only [List.cons.injEq, and_true] at f0 f1
  exact ⟨z0, z1, f0, f1, w0, w1, rfl⟩
theorem lst3 {α : Type} {l : List α} (h : l.length = 3) : ∃ c0 c1 c2, l = [c0, c1, c2] := by
  match l, h with
  | [c0, c1, c2], _ => exact ⟨c0, c1, c2, rfl⟩
theorem arr3 {α : Type} {cs : Array α} (h : cs.size = 3) : ∃ c0 c1 c2, cs = #[c0, c1, c2] := by
  obtain ⟨l⟩ := cs
  obtain ⟨c0, c1, c2, rfl⟩ := lst3 (l := l) h
  exact ⟨c0, c1, c2, rfl⟩
theorem open_by3 {t e : TypeId} {k : IntKind} {fuel : Nat} {c0 c1 c2 : Value} {x : DataW H × List MemPlace} (ht : P.underlying t = some (.array 3 e)) (he : P.underlying e = some (.int k)) (hce : P.cellsOf e = 1)
    (h : DataW.trod enc P w base spare held fuel t [c0, c1, c2] = some x) :
    ∃ z0 z1 z2 : Int, c0 = .int k z0 ∧ c1 = .int k z1 ∧ c2 = .int k z2 ∧ (Lit.int k z0).wf = true ∧ (Lit.int k z1).wf = true ∧ (Lit.int k z2).wf = true ∧
      x = (.agg [.lit (.int k z0), .lit (.int k z1), .lit (.int k z2)], []) := by
  obtain ⟨xs, m, rfl, rfl, _, hl, hx⟩ := DataW.trod_array ht h
  obtain ⟨y0, y1, y2, rfl⟩ := lst3 hl
  have g0 := hx 0 (by omega)
  have g1 := hx 1 (by omega)
  have g2 := hx 2 (by omega)
  simp [hce] at g0 g1 g2
  obtain ⟨z0, f0, rfl, w0⟩ := DataW.trod_int he g0
  obtain ⟨z1, f1, rfl, w1⟩ := DataW.trod_int he g1
  obtain ⟨z2, f2, rfl, w2⟩ := DataW.trod_int he g2
  simp only [List.cons.injEq, and_true] at f0 f1 f2
  exact ⟨z0, z1, z2, f0, f1, f2, w0, w1, w2, rfl⟩
/-- A form that came in. -/
theorem open_form {W : World} {a0 : Option Addr} {len cap : Nat} {d : DataW H} {p : List MemPlace} (h : DataW.Trod enc Tryz.prog W 0 (fun _ => true) true 22 (.slice a0 len cap) d p) (hlt : ∀ x ∈ p, x.block < W.heap.size) :
    ∃ l, SeesO W (.slice a0 len cap) l ∧ Hz.W64 l := by
  obtain ⟨fuel, hf⟩ := h
  rcases Deep.open_slice_pairs Tryz.underlying22 Tryz.underlying62 (by kernel_rfl) rfl rfl (by kernel_rfl) (by kernel_rfl) hf with ⟨hcs, hx⟩ | ⟨a, len', cap', m, n, V0, V1, D0, D1, P0, P1, hcs, _, hl, hm, hmm, hx, hcell⟩
  · simp [Value.cells] at hcs
    obtain ⟨rfl, rfl, rfl⟩ := hcs
    exact ⟨[], ⟨none, 0, rfl, Nat.le_refl _, by omega, fun h => by simp at h⟩, fun p hp => by cases hp⟩
  · simp [Value.cells] at hcs
    obtain ⟨rfl, rfl, rfl⟩ := hcs
    simp only [if_true] at hmm
    subst hmm
    simp only [Prod.mk.injEq] at hx
    have hp := hx.2
    obtain ⟨X, hX⟩ := Deep.choose_lt (p := fun i (q : Nat × Nat) => V0 i = .int .u64 (q.1 : Int) ∧ V1 i = .int .u64 (q.2 : Int) ∧ q.1 < 2 ^ 64 ∧ q.2 < 2 ^ 64) (n := m) (fun i hi => by
      obtain ⟨z, h1, _, w1⟩ := DataW.trod_int Tryz.underlying60 (hcell i hi).2.2.1
      obtain ⟨u, h2, _, w2⟩ := DataW.trod_int Tryz.underlying60 (hcell i hi).2.2.2
      have b1 := wf_u64 w1
      have b2 := wf_u64 w2
      obtain ⟨z', rfl⟩ := Int.eq_ofNat_of_zero_le b1.1
      obtain ⟨u', rfl⟩ := Int.eq_ofNat_of_zero_le b2.1
      exact ⟨(z', u'), by simpa using h1, by simpa using h2, by omega, by omega⟩)
    have hlen : ((List.range len).map X).length = len := by simp
    have hg : ∀ i, i < len → ((List.range len).map X).getD i (0, 0) = X i := fun i hi => by simp [hi]
    have hW : Hz.W64 ((List.range len).map X) := fun q hq => by
      obtain ⟨i, hi, rfl⟩ := List.mem_map.1 hq
      exact (hX i (by have := List.mem_range.1 hi; omega)).2.2
    refine ⟨(List.range len).map X, ⟨some a, m, by rw [hlen], by rw [hlen]; exact hl, by unfold maxLen at hm; omega, fun hp0 => ?_⟩, hW⟩
    rw [hlen] at hp0
    obtain ⟨b, off, spot⟩ := a
    have hspot : spot = none := by simpa [Addr.add] using World.cell?_spot (hcell 0 (by omega)).1
    subst hspot
    have hbW : b < W.heap.size := hlt (.cell b off) (by rw [hp]; exact List.mem_append_left _ (MemPlace.mem_row.2 ⟨0, by omega, by simp⟩))
    refine ⟨b, off, rfl, hbW, fun i hi => ?_⟩
    rw [hlen] at hi
    obtain ⟨h1, h2, _, _⟩ := hcell i (by omega)
    obtain ⟨x1, x2, _, _⟩ := hX i (by omega)
    have ap : ∀ k, (⟨b, off, none⟩ : Addr).add k = ⟨b, off + k, none⟩ := fun k => by unfold Addr.add; split <;> simp_all
    rw [ap] at h1 h2
    rw [hg i hi, ← x1, ← x2]
    exact ⟨h1, by rw [Nat.add_assoc]; exact h2⟩
end
end Go.Proofs.YtahjdmdgkkienaaGreatDoor
