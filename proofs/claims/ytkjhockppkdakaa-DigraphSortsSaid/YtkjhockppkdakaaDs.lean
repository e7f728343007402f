/- A map of the call's own from integers to integers. -/
import Derived.Test.YtkjhockppkdakaaDr
import Derived.Maps.Own
import Derived.Maps.OwnOps
import Derived.Maps.Views
namespace Go.Proofs.Ytkjhockppkdakaa
open Go.RowKit Go.Shelf

theorem zeroI (w : World) : (zeroValue 3).run Try.prog w = .ok (.int .i64 0) w := by kernel_rfl
theorem keyI {x : Nat} (hx : x < 4096) : keyOf Try.prog 3 (.int .i64 (x : Int)) = some (.int .i64 (x : Int)) := Maps.keyOf_int_mk Try.underlying3 (by unfold Lit.wf; simp [IntKind.min, IntKind.max, IntKind.bits, IntKind.signed]; omega)

/-- Block b holds a map that has f x at x. -/
def MapI (w : World) (b m : Nat) (f : Nat → Option Nat) : Prop :=
  ∃ D : DataW Unit, w.ownsMap Try.prog 3 (plainElem Try.prog 3) b m D ∧ ∀ x : Nat, x < 4096 → ∀ zd, D.atKey (.int .i64 (x : Int)) zd = match f x with | some c => .lit (.int .i64 (c : Int)) | none => zd
theorem MapI.lt {w : World} {b m : Nat} {f : Nat → Option Nat} (h : MapI w b m f) : b < w.heap.size := by obtain ⟨D, h, _⟩ := h; exact h.lt
theorem MapI.new (w : World) : MapI (w.alloc (.map #[] 0)) w.heap.size 0 fun _ => none :=
  ⟨_, World.ownsMap_made _ _ _ _, fun x _ zd => by simp [DataW.atKey]⟩
theorem MapI.step {w w' : World} {b m : Nat} {f : Nat → Option Nat} (h : MapI w b m f) (hb : Below w.heap.size w w') : MapI w' b m f := by
  obtain ⟨D, h, g⟩ := h
  exact ⟨D, h.kept (grown_below (r := none) hb) (by simp), g⟩
theorem MapI.grown {w w' : World} {b m : Nat} {f : Nat → Option Nat} {r : Option Nat} (h : MapI w b m f) (hg : w.grownBy w' r) (hr : some b ≠ r) : MapI w' b m f := by
  obtain ⟨D, h, g⟩ := h
  exact ⟨D, h.kept hg hr, g⟩
theorem MapI.congr {w : World} {b m : Nat} {f g : Nat → Option Nat} (h : MapI w b m f) (he : ∀ x, x < 4096 → f x = g x) : MapI w b m g := by
  obtain ⟨D, h, k⟩ := h
  exact ⟨D, h, fun x hx zd => by rw [k x hx zd, he x hx]⟩
theorem MapI.ok_some {w : World} {b m : Nat} {f : Nat → Option Nat} (h : MapI w b m f) {x c : Nat} (hx : x < 4096) (hf : f x = some c) (t : Bool) :
    (Instr.lookup 77 (.map (some b)) (.int .i64 (x : Int)) t).run Try.prog w = .ok (if t then .tuple #[.int .i64 (c : Int), .bool true] else .int .i64 (c : Int)) w := by
  obtain ⟨D, ⟨es, clock, hb, F, _, rfl⟩, g⟩ := h
  have g := g x hx
  rw [hf] at g
  rcases Maps.fit_look t (Maps.int_keyed Try.underlying3) Try.underlying77 (zeroI w) hb F (keyI hx) with ⟨_, _, hat⟩ | ⟨e0, y, _, _, hrun, hRv, hat, _⟩
  · have h1 := (hat .nil).symm.trans (g .nil)
    cases h1
  · obtain ⟨a, ha, rfl, _⟩ := plainElem_int_inv Try.underlying3 hRv
    have h1 := (hat .nil).symm.trans (g .nil)
    simp only [DataW.lit.injEq, Lit.int.injEq, true_and] at h1
    rw [hrun, ha, h1]
theorem MapI.ok_none {w : World} {b m : Nat} {f : Nat → Option Nat} (h : MapI w b m f) {x : Nat} (hx : x < 4096) (hf : f x = none) (t : Bool) :
    (Instr.lookup 77 (.map (some b)) (.int .i64 (x : Int)) t).run Try.prog w = .ok (if t then .tuple #[.int .i64 0, .bool false] else .int .i64 0) w := by
  obtain ⟨D, ⟨es, clock, hb, F, _, rfl⟩, g⟩ := h
  have g := g x hx
  rw [hf] at g
  rcases Maps.fit_look t (Maps.int_keyed Try.underlying3) Try.underlying77 (zeroI w) hb F (keyI hx) with ⟨hrun, _, hat⟩ | ⟨e0, y, _, _, hrun, hRv, hat, _⟩
  · exact hrun
  · have h1 := (hat .nil).symm.trans (g .nil)
    have h2 := (hat (.map [])).symm.trans (g (.map []))
    rw [h1] at h2
    cases h2
theorem wpList_put {w : World} {ops : Array Oper} {rest : List Oper} {o : Oper} {a : Act} {Q : Exit → Act → World → Prop}
    (hg : o.guard = none) (s x v : Operand) (hop : o.op = Op.mapUpdate 77 s x v) (b m : Nat) (f : Nat → Option Nat) (k c : Nat)
    (hm : a.eval s = .map (some b)) (hown : MapI w b m f) (hn : m ≤ 1048576) (key val : Value) (hx : a.eval x = key) (hv : a.eval v = val) (hk : key = .int .i64 (k : Int)) (hval : val = .int .i64 (c : Int)) (hk2 : k < 4096) (hc2 : c < 4096)
    (hK : ∀ w', MapI w' b (m + 1) (fun y => if y = k then some c else f y) → w.grownBy w' (some b) → wpList Try.prog ops Q rest (a.put o.dst undef) w') :
    wpList Try.prog ops Q (o :: rest) a w := by
  subst hk hval
  obtain ⟨D, hD, g⟩ := hown
  have hIs : Maps.IsMap D := by obtain ⟨es, clock, _, _, _, rfl⟩ := hD; exact ⟨_, rfl⟩
  refine wpList_mapUpdate_own w hg s x v 77 hop 3 3 (Maps.int_keyed Try.underlying3) Try.underlying77 (plainElem Try.prog 3) b m D hm hD (by unfold maxLen; omega) _ _ (.int .i64 (k : Int)) hx hv (keyI hk2) (.lit (.int .i64 (c : Int))) [] (plainElem_int Try.underlying3 (by unfold Lit.wf; simp [IntKind.min, IntKind.max, IntKind.bits, IntKind.signed]; omega)) ?_
  intro w' h1 h2
  refine hK w' ⟨_, h1, fun y hy zd => ?_⟩ h2
  dsimp only
  by_cases e : y = k
  · subst e
    rw [if_pos rfl, Maps.atKey_put_same hIs ((Maps.int_keyed Try.underlying3).key (keyI hk2))]
  · rw [if_neg e, Maps.atKey_put_other (by simp only [ne_eq, Lit.int.injEq, true_and]; omega)]
    exact g y hy zd
end Go.Proofs.Ytkjhockppkdakaa
