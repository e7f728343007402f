/- A map of the call's own from texts to truth values. -/
import Derived.Test.YthjkcncfppndkaaDoorPtq
import Derived.Maps.Own
import Derived.Maps.OwnOps
import Derived.Maps.Views
namespace Go.Proofs.YthjkcncfppndkaaDoor
open Go.RowKit
theorem grown_below {w w' : World} {r : Option Nat} (h : Below w.heap.size w w') : w.grownBy w' r := ⟨h.os, h.tape, h.output, h.size, fun k hk _ => h.block k hk⟩
theorem zeroT (w : World) : (zeroValue 4).run Tryd.prog w = .ok (.bool false) w := by kernel_rfl
theorem keyT {s : ByteArray} (hs : s.size ≤ maxLen) : keyOf Tryd.prog 9 (.string s) = some (.string s.data.toList) := WideMaps.keyOf_string_mk Tryd.underlying9 hs
theorem plainB_inv' {P : Program} {e : TypeId} (he : P.underlying e = some .bool) {v : Value} {z : DataW Unit × List MemPlace} (h : plainElem P e v = some z) : ∃ x, v = .bool x ∧ z = (.lit (.bool x), []) := by
  unfold plainElem at h
  rw [he] at h
  cases v <;> simp at h
  exact ⟨_, rfl, h.symm⟩
theorem plainB_inv {v : Value} {z : DataW Unit × List MemPlace} (h : plainElem Tryd.prog 4 v = some z) : ∃ x, v = .bool x ∧ z = (.lit (.bool x), []) := plainB_inv' Tryd.underlying4 h
/-- Block b holds a map that is true at the texts of l, and has no other key. -/
def MapT (w : World) (b m : Nat) (l : List ByteArray) : Prop :=
  ∃ D : DataW Unit, w.ownsMap Tryd.prog 9 (plainElem Tryd.prog 4) b m D ∧ ∀ s : ByteArray, s.size ≤ maxLen → ∀ zd, D.atKey (.string s.data.toList) zd = if Pt.memB s l = true then .lit (.bool true) else zd
theorem MapT.lt {w : World} {b m : Nat} {l : List ByteArray} (h : MapT w b m l) : b < w.heap.size := by obtain ⟨D, h, _⟩ := h; exact h.lt
theorem MapT.new (w : World) : MapT (w.alloc (.map #[] 0)) w.heap.size 0 [] :=
  ⟨_, World.ownsMap_made _ _ _ _, fun s _ zd => by simp [DataW.atKey, Pt.memB]⟩
theorem MapT.step {w w' : World} {b m : Nat} {l : List ByteArray} (h : MapT w b m l) (hb : Below w.heap.size w w') : MapT w' b m l := by
  obtain ⟨D, h, g⟩ := h
  exact ⟨D, h.kept (grown_below (r := none) hb) (by simp), g⟩
theorem MapT.look {w : World} {b m : Nat} {l : List ByteArray} (h : MapT w b m l) {s : ByteArray} (hs : s.size ≤ maxLen) :
    (Instr.lookup 73 (.map (some b)) (.string s) false).run Tryd.prog w = .ok (.bool (Pt.memB s l)) w := by
  obtain ⟨D, ⟨es, clock, hb, F, _, rfl⟩, g⟩ := h
  have g := g s hs
  rcases Maps.fit_look false (Maps.string_keyed Tryd.underlying9) Tryd.underlying73 (zeroT w) hb F (keyT hs) with ⟨hrun, _, hat⟩ | ⟨e0, y, _, _, hrun, hRv, hat, _⟩
  · have h1 := (hat .nil).symm.trans (g .nil)
    cases e : Pt.memB s l
    · rw [hrun]; rfl
    · rw [e, if_pos rfl] at h1; cases h1
  · obtain ⟨a, ha, rfl⟩ := plainB_inv hRv
    have h1 := (hat .nil).symm.trans (g .nil)
    cases e : Pt.memB s l
    · rw [e, if_neg (by decide)] at h1; cases h1
    · rw [e, if_pos rfl] at h1
      simp only [DataW.lit.injEq, Lit.bool.injEq] at h1
      rw [hrun, ha, h1]; rfl
theorem wpList_putT {w : World} {ops : Array Oper} {rest : List Oper} {o : Oper} {a : Act} {Q : Exit → Act → World → Prop}
    (hg : o.guard = none) (s x v : Operand) (hop : o.op = Op.mapUpdate 73 s x v) (b m : Nat) (l : List ByteArray) (k : ByteArray)
    (hm : a.eval s = .map (some b)) (hown : MapT w b m l) (hn : m ≤ 1048576) (hx : a.eval x = .string k) (hv : a.eval v = .bool true) (hk2 : k.size ≤ maxLen)
    (hK : ∀ w', MapT w' b (m + 1) (k :: l) → w.grownBy w' (some b) → wpList Tryd.prog ops Q rest (a.put o.dst undef) w') :
    wpList Tryd.prog ops Q (o :: rest) a w := by
  obtain ⟨D, hD, g⟩ := hown
  have hIs : Maps.IsMap D := by obtain ⟨es, clock, _, _, _, rfl⟩ := hD; exact ⟨_, rfl⟩
  refine wpList_mapUpdate_own w hg s x v 73 hop 9 4 (Maps.string_keyed Tryd.underlying9) Tryd.underlying73 (plainElem Tryd.prog 4) b m D hm hD (by unfold maxLen; omega) (.string k) (.bool true) (.string k.data.toList) hx hv (keyT hk2) (.lit (.bool true)) [] (plainElem_bool Tryd.underlying4 true) ?_
  intro w' h1 h2
  refine hK w' ⟨_, h1, fun y hy zd => ?_⟩ h2
  by_cases e : y = k
  · subst e
    rw [if_pos (by simp [Pt.memB]), Maps.atKey_put_same hIs ((Maps.string_keyed Tryd.underlying9).key (keyT hk2))]
  · have e2 : y.data.toList ≠ k.data.toList := fun h => e (ByteArray.ext (Array.toList_inj.1 h))
    rw [Maps.atKey_put_other (by simpa using e2), g y hy zd]
    have e3 : Pt.memB y (k :: l) = Pt.memB y l := by
      simp [Pt.memB]
      exact fun h => absurd h.symm e
    rw [e3]
end Go.Proofs.YthjkcncfppndkaaDoor
