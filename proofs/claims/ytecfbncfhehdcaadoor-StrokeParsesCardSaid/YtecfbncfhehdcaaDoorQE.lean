/- Fits and Apply of package stroke. -/
import Derived.Test.YtecfbncfhehdcaaDoorQD
import Derived.Laws.Cover3
namespace Sk
def sui1 (E : List Bool) (x : Str) : Bool := decide (x.1 < (E.length : Int)) && (E.getD x.1.toNat false != x.2)
/-- Does a step fit ends? -/
def sui (l : List Str) (E : List Bool) : Bool := l.all (sui1 E)
def fitV (l : List Str) (n : Int) (E : List Bool) : Bool × Int := if chkP l n = 0 then (if 6 < E.length then (false, 5) else (sui l E, 0)) else (false, chkP l n)
def put1 (E : List Bool) (x : Str) : List Bool := E.set x.1.toNat x.2
/-- The ends behind strokes. -/
def aft (l : List Str) (E : List Bool) : List Bool := l.foldl put1 E
def appV (l : List Str) (n : Int) (E : List Bool) : List Bool × Int := if chkP l n = 0 then (if 6 < E.length then ([], 5) else (if sui l E then (aft l E, 0) else ([], 14))) else ([], chkP l n)
theorem sui_iff {l : List Str} {E : List Bool} : sui l E = true ↔ ∀ i, i < l.length → sui1 E (l.getD i d0) = true := by
  unfold sui
  rw [List.all_eq_true]
  constructor
  · intro h i hi
    rw [List.getD_eq_getElem?_getD, List.getElem?_eq_getElem hi]
    exact h _ (List.getElem_mem hi)
  · intro h x hx
    obtain ⟨i, hi, rfl⟩ := List.mem_iff_getElem.1 hx
    have := h i hi
    rw [List.getD_eq_getElem?_getD, List.getElem?_eq_getElem hi] at this
    exact this
theorem sui_no {l : List Str} {E : List Bool} {i : Nat} (hi : i < l.length) (h : sui1 E (l.getD i d0) = false) : sui l E = false := by
  cases g : sui l E with
  | false => rfl
  | true => have := sui_iff.1 g i hi; rw [h] at this; cases this
theorem aft_len (l : List Str) (E : List Bool) : (aft l E).length = E.length := by
  unfold aft
  induction l generalizing E with
  | nil => rfl
  | cons x l ih => rw [List.foldl_cons, ih]; simp [put1]
theorem aft_take {l : List Str} {i : Nat} (hi : i < l.length) (E : List Bool) : aft (l.take (i + 1)) E = (aft (l.take i) E).set (l.getD i d0).1.toNat (l.getD i d0).2 := by
  unfold aft
  rw [List.take_succ_eq_append_getElem hi, List.foldl_append, List.getD_eq_getElem?_getD, List.getElem?_eq_getElem hi]
  rfl
end Sk
namespace Go.Proofs.YtecfbncfhehdcaaDoor
open Go.RowKit

/-- A row of ends that is the call's own. -/
def RowB (B : Nat) (e : TypeId) (w : World) (v : Value) (l : List Bool) : Prop := w.ownsRow B e 1 v l.length (l.map fun b => .bool b)
theorem RowB.below {B : Nat} {e : TypeId} {w w' : World} {v : Value} {l : List Bool} (h : RowB B e w v l) {C : Nat} (hb : Below C w w') (hC : w.heap.size ≤ C) : RowB B e w' v l := by
  refine ⟨h.1, ?_⟩
  rcases h.2 with h' | ⟨g, cap, cur, h', h1, h2, h3⟩
  · exact .inl h'
  · exact .inr ⟨g, cap, cur, h', h1, by rw [hb.block g (Nat.lt_of_lt_of_le (Array.getElem?_eq_some_iff.1 h2).1 hC)]; exact h2, h3⟩
theorem RowB.step {B : Nat} {e : TypeId} {w w' : World} {v : Value} {l : List Bool} (h : RowB B e w v l) (hb : Below w.heap.size w w') : RowB B e w' v l := h.below hb (Nat.le_refl _)
theorem RowB.sees {B : Nat} {e : TypeId} {w : World} {v : Value} {l : List Bool} (h : RowB B e w v l) : SeeB w v l := by
  rcases h.2 with ⟨rfl, h0⟩ | ⟨g, cap, cur, rfl, hb, hg, h1, h2, h3, h4⟩
  · have := List.eq_nil_of_length_eq_zero h0
    subst this
    exact SeeB.nil w
  · refine ⟨_, cap, rfl, h1, by unfold maxLen at h2; omega, fun _ => ⟨g, 0, rfl, (Array.getElem?_eq_some_iff.1 hg).1, fun i hi => ?_⟩⟩
    have h5 := World.ownsRow.cellAt h i (by omega)
    rw [Nat.zero_add, h5, List.getElem?_map, List.getElem?_eq_getElem hi, Option.map_some, List.getD_eq_getElem?_getD, List.getElem?_eq_getElem hi]
    rfl
theorem RowB.nil (B : Nat) (e : TypeId) (w : World) : RowB B e w (.slice none 0 0) [] := World.ownsRow_nil _ _ _ _
theorem RowB.form {B : Nat} {e : TypeId} {w : World} {v : Value} {l : List Bool} (h : RowB B e w v l) (hl : 0 < l.length) : ∃ g cap, v = .slice (some ⟨g, 0, none⟩) l.length cap ∧ B ≤ g ∧ g < w.heap.size := by
  have hlt := World.ownsRow.lt h
  rcases h.2 with ⟨rfl, h0⟩ | ⟨g, cap, cur, rfl, _⟩
  · omega
  · exact ⟨g, cap, rfl, (hlt g rfl).1, (hlt g rfl).2⟩
theorem RowB.at {B g cap : Nat} {e : TypeId} {w : World} {l : List Bool} (h : RowB B e w (.slice (some ⟨g, 0, none⟩) l.length cap) l) {i : Nat} (hi : i < l.length) : w.cell? ⟨g, i, none⟩ = some (.bool (l.getD i false)) ∧ w.frozen? ⟨g, i, none⟩ = false := by
  refine ⟨?_, World.ownsRow.frozenAt h i⟩
  have h5 := World.ownsRow.cellAt h i (by omega)
  rw [h5, List.getElem?_map, List.getElem?_eq_getElem hi, Option.map_some, List.getD_eq_getElem?_getD, List.getElem?_eq_getElem hi]
  rfl
theorem RowB.put {B g cap : Nat} {e : TypeId} {w : World} {l : List Bool} (h : RowB B e w (.slice (some ⟨g, 0, none⟩) l.length cap) l) (i : Nat) (b : Bool) : RowB B e (w.setCell ⟨g, i, none⟩ (.bool b)) (.slice (some ⟨g, 0, none⟩) l.length cap) (l.set i b) := by
  have := (World.ownsRow.stored h i (.bool b)).1
  unfold RowB
  rw [List.length_set, List.map_set]
  exact this
theorem info_bool : ∃ i : TypeInfo, Tryd.prog.info? 4 = some i ∧ i.zero = some (.bool false) ∧ i.size = 1 ∧ i.bytes = 1 := by
  have h : (Tryd.prog.info? 4).map (fun i => (i.zero, i.size, i.bytes)) = some (some (.bool false), 1, 1) := by kernel_rfl
  obtain ⟨i, h1, h2⟩ := Option.map_eq_some_iff.1 h
  simp only [Prod.mk.injEq] at h2
  exact ⟨i, h1, h2⟩
/-- 'append' of ends that came in to a slice of the call's own. -/
theorem wpList_append_bools {P : Program} {w : World} {ops : Array Oper} {rest : List Oper} {o : Oper} {a : Act} {Q : Exit → Act → World → Prop} (hgd : o.guard = none) (s x : Operand) (t : TypeId)
    (ho : o.op = .call { callee := .builtin .append, args := #[s, x], argTypes := #[t, t] })
    (e : TypeId) (i : TypeInfo) (ht : P.underlying t = some (.slice e)) (hi : P.info? e = some i) (hz : i.zero = some (.bool false)) (hsize : i.size = 1) (hby : i.bytes = 1)
    (v y : Value) (l m : List Bool) (hs : a.eval s = v) (hx : a.eval x = y) (B : Nat) (hown : RowB B e w v l) (hy : SeeB w y m) (hnil : ∀ n c, y = .slice none n c → c = 0) (hlen : l.length + m.length ≤ 1048576) (hB : B ≤ w.heap.size)
    (h : ∀ v' w', RowB B e w' v' (l ++ m) → Below B w w' → wpList P ops Q rest (a.put o.dst v') w') : wpList P ops Q (o :: rest) a w := by
  obtain ⟨ao, cap, rfl, h1, h2, h3⟩ := hy
  rcases ao with _ | ad
  · obtain rfl := hnil _ _ rfl
    have hm : m = [] := by
      rcases m with _ | ⟨y, m⟩
      · rfl
      · obtain ⟨g, off, h1, _⟩ := h3 (by simp)
        cases h1
    subst hm
    refine wpList_append_own_none hgd s x t ho B e i 1 ht hi v l.length _ hs hown hx ?_
    exact h v w (by rw [List.append_nil]; exact hown) (Below.refl _ _)
  · refine wpList_append_own w hgd s x t ho B e i (.bool false) 1 1 ht hi hz hsize hby rfl (by omega) v l.length _ hs hown ad m.length cap (m.map fun n => .bool n) hx (by simp) ?_ ?_ (by unfold maxLen; omega) (by omega) hB ?_
    · intro j u hj
      rw [List.getElem?_map] at hj
      by_cases hjl : j < m.length
      · rw [List.getElem?_eq_getElem hjl, Option.map_some] at hj
        obtain ⟨b, off, hb, -, h5⟩ := h3 (by omega)
        obtain rfl : ad = ⟨b, off, none⟩ := by simpa using hb
        have h6 := h5 j hjl
        rw [List.getD_eq_getElem?_getD, List.getElem?_eq_getElem hjl, Option.getD_some] at h6
        have hadd : (⟨b, off, none⟩ : Addr).add j = ⟨b, off + j, none⟩ := by unfold Addr.add; split <;> simp_all
        rw [hadd, h6]
        exact hj
      · rw [List.getElem?_eq_none (by omega)] at hj; cases hj
    · exact fun u hu => by obtain ⟨n, _, rfl⟩ := List.mem_map.1 hu; rfl
    · intro v' w' r1 r2 r3
      refine h v' w' ?_ ((Below.refl _ _).grown r2 hB (fun g hg => (World.ownsRow.lt hown g hg).1))
      unfold RowB
      rw [List.length_append, List.map_append]
      exact r1
theorem eql_nilB (a : Option Addr) (n c : Nat) (w : World) : (binOp .eql 49 (.slice a n c) (.slice none 0 0)).run Tryd.prog w = .ok (.bool a.isNone) w := by
  simp only [binOp]
  simp [run_equal_slice_nil w _ _ a n c Tryd.underlying49]
set_option maxHeartbeats 4000000 in
set_option maxRecDepth 100000 in
theorem cloB_any (l : List Bool) (v : Value) (w : World) (hl : l.length ≤ 4096) (hl0 : 0 < l.length) (hs : SeeB w v l) :
    Calls Tryd.prog 67 #[v] w fun e w' => ∃ u, e = .returned u ∧ RowB w.heap.size 4 w' u l ∧ Below w.heap.size w w' := by
  obtain ⟨i0, hi0, hz0, hz1, hz2⟩ := info_bool
  have HS := Lib.hid hs
  obtain ⟨ao, cap, rfl, hcap1, hcap2, hC⟩ := hs
  obtain ⟨g, off, rfl, hg, -⟩ := hC hl0
  have hq := eql_nilB (some ⟨g, off, none⟩) l.length cap
  simp only [Option.isNone_some] at hq
  have HB := Lib.hid (allocB w (.cells #[] 4))
  have hz := HB.out.size
  have HSA := Lib.hid (HS.out.step HB.out)
  have HR := Lib.hid (show RowB w.heap.size 4 (w.alloc (.cells #[] 4)) (.slice (some ⟨w.heap.size, 0, none⟩) 0 0) [] from ⟨rfl, .inr ⟨w.heap.size, 0, #[], rfl, Nat.le_refl _, heap_alloc_new w _, Nat.le_refl _, by decide, rfl, rfl⟩⟩)
  have HN : Hid (∀ n c, (Value.slice (some ⟨g, off, none⟩) l.length cap) = .slice none n c → c = 0) := Lib.hid (fun n c h => by cases h)
  clear hl0
  go_enter Tryd.func67, Tryd.ntmps67
  go_wp2_with (at_builtin; refine wpList_append_bools rfl _ _ 49 rfl 4 i0 Tryd.underlying49 hi0 hz0 hz1 hz2 _ _ [] l rfl rfl w.heap.size HR.out HSA.out HN.out (by simp; omega) hz ?_; intro v5 w5 hr5 hb5; have HR5 := Lib.hid hr5; have HB5 := Lib.hid (HB.out.trans hb5); clear hr5 hb5)
  go_ret
  exact ⟨v5, rfl, by have h := HR5.out; rw [List.nil_append] at h; exact h, HB5.out⟩
end Go.Proofs.YtecfbncfhehdcaaDoor

