/- A form joined to a row of cubes; slices.Clone of a form. -/
import Derived.Test.YtekeedccgnbkkaaDoorHE
import Derived.Laws.AppendOwnNone
import Derived.Laws.Cover3
namespace Go.Proofs.YtekeedccgnbkkaaDoor
open Go.RowKit Go.Shelf

theorem flat_cells {w : World} {g off : Nat} {l : List (Nat × Nat)} (h : ∀ i, i < l.length → w.cell? ⟨g, off + i * 2, none⟩ = some (.int .u64 ((l.getD i (0, 0)).1 : Int)) ∧ w.cell? ⟨g, off + i * 2 + 1, none⟩ = some (.int .u64 ((l.getD i (0, 0)).2 : Int))) (j : Nat) (u : Value) (hj : (l.flatMap Ic.encC)[j]? = some u) :
    w.cell? ((⟨g, off, none⟩ : Addr).add j) = some u := by
  have ap : (⟨g, off, none⟩ : Addr).add j = ⟨g, off + j, none⟩ := by unfold Addr.add; split <;> simp_all
  rw [ap]
  have hlt : j < l.length * 2 := by
    have := List.getElem?_eq_some_iff.1 hj
    obtain ⟨h1, _⟩ := this
    rwa [Ic.flat_len] at h1
  have hj2 : j / 2 < l.length := by omega
  have e1 : j = j / 2 * 2 + j % 2 := by omega
  have h6 := Ic.flat_get l (j / 2) (j % 2) hj2 (Nat.mod_lt _ (by omega))
  rw [← e1, hj] at h6
  obtain ⟨h1, h2⟩ := h (j / 2) hj2
  rcases (show j % 2 = 0 ∨ j % 2 = 1 by omega) with hm | hm
  · rw [hm] at h6
    have : u = .int .u64 ((l.getD (j / 2) (0, 0)).1 : Int) := by simpa [Ic.encC] using h6
    rw [this, show off + j = off + j / 2 * 2 by omega]
    exact h1
  · rw [hm] at h6
    have : u = .int .u64 ((l.getD (j / 2) (0, 0)).2 : Int) := by simpa [Ic.encC] using h6
    rw [this, show off + j = off + j / 2 * 2 + 1 by omega]
    exact h2
theorem flat_one (l : List (Nat × Nat)) : ∀ u ∈ l.flatMap Ic.encC, u.oneCell' = true := by
  intro u hu
  rw [List.mem_flatMap] at hu
  obtain ⟨x, _, hx⟩ := hu
  simp [Ic.encC] at hx
  rcases hx with rfl | rfl <;> rfl
/-- 'append' of a form to a slice of the call's own. -/
theorem wpList_append_cubs {P : Program} {w : World} {ops : Array Oper} {rest : List Oper} {o : Oper} {a : Act} {Q : Exit → Act → World → Prop} (hgd : o.guard = none) (s x : Operand) (t : TypeId)
    (ho : o.op = .call { callee := .builtin .append, args := #[s, x], argTypes := #[t, t] })
    (e : TypeId) (i : TypeInfo) (ht : P.underlying t = some (.slice e)) (hi : P.info? e = some i) (hz : i.zero = some (.agg #[.int .u64 0, .int .u64 0])) (hsize : i.size = 2) (hby : i.bytes = 16)
    (v : Value) (l m : List (Nat × Nat)) (ao : Option Addr) (c : Nat) (hs : a.eval s = v) (hx : a.eval x = .slice ao m.length c) (hC : CellsO w ao m) (hn : ao = none → c = 0) (B : Nat) (hown : RowC B e w v l)
    (hlen : l.length + m.length ≤ 1048576) (hB : B ≤ w.heap.size)
    (h : ∀ v' w', RowC B e w' v' (l ++ m) → Below B w w' → wpList P ops Q rest (a.put o.dst v') w') : wpList P ops Q (o :: rest) a w := by
  rcases ao with _ | ad
  · have hm : m = [] := by
      rcases m with _ | ⟨y, m⟩
      · rfl
      · obtain ⟨g, off, h1, _⟩ := hC (by simp)
        cases h1
    subst hm
    rw [hn rfl] at hx
    refine wpList_append_own_none hgd s x t ho B e i 2 ht hi v l.length _ hs hown hx ?_
    exact h v w (by rw [List.append_nil]; exact hown) (Below.refl _ _)
  · refine wpList_append_own w hgd s x t ho B e i (.agg #[.int .u64 0, .int .u64 0]) 2 16 ht hi hz hsize hby rfl (by omega) v l.length _ hs hown ad m.length c (m.flatMap Ic.encC) hx (Ic.flat_len m) ?_ (flat_one m) (by unfold maxLen; omega) (by omega) hB ?_
    · intro j u hj
      have hp : 0 < m.length := by
        rcases m with _ | ⟨y, m⟩
        · simp at hj
        · simp
      obtain ⟨g, off, h1, _, h2⟩ := hC hp
      cases h1
      exact flat_cells h2 j u hj
    · intro v' w' r1 r2 r3
      refine h v' w' ?_ ((Below.refl _ _).grown r2 hB (fun g hg => (World.ownsRow.lt hown g hg).1))
      unfold RowC
      rw [List.length_append, List.flatMap_append]
      exact r1

theorem eql_nil (a : Option Addr) (n c : Nat) (w : World) : (binOp .eql 22 (.slice a n c) (.slice none 0 0)).run Tryd.prog w = .ok (.bool a.isNone) w := by
  simp only [binOp]
  simp [run_equal_slice_nil w _ _ a n c Tryd.underlying22]

set_option maxHeartbeats 4000000 in
set_option maxRecDepth 100000 in
theorem sClone_any (l : List (Nat × Nat)) (v : Value) (w : World) (hl : l.length ≤ 4096) (hs : SeesO w v l) (hpl : ∀ c, v = .slice none 0 c → c = 0) :
    Calls Tryd.prog 14 #[v] w fun e w' => ∃ u, e = .returned u ∧ RowC w.heap.size 48 w' u l ∧ Below w.heap.size w w' := by
  obtain ⟨i0, hi0, hz0, hz1, hz2⟩ := info_cube
  obtain ⟨ao, cap, rfl, hcap1, hcap2, hC⟩ := hs.opened
  rcases ao with _ | ad
  · have hm : l = [] := by
      rcases l with _ | ⟨y, m⟩
      · rfl
      · obtain ⟨g, off, h1, _⟩ := hC (by simp)
        cases h1
    subst hm
    obtain rfl := hpl cap rfl
    have hq := eql_nil none 0 0
    simp only [Option.isNone_none] at hq
    go_enter Tryd.func14, Tryd.ntmps14
    go_wp2
    go_ret
    exact ⟨_, rfl, RowC.nil _ _ _, Below.refl _ _⟩
  · have HC := Lib.hid hC
    clear hC hs hpl
    have hq := eql_nil (some ad) l.length cap
    simp only [Option.isNone_some] at hq
    go_enter Tryd.func14, Tryd.ntmps14
    have HB := Lib.hid ((Below.refl w.heap.size w).alloc (Nat.le_refl _) (.cells #[] 48))
    have hz := HB.out.size
    have HCA : CellsO (w.alloc (.cells #[] 48)) (some ad) l := fun h0 => by
      obtain ⟨g, off, h1, h2, h3⟩ := HC.out h0
      exact ⟨g, off, h1, Nat.lt_of_lt_of_le h2 hz, fun i hi => ⟨(HB.out.cell (p := ⟨g, off + i * 2, none⟩) h2).trans (h3 i hi).1, (HB.out.cell (p := ⟨g, off + i * 2 + 1, none⟩) h2).trans (h3 i hi).2⟩⟩
    have hrow : RowC w.heap.size 48 (w.alloc (.cells #[] 48)) (.slice (some ⟨w.heap.size, 0, none⟩) 0 0) [] := ⟨rfl, .inr ⟨w.heap.size, 0, #[], rfl, Nat.le_refl _, heap_alloc_new w _, Nat.le_refl _, by decide, rfl, rfl⟩⟩
    go_wp2_with (at_builtin; refine wpList_append_cubs rfl _ _ 22 rfl 48 i0 Tryd.underlying22 hi0 hz0 hz1 hz2 _ [] l (some ad) cap rfl rfl HCA (fun h => by cases h) w.heap.size hrow (by simp; omega) hz ?_; intro v5 w5 hr5 hb5)
    go_ret
    exact ⟨v5, rfl, by rw [List.nil_append] at hr5; exact hr5, HB.out.trans hb5⟩
end Go.Proofs.YtekeedccgnbkkaaDoor
