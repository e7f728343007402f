/- The lists of neighbours while they are being made. -/
import Derived.Test.YtkjhockppkdakaaDe
import Derived.Deep.OwnRows
namespace Dg
theorem set_getD {α : Type} (l : List α) (i j : Nat) (x d : α) (hi : i < l.length) : (l.set i x).getD j d = if j = i then x else l.getD j d := by
  rw [List.getD_eq_getElem?_getD, List.getElem?_set, List.getD_eq_getElem?_getD]
  by_cases h : i = j
  · subst h; simp [hi]
  · rw [if_neg h, if_neg (Ne.symm h)]
/-- The vertices to which edges lead from a vertex, in the order of the edges. -/
def adj (es : List (Nat × Nat)) (v : Nat) : List Nat := (es.filter fun e => e.1 == v).map (·.2)
theorem adj_len (es : List (Nat × Nat)) (v : Nat) : (adj es v).length ≤ es.length := by
  unfold adj; rw [List.length_map]; exact List.length_filter_le _ _
theorem adj_snoc (es : List (Nat × Nat)) (e : Nat × Nat) (v : Nat) : adj (es ++ [e]) v = if v = e.1 then adj es v ++ [e.2] else adj es v := by
  unfold adj
  rw [List.filter_append, List.map_append]
  by_cases h : v = e.1
  · subst h; simp
  · rw [if_neg h]; simp [Ne.symm h]
theorem adj_mem {es : List (Nat × Nat)} {v u : Nat} : u ∈ adj es v ↔ (v, u) ∈ es := by
  unfold adj
  rw [List.mem_map]
  constructor
  · rintro ⟨⟨a, b⟩, h, rfl⟩
    rw [List.mem_filter] at h
    simp only [beq_iff_eq] at h
    rw [← h.2]; exact h.1
  · intro h
    exact ⟨(v, u), List.mem_filter.2 ⟨h, by simp⟩, rfl⟩
def adjL (n : Nat) (es : List (Nat × Nat)) : List (List Int) := (List.range n).map fun v => ci (adj es v)
theorem adjL_len (n : Nat) (es : List (Nat × Nat)) : (adjL n es).length = n := by simp [adjL]
theorem adjL_at {n v : Nat} (es : List (Nat × Nat)) (hv : v < n) : (adjL n es).getD v [] = ci (adj es v) := by
  unfold adjL
  rw [List.getD_eq_getElem?_getD, List.getElem?_map, List.getElem?_range hv]; rfl
theorem ext_getD {α : Type} {l m : List α} (d : α) (hl : l.length = m.length) (h : ∀ i, i < l.length → l.getD i d = m.getD i d) : l = m := by
  apply List.ext_getElem hl
  intro i h1 h2
  have := h i h1
  rw [List.getD_eq_getElem?_getD, List.getElem?_eq_getElem h1, List.getD_eq_getElem?_getD, List.getElem?_eq_getElem h2] at this
  simpa using this
theorem adjL_snoc {n : Nat} {es : List (Nat × Nat)} {e : Nat × Nat} (he : e.1 < n) : adjL n (es ++ [e]) = (adjL n es).set e.1 (ci (adj es e.1) ++ [(e.2 : Int)]) := by
  refine ext_getD [] (by simp [adjL_len]) fun i hi => ?_
  rw [adjL_len] at hi
  rw [set_getD _ _ _ _ _ (by rw [adjL_len]; exact he), adjL_at _ hi, adj_snoc]
  by_cases h : i = e.1
  · rw [if_pos h, if_pos h, ci_append, h]; rfl
  · rw [if_neg h, if_neg h, adjL_at _ hi]
/-- The neighbours of a vertex, ascending. -/
def nb (es : List (Nat × Nat)) (v : Nat) : List Int := (ci (adj es v)).mergeSort fun x y => decide (x ≤ y)
def nbL (n : Nat) (es : List (Nat × Nat)) : List (List Int) := (List.range n).map fun v => nb es v
theorem nbL_len (n : Nat) (es : List (Nat × Nat)) : (nbL n es).length = n := by simp [nbL]
theorem nbL_at {n v : Nat} (es : List (Nat × Nat)) (hv : v < n) : (nbL n es).getD v [] = nb es v := by
  unfold nbL
  rw [List.getD_eq_getElem?_getD, List.getElem?_map, List.getElem?_range hv]; rfl
theorem nb_len (es : List (Nat × Nat)) (v : Nat) : (nb es v).length = (adj es v).length := by unfold nb; rw [List.length_mergeSort, ci_len]
theorem nb_mem {es : List (Nat × Nat)} {v : Nat} {x : Int} : x ∈ nb es v ↔ ∃ u : Nat, x = u ∧ (v, u) ∈ es := by
  unfold nb
  rw [List.mem_mergeSort]
  unfold ci
  rw [List.mem_map]
  constructor
  · rintro ⟨u, hu, rfl⟩; exact ⟨u, rfl, adj_mem.1 hu⟩
  · rintro ⟨u, rfl, hu⟩; exact ⟨u, adj_mem.2 hu, rfl⟩
/-- The first j lists are sorted. -/
def mixL (n : Nat) (es : List (Nat × Nat)) (j : Nat) : List (List Int) := (List.range n).map fun v => if v < j then nb es v else ci (adj es v)
theorem mixL_len (n : Nat) (es : List (Nat × Nat)) (j : Nat) : (mixL n es j).length = n := by simp [mixL]
theorem mixL_at {n v : Nat} (es : List (Nat × Nat)) (j : Nat) (hv : v < n) : (mixL n es j).getD v [] = if v < j then nb es v else ci (adj es v) := by
  unfold mixL
  rw [List.getD_eq_getElem?_getD, List.getElem?_map, List.getElem?_range hv]; rfl
theorem mixL_zero (n : Nat) (es : List (Nat × Nat)) : mixL n es 0 = adjL n es := by unfold mixL adjL; simp
theorem mixL_all (n : Nat) (es : List (Nat × Nat)) : mixL n es n = nbL n es := by
  refine ext_getD [] (by rw [mixL_len, nbL_len]) fun i hi => ?_
  rw [mixL_len] at hi
  rw [mixL_at _ _ hi, nbL_at _ hi, if_pos hi]
theorem mixL_succ {n j : Nat} (es : List (Nat × Nat)) (hj : j < n) : mixL n es (j + 1) = (mixL n es j).set j ((ci (adj es j)).mergeSort fun x y => decide (x ≤ y)) := by
  refine ext_getD [] (by simp [mixL_len]) fun i hi => ?_
  rw [mixL_len] at hi
  rw [set_getD _ _ _ _ _ (by rw [mixL_len]; exact hj), mixL_at _ _ hi, mixL_at _ _ hi]
  by_cases h : i = j
  · subst h; rw [if_pos (by omega), if_pos rfl]; rfl
  · rw [if_neg h]
    by_cases h2 : i < j
    · rw [if_pos h2, if_pos (by omega)]
    · rw [if_neg h2, if_neg (by omega)]
end Dg
namespace Go.Proofs.Ytkjhockppkdakaa
open Go.RowKit

/-- A block of slices, each of which is a row of its own. -/
structure NbrI (e : TypeId) (w : World) (N : Nat) (us : List Value) (L : List (List Int)) : Prop where
  lt : N < w.heap.size
  len : us.length = L.length
  cell : ∀ i, i < L.length → w.cell? ⟨N, i, none⟩ = some (us.getD i (.slice none 0 0))
  free : ∀ i, i < L.length → w.frozen? ⟨N, i, none⟩ = false
  row : ∀ i, i < L.length → RowI (N + 1) e w (us.getD i (.slice none 0 0)) (L.getD i [])
  apart : ∀ i j, i < L.length → j < L.length → i ≠ j → (us.getD i (.slice none 0 0)).ownBlock = none ∨ (us.getD i (.slice none 0 0)).ownBlock ≠ (us.getD j (.slice none 0 0)).ownBlock
theorem NbrI.below {e : TypeId} {w w' : World} {N : Nat} {us : List Value} {L : List (List Int)} (h : NbrI e w N us L) (hb : Below w.heap.size w w') : NbrI e w' N us L :=
  ⟨Nat.lt_of_lt_of_le h.lt hb.size, h.len, fun i hi => (hb.cell (p := ⟨N, i, none⟩) h.lt).trans (h.cell i hi), fun i hi => (hb.frozen (p := ⟨N, i, none⟩) h.lt).trans (h.free i hi), fun i hi => (h.row i hi).step hb, h.apart⟩
/-- One row has got another value. -/
theorem NbrI.put {e : TypeId} {w w' : World} {N i : Nat} {us : List Value} {L : List (List Int)} (h : NbrI e w N us L) (hi : i < L.length) {v : Value} {l : List Int}
    (hg : w.grownBy w' (us.getD i (.slice none 0 0)).ownBlock) (hr : RowI (N + 1) e w' v l) (ho : v.ownBlock = (us.getD i (.slice none 0 0)).ownBlock ∨ ∃ g, v.ownBlock = some g ∧ w.heap.size ≤ g) :
    NbrI e (w'.setCell ⟨N, i, none⟩ v) N (us.set i v) (L.set i l) := by
  have hiu : i < us.length := by rw [h.len]; exact hi
  have hb : Below (N + 1) w w' := (Below.refl _ w).grown hg h.lt (fun g hg => (World.ownsRow.lt (h.row i hi) g hg).1)
  have hN : N < N + 1 := by omega
  have hc : ∀ j, j < L.length → w'.cell? ⟨N, j, none⟩ = some (us.getD j (.slice none 0 0)) := fun j hj => (hb.cell (p := ⟨N, j, none⟩) hN).trans (h.cell j hj)
  refine ⟨?_, by simp [h.len], ?_, ?_, ?_, ?_⟩
  · have := hb.size; have := h.lt; simp; omega
  · intro j hj
    rw [List.length_set] at hj
    rw [Dg.set_getD _ _ _ _ _ hiu]
    by_cases e : j = i
    · subst e
      rw [if_pos rfl, World.cell?_setCell_same' _ _ _ (by rw [hc j hj]; rfl)]
    · rw [if_neg e, World.cell?_setCell_other (w := w') (v := v) (a := ⟨N, i, none⟩) (b := ⟨N, j, none⟩) (fun e' => e (congrArg Addr.off e').symm), hc j hj]
  · intro j hj
    rw [List.length_set] at hj
    rw [World.frozen?_setCell]
    exact (hb.frozen (p := ⟨N, j, none⟩) hN).trans (h.free j hj)
  · intro j hj
    rw [List.length_set] at hj
    rw [Dg.set_getD _ _ _ _ _ hiu, Dg.set_getD _ _ _ _ _ hi]
    refine ownsRow_setCell_below ?_ (a := ⟨N, i, none⟩) hN v
    by_cases e : j = i
    · rw [if_pos e, if_pos e]; exact hr
    · rw [if_neg e, if_neg e]
      exact (h.row j hj).kept hg (h.apart j i hj hi e)
  · have fresh : ∀ j, j < L.length → ∀ g, w.heap.size ≤ g → (us.getD j (.slice none 0 0)).ownBlock ≠ some g := fun j hj g hg e => by
      have := (World.ownsRow.lt (h.row j hj) g e).2
      omega
    intro j k hj hk hjk
    rw [List.length_set] at hj hk
    rw [Dg.set_getD _ _ _ _ _ hiu, Dg.set_getD _ _ _ _ _ hiu]
    by_cases e1 : j = i
    · rw [if_pos e1, if_neg (by omega)]
      rcases ho with ho | ⟨g, ho, hg⟩
      · rw [ho, ← e1]; exact h.apart j k hj hk hjk
      · right; rw [ho]; exact fun e => fresh k hk g hg e.symm
    · rw [if_neg e1]
      by_cases e2 : k = i
      · rw [if_pos e2]
        rcases ho with ho | ⟨g, ho, hg⟩
        · rw [ho, ← e2]; exact h.apart j k hj hk hjk
        · right; rw [ho]; exact fresh j hj g hg
      · rw [if_neg e2]; exact h.apart j k hj hk hjk
/-- One row has got other integers, in its place. -/
theorem NbrI.turn {e : TypeId} {w w' : World} {N i : Nat} {us : List Value} {L : List (List Int)} (h : NbrI e w N us L) (hi : i < L.length) {l : List Int}
    (hg : w.grownBy w' (us.getD i (.slice none 0 0)).ownBlock) (hr : RowI (N + 1) e w' (us.getD i (.slice none 0 0)) l) : NbrI e w' N us (L.set i l) := by
  have hb : Below (N + 1) w w' := (Below.refl _ w).grown hg h.lt (fun g hg => (World.ownsRow.lt (h.row i hi) g hg).1)
  have hN : N < N + 1 := by omega
  refine ⟨Nat.lt_of_lt_of_le h.lt hb.size, by simp [h.len], ?_, ?_, ?_, ?_⟩
  · intro j hj
    rw [List.length_set] at hj
    exact (hb.cell (p := ⟨N, j, none⟩) hN).trans (h.cell j hj)
  · intro j hj
    rw [List.length_set] at hj
    exact (hb.frozen (p := ⟨N, j, none⟩) hN).trans (h.free j hj)
  · intro j hj
    rw [List.length_set] at hj
    rw [Dg.set_getD _ _ _ _ _ hi]
    by_cases e : j = i
    · rw [if_pos e, e]; exact hr
    · rw [if_neg e]
      exact (h.row j hj).kept hg (h.apart j i hj hi e)
  · intro j k hj hk
    rw [List.length_set] at hj hk
    exact h.apart j k hj hk
theorem NbrI.new (w : World) (n : Nat) (T e : TypeId) : NbrI e (w.alloc (.cells (madeCells #[.slice none 0 0] n) T)) w.heap.size (List.replicate n (.slice none 0 0)) (List.replicate n []) := by
  have hg : ∀ i : Nat, i < n → (List.replicate n (Value.slice none 0 0)).getD i (.slice none 0 0) = .slice none 0 0 := fun i hi => by simp [List.getD_eq_getElem?_getD, hi]
  have hl : ∀ i : Nat, i < n → (List.replicate n ([] : List Int)).getD i [] = [] := fun i hi => by simp [List.getD_eq_getElem?_getD, hi]
  refine ⟨by simp, by simp, fun i hi => ?_, fun i hi => ?_, fun i hi => ?_, fun i j hi hj hij => ?_⟩
  · have hi' : i < n := by simpa using hi
    rw [hg i hi']
    simp [madeCells, hi', Nat.mod_one]
  · simp
  · have hi' : i < n := by simpa using hi
    rw [hg i hi', hl i hi']
    exact RowI.nil _ _ _
  · have hi' : i < n := by simpa using hi
    rw [hg i hi']; exact .inl rfl
theorem NbrI.sees {e : TypeId} {w : World} {N cap : Nat} {us : List Value} {L : List (List Int)} (h : NbrI e w N us L) (hc : L.length ≤ cap) (hc2 : cap ≤ 9223372036854775807) : SeesL w (.slice (some ⟨N, 0, none⟩) L.length cap) L :=
  ⟨N, cap, rfl, hc, hc2, h.lt, fun i hi => ⟨_, h.cell i hi, (h.row i hi).sees⟩⟩

/-- 'append' of one integer to a row of the call's own, in a region that draws its order. -/
theorem step_append_int {P : Program} {ops : Array Oper} {o : Oper} {a : Act} {w : World} {K : Act → World → Prop} {Q : Exit → Act → World → Prop} {E : Prop}
    (hg : o.guard = none) (s x : Operand) (t : TypeId) (ho : o.op = Op.call { callee := Callee.builtin Builtin.append, args := #[s, x], argTypes := #[t, t] })
    (e : TypeId) (i : TypeInfo) (ht : P.underlying t = some (.slice e)) (hi : P.info? e = some i) (hz : i.zero = some (.int .i64 0)) (hsize : i.size = 1) (hby : i.bytes = 8)
    (v : Value) (l : List Int) (y : Int) (k : Nat) (hs : a.eval s = v) (hx : a.eval x = .slice (some ⟨k, 0, none⟩) 1 1) (B : Nat) (hown : RowI B e w v l) (hy : w.cell? ⟨k, 0, none⟩ = some (.int .i64 y)) (hlen : l.length ≤ 1048576) (hB : B ≤ w.heap.size)
    (h : ∀ ao' cap' w', RowI B e w' (.slice ao' (l.length + 1) cap') (l ++ [y]) → w.grownBy w' v.ownBlock → (Value.ownBlock (.slice ao' (l.length + 1) cap') = v.ownBlock ∨ ∃ g, Value.ownBlock (.slice ao' (l.length + 1) cap') = some g ∧ w.heap.size ≤ g) → K (a.put o.dst (.slice ao' (l.length + 1) cap')) w') :
    if Region.wanted o (yielded ops a.tmps) = true then Oper.wp P o a w K Q else E := by
  have hw : Region.wanted o (yielded ops a.tmps) = true := by simp [Region.wanted, hg]
  rw [if_pos hw]
  obtain ⟨v', w', hr, h2, h3, h4, h5⟩ := run_append_own_at (P := P) w B t o.type e i (.int .i64 0) 1 8 ht hi hz hsize hby rfl (by omega) v l.length _ hown ⟨k, 0, none⟩ 1 1 [.int .i64 y] (by simp)
    (fun j u hj => by
      rw [addr_add]
      rcases j with _ | j
      · simp at hj; subst hj; exact hy
      · simp at hj) (by simp [Value.oneCell']) (by unfold maxLen; omega) (by omega) hB
  have hr2 : RowI B e w' v' (l ++ [y]) := by
    unfold RowI
    rw [List.length_append, List.map_append]
    exact h2
  obtain ⟨ao', cap', rfl⟩ := hr2.form
  rw [List.length_append] at *
  have hK := h ao' cap' w' hr2 h3 (h5.imp id fun e => ⟨_, e, Nat.le_refl _⟩)
  unfold Oper.wp execOp
  simp only [ho, resolve, invoke, builtin, Sem.run_bind, Sem.run_pure, Result.andThen_ok, List.map_toArray, List.map_cons, List.map_nil, hs, hx, hr]
  exact hK
end Go.Proofs.Ytkjhockppkdakaa
