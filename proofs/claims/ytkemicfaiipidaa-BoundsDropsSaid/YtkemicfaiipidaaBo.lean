/- Squares that grow row by row, by append. For walks. -/
import Derived.Test.YtkemicfaiipidaaBf
namespace Bn
/-- A matrix with one row set. -/
def rowS (m : Mx) (r : Nat) (l : List Int) : Mx := fun a b => if a = r then l.getD b 0 else m a b
end Bn
namespace Go.Proofs.Ytkemicfaiipidaa
open Go.RowKit

def rowV (k : Nat) (f c : Nat → Nat) (r : Nat) : List Value := (List.range r).map fun i => Value.slice (some ⟨f i, 0, none⟩) k (c i)
theorem rowV_len (k : Nat) (f c : Nat → Nat) (r : Nat) : (rowV k f c r).length = r := by simp [rowV]
theorem rowV_at (k : Nat) (f c : Nat → Nat) {r i : Nat} (hi : i < r) : (rowV k f c r)[i]? = some (.slice (some ⟨f i, 0, none⟩) k (c i)) := by
  simp [rowV, hi]
theorem rowV_succ (k : Nat) (f c : Nat → Nat) (r g x : Nat) : rowV k (fun q => if q = r then g else f q) (fun q => if q = r then x else c q) (r + 1) = rowV k f c r ++ [.slice (some ⟨g, 0, none⟩) k x] := by
  unfold rowV
  rw [List.range_succ, List.map_append]
  congr 1
  · refine List.map_congr_left fun i hi => ?_
    have := List.mem_range.1 hi
    simp only [show ¬ i = r by omega, if_false]
  · simp
/-- r rows of k numbers, in a slice of slices of the call's own that grows. -/
structure Gro (T : TypeId) (B : Nat) (W : World) (v : Value) (k r : Nat) (f c : Nat → Nat) (m : Bn.Mx) : Prop where
  out : W.ownsRow B T 1 v r (rowV k f c r)
  cap : ∀ i, i < r → k ≤ c i ∧ c i ≤ maxLen
  blk : ∀ i, i < r → f i < W.heap.size ∧ B ≤ f i ∧ v.ownBlock ≠ some (f i)
  row : ∀ i j, i < r → j < k → W.cell? ⟨f i, j, none⟩ = some (.int .i64 (m i j)) ∧ W.frozen? ⟨f i, j, none⟩ = false
  apart : ∀ i j, i < r → j < r → i ≠ j → f i ≠ f j
theorem Gro.nil (T : TypeId) (B : Nat) (W : World) (k : Nat) (f c : Nat → Nat) (m : Bn.Mx) : Gro T B W (.slice none 0 0) k 0 f c m :=
  ⟨World.ownsRow_nil _ _ _ _, fun i hi => by omega, fun i hi => by omega, fun i j hi => by omega, fun i j hi => by omega⟩
theorem frozen_kept {w w' : World} {r : Option Nat} (hg : w.grownBy w' r) {q : Nat} (hq : q < w.heap.size) (hne : some q ≠ r) (i : Nat) : w'.frozen? ⟨q, i, none⟩ = w.frozen? ⟨q, i, none⟩ := by
  have := hg.block q hq hne
  unfold World.frozen?
  simp only [this]
theorem Gro.kept {T : TypeId} {B : Nat} {W W' : World} {v : Value} {k r : Nat} {f c : Nat → Nat} {m : Bn.Mx} {row : Option Nat} (h : Gro T B W v k r f c m) (hg : W.grownBy W' row) (hv : v.ownBlock = none ∨ v.ownBlock ≠ row) (hf : ∀ i, i < r → some (f i) ≠ row) : Gro T B W' v k r f c m :=
  ⟨h.out.kept hg hv, h.cap, fun i hi => ⟨Nat.lt_of_lt_of_le (h.blk i hi).1 hg.size, (h.blk i hi).2⟩, fun i j hi hj => ⟨hg.cell (h.row i j hi hj).1 (hf i hi), by rw [frozen_kept hg (h.blk i hi).1 (hf i hi)]; exact (h.row i j hi hj).2⟩, h.apart⟩
theorem Gro.step {T : TypeId} {B : Nat} {W W' : World} {v : Value} {k r : Nat} {f c : Nat → Nat} {m : Bn.Mx} (h : Gro T B W v k r f c m) (hb : Below W.heap.size W W') : Gro T B W' v k r f c m :=
  h.kept (grown_below (r := none) hb) (by cases v.ownBlock <;> simp) (fun i _ => by simp)
theorem Gro.form {T : TypeId} {B : Nat} {W : World} {v : Value} {k r : Nat} {f c : Nat → Nat} {m : Bn.Mx} (h : Gro T B W v k r f c m) : ∃ ao cap, v = .slice ao r cap := by
  rcases h.out.2 with ⟨rfl, h0⟩ | ⟨g, cap, cur, rfl, _⟩
  · exact ⟨none, 0, by rw [h0]⟩
  · exact ⟨_, _, rfl⟩
/-- What stands when a row has been appended. -/
theorem Gro.more {T e : TypeId} {B : Nat} {w w' : World} {v v' : Value} {k r : Nat} {f c : Nat → Nat} {m : Bn.Mx} {g x : Nat} {l : List Int} (h : Gro T B w v k r f c m)
    (hu : RowI B e w (.slice (some ⟨g, 0, none⟩) k x) l) (hk : l.length = k) (hgf : ∀ i, i < r → f i ≠ g) (hgv : v.ownBlock ≠ some g)
    (hr : w'.ownsRow B T 1 v' (r + 1) (rowV k f c r ++ [.slice (some ⟨g, 0, none⟩) k x])) (hg : w.grownBy w' v.ownBlock) (hv : v'.ownBlock = v.ownBlock ∨ v'.ownBlock = some w.heap.size) :
    Gro T B w' v' k (r + 1) (fun q => if q = r then g else f q) (fun q => if q = r then x else c q) (Bn.rowS m r l) := by
  have hgl := World.ownsRow.lt hu g rfl
  have hcap : k ≤ x ∧ x ≤ maxLen := by
    rcases hu.2 with ⟨h', _⟩ | ⟨g', cap', cur, h', _, _, h1, h2, _⟩
    · simp at h'
    · simp only [Value.slice.injEq] at h'
      obtain ⟨_, _, rfl⟩ := h'
      rw [hk] at h1
      exact ⟨h1, h2⟩
  refine ⟨by rw [rowV_succ]; exact hr, fun i hi => ?_, fun i hi => ?_, fun i j hi hj => ?_, fun i j hi hj hij => ?_⟩
  · by_cases e : i = r
    · simp only [if_pos e]; exact hcap
    · simp only [if_neg e]; exact h.cap i (by omega)
  · have hz := hg.size
    by_cases e : i = r
    · simp only [if_pos e]
      refine ⟨by omega, hgl.1, ?_⟩
      rcases hv with hv | hv
      · rw [hv]; exact hgv
      · rw [hv]; simp; omega
    · simp only [if_neg e]
      obtain ⟨b1, b2, b3⟩ := h.blk i (by omega)
      refine ⟨by omega, b2, ?_⟩
      rcases hv with hv | hv
      · rw [hv]; exact b3
      · rw [hv]; simp; omega
  · unfold Bn.rowS
    by_cases e : i = r
    · simp only [if_pos e]
      have hu' := hu
      unfold RowI at hu'
      rw [hk] at hu'
      have h1 := hu'.cellAt j (by omega)
      have h2 := hu'.frozenAt j
      have hne : some g ≠ v.ownBlock := fun e => hgv e.symm
      refine ⟨hg.cell (a := ⟨g, j, none⟩) (v := .int .i64 (l.getD j 0)) ?_ hne, by rw [frozen_kept hg hgl.2 hne]; exact h2⟩
      rw [h1, List.getElem?_map, List.getElem?_eq_getElem (by omega), List.getD_eq_getElem?_getD, List.getElem?_eq_getElem (by omega)]
      rfl
    · simp only [if_neg e]
      obtain ⟨b1, b2, b3⟩ := h.blk i (by omega)
      obtain ⟨h1, h2⟩ := h.row i j (by omega) hj
      have hne : some (f i) ≠ v.ownBlock := fun e => b3 e.symm
      exact ⟨hg.cell h1 hne, by rw [frozen_kept hg b1 hne]; exact h2⟩
  · by_cases e1 : i = r <;> by_cases e2 : j = r
    · omega
    · simp only [if_pos e1, if_neg e2]; exact fun e => hgf j (by omega) e.symm
    · simp only [if_neg e1, if_pos e2]; exact fun e => hgf i (by omega) e
    · simp only [if_neg e1, if_neg e2]; exact h.apart i j (by omega) (by omega) hij
/-- A whole square. -/
theorem Gro.grd {T : TypeId} {B : Nat} {W : World} {v : Value} {k : Nat} {f c : Nat → Nat} {m : Bn.Mx} (h : Gro T B W v k k f c m) (hk : 0 < k) : ∃ A cap, v = .slice (some ⟨A, 0, none⟩) k cap ∧ k ≤ cap ∧ cap ≤ 9223372036854775807 ∧ Grd B W A k k f c m := by
  have ho := h.out
  rcases h.out.2 with ⟨_, h0⟩ | ⟨g, cap, cur, rfl, h1, h2, h3, h4, _⟩
  · omega
  · refine ⟨g, cap, rfl, h3, by unfold maxLen at h4; omega, (Array.getElem?_eq_some_iff.1 h2).1, h1, Nat.le_refl _, fun i hi => ⟨?_, ho.frozenAt i⟩, h.cap, fun i hi => ⟨(h.blk i hi).1, (h.blk i hi).2.1, ?_⟩, h.row, h.apart⟩
    · rw [ho.cellAt i (by omega), rowV_at k f c hi, if_pos hi]
    · have := (h.blk i hi).2.2
      simp only [Value.ownBlock, ne_eq, Option.some.injEq] at this
      exact fun e => this e.symm
theorem info_row : ∃ i : TypeInfo, Try.prog.info? 42 = some i ∧ i.zero = some (.slice none 0 0) ∧ i.size = 1 ∧ i.bytes = 24 := by
  have h : (Try.prog.info? 42).map (fun i => (i.zero, i.size, i.bytes)) = some (some (.slice none 0 0), 1, 24) := by kernel_rfl
  obtain ⟨i, h1, h2⟩ := Option.map_eq_some_iff.1 h
  simp only [Prod.mk.injEq] at h2
  exact ⟨i, h1, h2⟩
theorem addrAdd (b off i : Nat) : (⟨b, off, none⟩ : Addr).add i = ⟨b, off + i, none⟩ := by unfold Addr.add; split <;> simp_all
/-- 'append' of a row to a square that grows: at an operation of a plain region. -/
theorem wpList_append_row {P : Program} {w : World} {ops : Array Oper} {rest : List Oper} {o : Oper} {a : Act} {Q : Exit → Act → World → Prop} (hgd : o.guard = none) (s x : Operand) (t : TypeId)
    (ho : o.op = .call { callee := .builtin .append, args := #[s, x], argTypes := #[t, t] })
    (T e : TypeId) (i : TypeInfo) (ht : P.underlying t = some (.slice T)) (hi : P.info? T = some i) (hz : i.zero = some (.slice none 0 0)) (hsize : i.size = 1) (hby : i.bytes = 24)
    (v : Value) (k r : Nat) (f c : Nat → Nat) (m : Bn.Mx) (q g y : Nat) (l : List Int) (hs : a.eval s = v) (hx : a.eval x = .slice (some ⟨q, 0, none⟩) 1 1) (B : Nat) (hown : Gro T B w v k r f c m)
    (hc : w.cell? ⟨q, 0, none⟩ = some (.slice (some ⟨g, 0, none⟩) k y)) (hu : RowI B e w (.slice (some ⟨g, 0, none⟩) k y) l) (hk : l.length = k) (hgf : ∀ i, i < r → f i ≠ g) (hgv : v.ownBlock ≠ some g) (hr : r ≤ 1000) (hB : B ≤ w.heap.size)
    (h : ∀ ao' cap' w', Gro T B w' (.slice ao' (r + 1) cap') k (r + 1) (fun q => if q = r then g else f q) (fun q => if q = r then y else c q) (Bn.rowS m r l) → w.grownBy w' v.ownBlock → Below B w w' → wpList P ops Q rest (a.put o.dst (.slice ao' (r + 1) cap')) w') : wpList P ops Q (o :: rest) a w := by
  refine wpList_append_own_at w hgd s x t ho B T i (.slice none 0 0) 1 24 ht hi hz hsize hby rfl (by omega) v r _ hs hown.out ⟨q, 0, none⟩ 1 1 [.slice (some ⟨g, 0, none⟩) k y] hx (by simp) ?_ ?_ (by unfold maxLen; omega) (by omega) hB ?_
  · intro j u hj
    rw [addrAdd]
    rcases j with _ | j
    · simp at hj; subst hj; exact hc
    · simp at hj
  · intro u hu
    rw [List.mem_singleton.1 hu]; rfl
  · intro v' w' r1 r2 r3 r4
    have hG := hown.more hu hk hgf hgv r1 r2 r4
    obtain ⟨ao', cap', rfl⟩ := hG.form
    exact h _ _ _ hG r2 ((Below.refl B w).grown r2 hB (fun p hp => (World.ownsRow.lt hown.out p hp).1))
/-- The same in a region that draws its order. -/
theorem step_append_row {P : Program} {w : World} {ops : Array Oper} {o : Oper} {a : Act} {K : Act → World → Prop} {Q : Exit → Act → World → Prop} {E : Prop} (hgd : o.guard = none) (s x : Operand) (t : TypeId)
    (ho : o.op = .call { callee := .builtin .append, args := #[s, x], argTypes := #[t, t] })
    (T e : TypeId) (i : TypeInfo) (ht : P.underlying t = some (.slice T)) (hi : P.info? T = some i) (hz : i.zero = some (.slice none 0 0)) (hsize : i.size = 1) (hby : i.bytes = 24)
    (v : Value) (k r : Nat) (f c : Nat → Nat) (m : Bn.Mx) (q g y : Nat) (l : List Int) (hs : a.eval s = v) (hx : a.eval x = .slice (some ⟨q, 0, none⟩) 1 1) (B : Nat) (hown : Gro T B w v k r f c m)
    (hc : w.cell? ⟨q, 0, none⟩ = some (.slice (some ⟨g, 0, none⟩) k y)) (hu : RowI B e w (.slice (some ⟨g, 0, none⟩) k y) l) (hk : l.length = k) (hgf : ∀ i, i < r → f i ≠ g) (hgv : v.ownBlock ≠ some g) (hr : r ≤ 1000) (hB : B ≤ w.heap.size)
    (h : ∀ ao' cap' w', Gro T B w' (.slice ao' (r + 1) cap') k (r + 1) (fun q => if q = r then g else f q) (fun q => if q = r then y else c q) (Bn.rowS m r l) → w.grownBy w' v.ownBlock → Below B w w' → K (a.put o.dst (.slice ao' (r + 1) cap')) w') :
    if Region.wanted o (yielded ops a.tmps) = true then Oper.wp P o a w K Q else E := by
  have hw : Region.wanted o (yielded ops a.tmps) = true := by simp [Region.wanted, hgd]
  rw [if_pos hw]
  obtain ⟨v', w', hr', r1, r2, r3, r4⟩ := run_append_own_at (P := P) w B t o.type T i (.slice none 0 0) 1 24 ht hi hz hsize hby rfl (by omega) v r _ hown.out ⟨q, 0, none⟩ 1 1 [.slice (some ⟨g, 0, none⟩) k y] (by simp)
    (fun j u hj => by
      rw [addrAdd]
      rcases j with _ | j
      · simp at hj; subst hj; exact hc
      · simp at hj) (fun u hu => by rw [List.mem_singleton.1 hu]; rfl) (by unfold maxLen; omega) (by omega) hB
  have hG := hown.more hu hk hgf hgv r1 r2 r4
  obtain ⟨ao', cap', rfl⟩ := hG.form
  have hK := h _ _ _ hG r2 ((Below.refl B w).grown r2 hB (fun p hp => (World.ownsRow.lt hown.out p hp).1))
  unfold Oper.wp execOp
  simp only [ho, resolve, invoke, builtin, Sem.run_bind, Sem.run_pure, Result.andThen_ok, List.map_toArray, List.map_cons, List.map_nil, hs, hx, hr']
  exact hK
/-- 'append' of integers that lie anywhere to an empty slice, in a region that draws its order: a new block. -/
theorem step_append_new {P : Program} {w : World} {ops : Array Oper} {o : Oper} {a : Act} {K : Act → World → Prop} {Q : Exit → Act → World → Prop} {E : Prop} (hgd : o.guard = none) (s x : Operand) (t : TypeId)
    (ho : o.op = .call { callee := .builtin .append, args := #[s, x], argTypes := #[t, t] })
    (e : TypeId) (i : TypeInfo) (ht : P.underlying t = some (.slice e)) (hi : P.info? e = some i) (hz : i.zero = some (.int .i64 0)) (hsize : i.size = 1) (hby : i.bytes = 8)
    (q : Nat) (b off cap k : Nat) (l : List Int) (hkl : l.length = k) (hs : a.eval s = .slice (some ⟨q, 0, none⟩) 0 0) (hx : a.eval x = .slice (some ⟨b, off, none⟩) k cap) (B : Nat) (hq : B ≤ q) (cs : Array Value) (hcs : cs.size = 0) (hqo : w.heap[q]? = some (.cells cs e (0, 0)))
    (hy : ∀ j, j < k → w.cell? ⟨b, off + j, none⟩ = some (.int .i64 (l.getD j 0))) (h0 : 0 < k) (hlen : k ≤ 1048576) (hB : B ≤ w.heap.size)
    (h : ∀ g cap' w', RowI B e w' (.slice (some ⟨g, 0, none⟩) k cap') l → (g = q ∨ g = w.heap.size) → w.grownBy w' (some q) → K (a.put o.dst (.slice (some ⟨g, 0, none⟩) k cap')) w') :
    if Region.wanted o (yielded ops a.tmps) = true then Oper.wp P o a w K Q else E := by
  subst hkl
  have hw : Region.wanted o (yielded ops a.tmps) = true := by simp [Region.wanted, hgd]
  rw [if_pos hw]
  have hown : w.ownsRow B e 1 (.slice (some ⟨q, 0, none⟩) 0 0) 0 [] := ⟨rfl, .inr ⟨q, 0, cs, rfl, hq, hqo, Nat.le_refl _, by unfold maxLen; omega, by omega, by simp⟩⟩
  obtain ⟨v', w', hr', r1, r2, r3, r4⟩ := run_append_own_at (P := P) w B t o.type e i (.int .i64 0) 1 8 ht hi hz hsize hby rfl (by omega) _ 0 _ hown ⟨b, off, none⟩ l.length cap (l.map fun n => .int .i64 n) (by simp)
    (fun j u hj => by
      rw [List.getElem?_map] at hj
      by_cases hjl : j < l.length
      · rw [List.getElem?_eq_getElem hjl, Option.map_some] at hj
        have h5 := hy j hjl
        rw [List.getD_eq_getElem?_getD, List.getElem?_eq_getElem hjl, Option.getD_some] at h5
        rw [addrAdd, h5]
        exact hj
      · rw [List.getElem?_eq_none (by omega)] at hj; cases hj) (fun u hu => by obtain ⟨n, _, rfl⟩ := List.mem_map.1 hu; rfl) (by unfold maxLen; omega) (by omega) hB
  simp only [Nat.zero_add, List.nil_append] at r1
  have hK : ∃ g cap', v' = .slice (some ⟨g, 0, none⟩) l.length cap' ∧ (g = q ∨ g = w.heap.size) := by
    rcases r1.2 with ⟨_, h1⟩ | ⟨g, cap', cur, rfl, _⟩
    · omega
    · refine ⟨g, cap', rfl, ?_⟩
      rcases r4 with r4 | r4
      · left; simpa [Value.ownBlock] using r4
      · right; simpa [Value.ownBlock] using r4
  obtain ⟨g, cap', rfl, hg⟩ := hK
  have hK := h g cap' w' r1 hg r2
  unfold Oper.wp execOp
  simp only [ho, resolve, invoke, builtin, Sem.run_bind, Sem.run_pure, Result.andThen_ok, List.map_toArray, List.map_cons, List.map_nil, hs, hx, hr']
  exact hK
end Go.Proofs.Ytkemicfaiipidaa

