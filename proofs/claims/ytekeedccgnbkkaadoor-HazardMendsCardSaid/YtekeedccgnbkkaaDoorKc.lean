/- Cubes of the reference. -/
import Derived.Test.YtekeedccgnbkkaaDoorIm
namespace Ic
/-- The first k values of a care. -/
def rowR (c k : Nat) : List (Nat × Nat) := ((List.range k).filter fun v => v &&& c == v).map fun v => (c, v)
/-- All cubes with a care below m, in the reference's order. -/
def cubR (m : Nat) : List (Nat × Nat) := (List.range m).flatMap fun c => rowR c (c + 1)
theorem rowR_succ (c k : Nat) : rowR c (k + 1) = if k &&& c == k then rowR c k ++ [(c, k)] else rowR c k := by
  unfold rowR
  rw [List.range_succ, List.filter_append, List.map_append]
  by_cases h : (k &&& c == k) = true
  · rw [if_pos h, List.filter_cons_of_pos (by exact h)]; rfl
  · rw [if_neg h, List.filter_cons_of_neg (by exact h)]; simp
theorem cubR_succ (m : Nat) : cubR (m + 1) = cubR m ++ rowR m (m + 1) := by simp [cubR, List.range_succ]
theorem rowR_len (c k : Nat) : (rowR c k).length ≤ k := by
  unfold rowR
  rw [List.length_map]
  exact Nat.le_trans (List.length_filter_le _ _) (by simp)
theorem cubR_len (m : Nat) : (cubR m).length ≤ m * m := by
  induction m with
  | zero => simp [cubR]
  | succ m ih => rw [cubR_succ, List.length_append]; have := rowR_len m (m + 1); simp only [Nat.add_mul, Nat.mul_add]; omega
theorem andNot_small : ∀ c : Nat, c < 64 → ∀ v : Nat, v < 64 → (Go.bits .andNot .i64 (v : Int) (c : Int) == 0) = (v &&& c == v) := by decide +kernel
end Ic
namespace Go.Proofs.YtekeedccgnbkkaaDoor
open Go.RowKit Go.Shelf

/-- A row of cubes that is the call's own. -/
def RowC (B : Nat) (e : TypeId) (w : World) (v : Value) (l : List (Nat × Nat)) : Prop := w.ownsRow B e 2 v l.length (l.flatMap Ic.encC)
theorem RowC.below {B : Nat} {e : TypeId} {w w' : World} {v : Value} {l : List (Nat × Nat)} (h : RowC B e w v l) {C : Nat} (hb : Below C w w') (hC : w.heap.size ≤ C) : RowC B e w' v l := by
  rcases h with ⟨h0, h | ⟨g, cap, cur, h', h1, h2, h3⟩⟩
  · exact ⟨h0, .inl h⟩
  · exact ⟨h0, .inr ⟨g, cap, cur, h', h1, by rw [hb.block g (Nat.lt_of_lt_of_le (Array.getElem?_eq_some_iff.1 h2).1 hC)]; exact h2, h3⟩⟩
theorem RowC.nil (B : Nat) (e : TypeId) (w : World) : RowC B e w (.slice none 0 0) [] := World.ownsRow_nil _ _ _ _

/-- 'append' of a cube to a slice of the call's own. -/
theorem wpList_append_cub {P : Program} {w : World} {ops : Array Oper} {rest : List Oper} {o : Oper} {a : Act} {Q : Exit → Act → World → Prop} (hgd : o.guard = none) (s x : Operand) (t : TypeId)
    (ho : o.op = .call { callee := .builtin .append, args := #[s, x], argTypes := #[t, t] })
    (e : TypeId) (i : TypeInfo) (ht : P.underlying t = some (.slice e)) (hi : P.info? e = some i) (hz : i.zero = some (.agg #[.int .u64 0, .int .u64 0])) (hsize : i.size = 2) (hby : i.bytes = 16)
    (v : Value) (l : List (Nat × Nat)) (y : Nat × Nat) (g : Nat) (hs : a.eval s = v) (hx : a.eval x = .slice (some ⟨g, 0, none⟩) 1 1) (B : Nat) (hown : RowC B e w v l)
    (h0 : w.cell? ⟨g, 0, none⟩ = some (.int .u64 (y.1 : Int))) (h1 : w.cell? ⟨g, 1, none⟩ = some (.int .u64 (y.2 : Int))) (hlen : l.length ≤ 1048576) (hB : B ≤ w.heap.size)
    (h : ∀ v' w', RowC B e w' v' (l ++ [y]) → Below B w w' → wpList P ops Q rest (a.put o.dst v') w') : wpList P ops Q (o :: rest) a w := by
  refine wpList_append_own w hgd s x t ho B e i (.agg #[.int .u64 0, .int .u64 0]) 2 16 ht hi hz hsize hby rfl (by omega) v l.length _ hs hown ⟨g, 0, none⟩ 1 1 [.int .u64 (y.1 : Int), .int .u64 (y.2 : Int)] hx (by simp) ?_ ?_ (by unfold maxLen; omega) ?_ hB ?_
  · intro j u hj
    rw [addr_add]
    rcases j with _ | _ | j
    · simp at hj; subst hj; exact h0
    · simp at hj; subst hj; exact h1
    · simp at hj
  · simp [Value.oneCell']
  · omega
  · intro v' w' r1 r2 r3
    refine h v' w' ?_ ((Below.refl _ _).grown r2 hB (fun g hg => (World.ownsRow.lt hown g hg).1))
    unfold RowC
    rw [List.length_append, List.flatMap_append]
    exact r1

theorem info_cube : ∃ i : TypeInfo, Tryd.prog.info? 48 = some i ∧ i.zero = some (.agg #[.int .u64 0, .int .u64 0]) ∧ i.size = 2 ∧ i.bytes = 16 := by
  have h : (Tryd.prog.info? 48).map (fun i => (i.zero, i.size, i.bytes)) = some (some (.agg #[.int .u64 0, .int .u64 0]), 2, 16) := by kernel_rfl
  obtain ⟨i, h1, h2⟩ := Option.map_eq_some_iff.1 h
  simp only [Prod.mk.injEq] at h2
  exact ⟨i, h1, h2⟩

end Go.Proofs.YtekeedccgnbkkaaDoor

