/- Lists of texts in memory, and strings.Join. -/
import Derived.Test.YtecfbncfhehdcaaDoorQH
import Derived.Test.YtecfbncfhehdcaaDoorTi
import Derived.Lib.Join
namespace Sk
open Go
theorem joinTail_len (sep : List UInt8) (M : Nat) : ∀ r : List (List UInt8), (∀ x ∈ r, x.length ≤ M) → (Lib.joinTail sep r).length ≤ r.length * (M + sep.length)
  | [], _ => by simp [Lib.joinTail]
  | x :: r, h => by
    have ih := joinTail_len sep M r (fun y hy => h y (by simp [hy]))
    have hx := h x (by simp)
    have e : Lib.joinTail sep (x :: r) = (sep ++ x) ++ Lib.joinTail sep r := by simp [Lib.joinTail]
    rw [e, List.length_append, List.length_append, List.length_cons, Nat.add_mul]
    omega
theorem join_len {sep : List UInt8} {M K : Nat} {r : List (List UInt8)} (h : ∀ x ∈ r, x.length ≤ M) (hK : r.length ≤ K) : (Lib.join r sep).length ≤ K * (M + sep.length) := by
  rcases r with _ | ⟨x, r⟩
  · simp [Lib.join_nil]
  · rw [Lib.join_cons, List.length_append]
    have h1 := joinTail_len sep M r (fun y hy => h y (by simp [hy]))
    have h2 := h x (by simp)
    have h3 : (r.length + 1) * (M + sep.length) ≤ K * (M + sep.length) := Nat.mul_le_mul_right _ (by simpa using hK)
    rw [Nat.add_mul] at h3
    omega
end Sk
namespace Go.Proofs.YtecfbncfhehdcaaDoor
open Go.RowKit

/-- A row of texts that is the call's own. -/
def RowS (B : Nat) (e : TypeId) (w : World) (v : Value) (l : List ByteArray) : Prop := w.ownsRow B e 1 v l.length (l.map fun s => .string s)
theorem RowS.nil (B : Nat) (e : TypeId) (w : World) : RowS B e w (.slice none 0 0) [] := World.ownsRow_nil _ _ _ _
theorem RowS.below {B : Nat} {e : TypeId} {w w' : World} {v : Value} {l : List ByteArray} (h : RowS B e w v l) {C : Nat} (hb : Below C w w') (hC : w.heap.size ≤ C) : RowS B e w' v l := by
  refine ⟨h.1, ?_⟩
  rcases h.2 with h' | ⟨g, cap, cur, h', h1, h2, h3⟩
  · exact .inl h'
  · exact .inr ⟨g, cap, cur, h', h1, by rw [hb.block g (Nat.lt_of_lt_of_le (Array.getElem?_eq_some_iff.1 h2).1 hC)]; exact h2, h3⟩
theorem RowS.step {B : Nat} {e : TypeId} {w w' : World} {v : Value} {l : List ByteArray} (h : RowS B e w v l) (hb : Below w.heap.size w w') : RowS B e w' v l := h.below hb (Nat.le_refl _)
theorem info_str : ∃ i : TypeInfo, Tryd.prog.info? 9 = some i ∧ i.zero = some (.string ⟨#[]⟩) ∧ i.size = 1 ∧ i.bytes = 16 := by
  have h : (Tryd.prog.info? 9).map (fun i => (i.zero, i.size, i.bytes)) = some (some (.string ⟨#[]⟩), 1, 16) := by kernel_rfl
  obtain ⟨i, h1, h2⟩ := Option.map_eq_some_iff.1 h
  simp only [Prod.mk.injEq] at h2
  exact ⟨i, h1, h2⟩
/-- 'append' of one text, laid in a block of its own. -/
theorem wpList_append_text {P : Program} {w : World} {ops : Array Oper} {rest : List Oper} {o : Oper} {a : Act} {Q : Exit → Act → World → Prop} (hgd : o.guard = none) (s x : Operand) (t : TypeId)
    (ho : o.op = .call { callee := .builtin .append, args := #[s, x], argTypes := #[t, t] })
    (e : TypeId) (i : TypeInfo) (ht : P.underlying t = some (.slice e)) (hi : P.info? e = some i) (hz : i.zero = some (.string ⟨#[]⟩)) (hsize : i.size = 1) (hby : i.bytes = 16)
    (v : Value) (l : List ByteArray) (y : ByteArray) (b : Nat) (hs : a.eval s = v) (hx : a.eval x = .slice (some ⟨b, 0, none⟩) 1 1) (B : Nat) (hown : RowS B e w v l) (hy : w.cell? ⟨b, 0, none⟩ = some (.string y)) (hlen : l.length ≤ 1048576) (hB : B ≤ w.heap.size)
    (h : ∀ v' w', RowS B e w' v' (l ++ [y]) → Below B w w' → wpList P ops Q rest (a.put o.dst v') w') : wpList P ops Q (o :: rest) a w := by
  refine wpList_append_own w hgd s x t ho B e i (.string ⟨#[]⟩) 1 16 ht hi hz hsize hby rfl (by omega) v l.length _ hs hown ⟨b, 0, none⟩ 1 1 [.string y] hx (by simp) ?_ ?_ (by unfold maxLen; omega) (by omega) hB ?_
  · intro j u hj
    match j, hj with
    | 0, hj =>
      have : u = .string y := by simpa using hj.symm
      subst this
      simpa [Addr.add] using hy
    | j + 1, hj => simp at hj
  · exact fun u hu => by
      have : u = .string y := by simpa using hu
      subst this; rfl
  · intro v' w' r1 r2 r3
    refine h v' w' ?_ ((Below.refl _ _).grown r2 hB (fun g hg => (World.ownsRow.lt hown g hg).1))
    unfold RowS
    rw [List.length_append, List.map_append]
    exact r1
theorem joinS_any {B : Nat} {e : TypeId} {v : Value} {l : List ByteArray} (sep : ByteArray) (w : World) (h : RowS B e w v l) (hl : l.length ≤ 4096) (hlen : (Lib.join (l.map (·.data.toList)) sep.data.toList).length ≤ 1000000) :
    Calls Tryd.prog 99 #[v, .string sep] w fun e w' => e = .returned (.string ⟨(Lib.join (l.map (·.data.toList)) sep.data.toList).toArray⟩) ∧ Below w.heap.size w w' := by
  rcases id h.2 with ⟨rfl, h0⟩ | ⟨g, cap, cur, rfl, hb, hg, h1, h2, h3, h4⟩
  · have hl0 := List.eq_nil_of_length_eq_zero h0
    subst hl0
    exact (Tryd.strings_Join_none none 0 sep w).mono (by rintro e w' ⟨rfl, rfl⟩; exact ⟨rfl, Below.refl _ _⟩)
  · refine Tryd.strings_Join g 0 cap l sep w (fun j x hj => ?_) (Array.getElem?_eq_some_iff.1 hg).1 (by omega) h1 (by omega)
    have hjl : j < l.length := (List.getElem?_eq_some_iff.1 hj).1
    have h5 := World.ownsRow.cellAt h j (by omega)
    rw [Nat.zero_add, h5, List.getElem?_map, hj]
    rfl
end Go.Proofs.YtecfbncfhehdcaaDoor

