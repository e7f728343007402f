/- The sum of 1 / (k (k + 1)): plain facts, and 'append' of a text to a slice of the call's own. -/
import Derived.Test.YtmmcakeedejbnacDoorLs
import Derived.Test.YtmmcakeedejbnacDoorRt
import Derived.Laws.AppendOwnNone
namespace Fr
def one (k : Nat) : Rat := ((1 : Int) : Rat) / (((k * (k + 1) : Nat) : Int) : Rat)
def inv (k : Nat) : Rat := ((1 : Int) : Rat) / ((k : Int) : Rat)
def tel (a k : Nat) : Rat := inv a - inv k
theorem one_fits : ∀ k, k < 40 → fits (one k) = true := by decide +kernel
theorem inv_fits : ∀ k, k < 41 → fits (inv k) = true := by decide +kernel
theorem tel_fits : ∀ a, a < 21 → ∀ k, k < 41 → fits (tel a k) = true := by decide +kernel
theorem tel_step : ∀ a, a < 21 → ∀ k, k < 40 → 0 < k → tel a k + one k = tel a (k + 1) := by decide +kernel
theorem tel_zero : ∀ a, a < 21 → tel a a = 0 := by decide +kernel
end Fr
namespace Go.Proofs.YtmmcakeedejbnacDoor
open Go.RowKit
/-- The fractions from a on, up to k without it. -/
def ones (a k : Nat) : List ByteArray := (List.range' a (k - a)).map fun j => txB (Fr.one j)
theorem ones_len (a k : Nat) : (ones a k).length = k - a := by simp [ones]
theorem ones_nil (a : Nat) : ones a a = [] := by simp [ones]
theorem ones_succ {a k : Nat} (h : a ≤ k) : ones a (k + 1) = ones a k ++ [txB (Fr.one k)] := by
  unfold ones
  rw [show k + 1 - a = (k - a) + 1 by omega, List.range'_concat, List.map_append]
  simp [show a + (k - a) = k by omega]
theorem ones_cons {a k : Nat} (h : a < k) : ones a k = txB (Fr.one a) :: ones (a + 1) k := by
  unfold ones
  rw [show k - a = (k - (a + 1)) + 1 by omega, List.range'_succ, List.map_cons]
theorem ones_size {a k : Nat} (hk : k ≤ 40) : ∀ s ∈ ones a k, s.size ≤ 800 := by
  intro s hs
  obtain ⟨j, hj, rfl⟩ := List.mem_map.1 hs
  obtain ⟨h1, h2⟩ := List.mem_range'_1.1 hj
  have := txB_size (Fr.one_fits j (by omega))
  omega
theorem ones_chk : ∀ (d a k : Nat), k ≤ 40 → k - a = d → Fr.chkAll (ones a k) = 0
  | 0, a, k, _, h => by unfold ones; rw [h]; rfl
  | d + 1, a, k, hk, h => by
    rw [ones_cons (by omega), Fr.chkAll, txB_list, if_pos (Fr.chk_text (Fr.one_fits a (by omega)))]
    exact ones_chk d (a + 1) k hk (by omega)
theorem ones_sum {a : Nat} (ha : a < 21) (h0 : 0 < a) : ∀ (d j k : Nat), k ≤ 40 → a ≤ j → j ≤ k → k - j = d → Fr.sumFrom (Fr.tel a j) (ones j k) = (Fr.text (Fr.tel a k), 0)
  | 0, j, k, hk, h1, h2, h => by
    obtain rfl : j = k := by omega
    rw [ones_nil]; rfl
  | d + 1, j, k, hk, h1, h2, h => by
    rw [ones_cons (by omega), Fr.sumFrom, txB_list, Fr.rat_text, Fr.tel_step a ha j (by omega) (by omega), if_pos (Fr.tel_fits a ha (j + 1) (by omega))]
    exact ones_sum ha h0 d (j + 1) k hk (by omega) (by omega) (by omega)
theorem ones_sumV {a k : Nat} (ha : a < 21) (h0 : 0 < a) (hk : k ≤ 40) (hak : a ≤ k) : Fr.sumV (ones a k) = (Fr.text (Fr.tel a k), 0) := by
  unfold Fr.sumV
  rw [if_pos (ones_chk (k - a) a k hk rfl)]
  have h := ones_sum ha h0 (k - a) a k hk (Nat.le_refl _) hak rfl
  rw [Fr.tel_zero a ha] at h
  exact h
/-- A slice of texts of the call's own, from block B on. -/
def RowS (B : Nat) (e : TypeId) (w : World) (v : Value) (l : List ByteArray) : Prop := w.ownsRow B e 1 v l.length (l.map fun s => .string s)
theorem RowS.nil (B : Nat) (e : TypeId) (w : World) : RowS B e w (.slice none 0 0) [] := World.ownsRow_nil _ _ _ _
theorem RowS.sees {B : Nat} {e : TypeId} {w : World} {v : Value} {l : List ByteArray} (h : RowS B e w v l) : SeesU w v l := by
  rcases h.2 with ⟨rfl, h0⟩ | ⟨g, cap, cur, rfl, hb, hg, h1, h2, h3, h4⟩
  · exact ⟨none, 0, by rw [h0], fun hp => by omega⟩
  · refine ⟨_, cap, rfl, fun _ => ⟨g, 0, rfl, (Array.getElem?_eq_some_iff.1 hg).1, fun i hi => ?_⟩⟩
    have h5 := World.ownsRow.cellAt h i (by omega)
    rw [Nat.zero_add, h5, List.getElem?_map, List.getElem?_eq_getElem hi, Option.map_some]
theorem RowS.below {B : Nat} {e : TypeId} {w w' : World} {v : Value} {l : List ByteArray} (h : RowS B e w v l) {C : Nat} (hb : Below C w w') (hC : w.heap.size ≤ C) : RowS B e w' v l := by
  refine ⟨h.1, ?_⟩
  rcases h.2 with h' | ⟨g, cap, cur, h', h1, h2, h3⟩
  · exact .inl h'
  · exact .inr ⟨g, cap, cur, h', h1, by rw [hb.block g (Nat.lt_of_lt_of_le (Array.getElem?_eq_some_iff.1 h2).1 hC)]; exact h2, h3⟩
/-- 'append' of one text, laid in a block of its own. -/
theorem wpList_append_text {P : Program} {w : World} {ops : Array Oper} {rest : List Oper} {o : Oper} {a : Act} {Q : Exit → Act → World → Prop} (hgd : o.guard = none) (s x : Operand) (t : TypeId)
    (ho : o.op = .call { callee := .builtin .append, args := #[s, x], argTypes := #[t, t] })
    (e : TypeId) (i : TypeInfo) (bytes : Nat) (ht : P.underlying t = some (.slice e)) (hi : P.info? e = some i) (hz : i.zero = some (.string ⟨#[]⟩)) (hsize : i.size = 1) (hby : i.bytes = bytes) (hb8 : bytes ≤ 16)
    (v : Value) (l : List ByteArray) (y : ByteArray) (b : Nat) (hs : a.eval s = v) (hx : a.eval x = .slice (some ⟨b, 0, none⟩) 1 1) (B : Nat) (hown : RowS B e w v l) (hy : w.cell? ⟨b, 0, none⟩ = some (.string y)) (hlen : l.length ≤ 1048576) (hB : B ≤ w.heap.size)
    (h : ∀ v' w', RowS B e w' v' (l ++ [y]) → Below B w w' → wpList P ops Q rest (a.put o.dst v') w') : wpList P ops Q (o :: rest) a w := by
  refine wpList_append_own w hgd s x t ho B e i (.string ⟨#[]⟩) 1 bytes ht hi hz hsize hby rfl (by omega) v l.length _ hs hown ⟨b, 0, none⟩ 1 1 [.string y] hx (by simp) ?_ ?_ (by unfold maxLen; omega) ?_ hB ?_
  · intro j u hj
    match j, hj with
    | 0, hj =>
      have : u = .string y := by simpa using hj.symm
      subst this
      simpa [Addr.add] using hy
    | j + 1, hj => simp at hj
  · exact fun u hu => by
      have : u = .string y := by simpa using hu
      subst this; rfl
  · have : (l.length + 1) * bytes ≤ 1048577 * 16 := Nat.mul_le_mul (by omega) hb8
    omega
  · intro v' w' r1 r2 r3
    refine h v' w' ?_ ((Below.refl _ _).grown r2 hB (fun g hg => (World.ownsRow.lt hown g hg).1))
    unfold RowS
    rw [List.length_append, List.map_append]
    exact r1
end Go.Proofs.YtmmcakeedejbnacDoor

