/- The contract of extremes of package enclosure. -/
import Derived.Test.YtldclpdmcopgnaaGreatDoorEq
import Derived.Laws.IdiomCopy
import Derived.Deep.MidRow
namespace Go.Proofs.YtldclpdmcopgnaaGreatDoor
open Go.RowKit
/-- A block of twenty cells that holds four empty products. -/
def zeroL : List Value := [.string ⟨#[]⟩, .string ⟨#[]⟩, .int .i64 0, .slice none 0 0, .slice none 0 0, .string ⟨#[]⟩, .string ⟨#[]⟩, .int .i64 0, .slice none 0 0, .slice none 0 0, .string ⟨#[]⟩, .string ⟨#[]⟩, .int .i64 0, .slice none 0 0, .slice none 0 0, .string ⟨#[]⟩, .string ⟨#[]⟩, .int .i64 0, .slice none 0 0, .slice none 0 0]
def Free20 (W : World) (g : Nat) : Prop := g < W.heap.size ∧ ∀ i, i < 20 → W.frozen? ⟨g, i, none⟩ = false ∧ W.cell? ⟨g, i, none⟩ = zeroL[i]?
theorem Free20.step {W W' : World} {g : Nat} (h : Free20 W g) (hb : Below W.heap.size W W') : Free20 W' g :=
  ⟨Nat.lt_of_lt_of_le h.1 hb.size, fun i hi => ⟨(hb.frozen (p := ⟨g, i, none⟩) h.1).trans (h.2 i hi).1, (hb.cell (p := ⟨g, i, none⟩) h.1).trans (h.2 i hi).2⟩⟩
theorem free20_new (w : World) (vs : Array Value) (h : vs = zeroL.toArray) (T : TypeId) : Free20 (w.alloc (.cells vs T)) w.heap.size := by
  subst h
  refine ⟨by simp, fun i hi => ⟨by simp, ?_⟩⟩
  have : i < zeroL.length := hi
  simp [this]
theorem Free20.all {W : World} {g : Nat} (h : Free20 W g) : W.frozen? ⟨g, 0, none⟩ = false ∧ W.frozen? ⟨g, 1, none⟩ = false ∧ W.frozen? ⟨g, 2, none⟩ = false ∧ W.frozen? ⟨g, 3, none⟩ = false ∧ W.frozen? ⟨g, 4, none⟩ = false ∧ W.frozen? ⟨g, 5, none⟩ = false ∧ W.frozen? ⟨g, 6, none⟩ = false ∧ W.frozen? ⟨g, 7, none⟩ = false ∧ W.frozen? ⟨g, 8, none⟩ = false ∧ W.frozen? ⟨g, 9, none⟩ = false ∧ W.frozen? ⟨g, 10, none⟩ = false ∧ W.frozen? ⟨g, 11, none⟩ = false ∧ W.frozen? ⟨g, 12, none⟩ = false ∧ W.frozen? ⟨g, 13, none⟩ = false ∧ W.frozen? ⟨g, 14, none⟩ = false ∧ W.frozen? ⟨g, 15, none⟩ = false ∧ W.frozen? ⟨g, 16, none⟩ = false ∧ W.frozen? ⟨g, 17, none⟩ = false ∧ W.frozen? ⟨g, 18, none⟩ = false ∧ W.frozen? ⟨g, 19, none⟩ = false ∧ W.cell? ⟨g, 0, none⟩ = some (.string ⟨#[]⟩) ∧ W.cell? ⟨g, 1, none⟩ = some (.string ⟨#[]⟩) ∧ W.cell? ⟨g, 2, none⟩ = some (.int .i64 0) ∧ W.cell? ⟨g, 3, none⟩ = some (.slice none 0 0) ∧ W.cell? ⟨g, 4, none⟩ = some (.slice none 0 0) ∧ W.cell? ⟨g, 5, none⟩ = some (.string ⟨#[]⟩) ∧ W.cell? ⟨g, 6, none⟩ = some (.string ⟨#[]⟩) ∧ W.cell? ⟨g, 7, none⟩ = some (.int .i64 0) ∧ W.cell? ⟨g, 8, none⟩ = some (.slice none 0 0) ∧ W.cell? ⟨g, 9, none⟩ = some (.slice none 0 0) ∧ W.cell? ⟨g, 10, none⟩ = some (.string ⟨#[]⟩) ∧ W.cell? ⟨g, 11, none⟩ = some (.string ⟨#[]⟩) ∧ W.cell? ⟨g, 12, none⟩ = some (.int .i64 0) ∧ W.cell? ⟨g, 13, none⟩ = some (.slice none 0 0) ∧ W.cell? ⟨g, 14, none⟩ = some (.slice none 0 0) ∧ W.cell? ⟨g, 15, none⟩ = some (.string ⟨#[]⟩) ∧ W.cell? ⟨g, 16, none⟩ = some (.string ⟨#[]⟩) ∧ W.cell? ⟨g, 17, none⟩ = some (.int .i64 0) ∧ W.cell? ⟨g, 18, none⟩ = some (.slice none 0 0) ∧ W.cell? ⟨g, 19, none⟩ = some (.slice none 0 0) :=
  ⟨(h.2 0 (by omega)).1, (h.2 1 (by omega)).1, (h.2 2 (by omega)).1, (h.2 3 (by omega)).1, (h.2 4 (by omega)).1, (h.2 5 (by omega)).1, (h.2 6 (by omega)).1, (h.2 7 (by omega)).1, (h.2 8 (by omega)).1, (h.2 9 (by omega)).1, (h.2 10 (by omega)).1, (h.2 11 (by omega)).1, (h.2 12 (by omega)).1, (h.2 13 (by omega)).1, (h.2 14 (by omega)).1, (h.2 15 (by omega)).1, (h.2 16 (by omega)).1, (h.2 17 (by omega)).1, (h.2 18 (by omega)).1, (h.2 19 (by omega)).1, (h.2 0 (by omega)).2, (h.2 1 (by omega)).2, (h.2 2 (by omega)).2, (h.2 3 (by omega)).2, (h.2 4 (by omega)).2, (h.2 5 (by omega)).2, (h.2 6 (by omega)).2, (h.2 7 (by omega)).2, (h.2 8 (by omega)).2, (h.2 9 (by omega)).2, (h.2 10 (by omega)).2, (h.2 11 (by omega)).2, (h.2 12 (by omega)).2, (h.2 13 (by omega)).2, (h.2 14 (by omega)).2, (h.2 15 (by omega)).2, (h.2 16 (by omega)).2, (h.2 17 (by omega)).2, (h.2 18 (by omega)).2, (h.2 19 (by omega)).2⟩
/-- What stands in the variables of extremes: both enclosures, and two products. -/
def K0 (w W : World) (l h m k : ByteArray) : Prop := Below w.heap.size w W ∧ Pair W w.heap.size l h ∧ Pair W (w.heap.size + 1) m k ∧ Prod W (w.heap.size + 1 + 1) ⟨#[]⟩ ⟨#[]⟩ 0 (.slice none 0 0) (.slice none 0 0) ∧ Prod W (w.heap.size + 1 + 1 + 1) ⟨#[]⟩ ⟨#[]⟩ 0 (.slice none 0 0) (.slice none 0 0)
theorem K0.step {w W W' : World} {l h m k : ByteArray} (x : K0 w W l h m k) (hb : Below W.heap.size W W') : K0 w W' l h m k :=
  ⟨below_nx x.1 hb, x.2.1.below hb, x.2.2.1.below hb, x.2.2.2.1.step hb, x.2.2.2.2.step hb⟩
theorem free20_drew (w : World) (vs : Array Value) (h : vs = zeroL.toArray) (U : TypeId) : Free20 (w.alloc (.cells vs U)).drew w.heap.size := free20_new w vs h U
theorem K0.bel3 {w W : World} {l h m k : ByteArray} (x : K0 w W.drew l h m k) (o : Obj) : Below w.heap.size w (W.alloc o).drew := x.1.alloc x.1.size o
theorem K0.bel {w W : World} {l h m k : ByteArray} (x : K0 w W l h m k) : Below w.heap.size w W := x.1
theorem K0.bel2 {w W : World} {l h m k : ByteArray} (x : K0 w W l h m k) (o : Obj) : Below w.heap.size w (W.alloc o) := x.1.alloc x.1.size o
theorem K0.ne1 {w W : World} {l h m k : ByteArray} (x : K0 w W l h m k) : W.heap.size ≠ w.heap.size := by have := x.2.1.1; omega
theorem K0.ne2 {w W : World} {l h m k : ByteArray} (x : K0 w W l h m k) : W.heap.size ≠ w.heap.size + 1 := by have := x.2.2.1.1; omega
theorem K0.step2 {w W W' : World} {o : Obj} {l h m k : ByteArray} (x : K0 w W l h m k) (hb : Below (W.alloc o).heap.size (W.alloc o) W') : K0 w W' l h m k :=
  (x.step ((Below.refl _ _).alloc (Nat.le_refl _) o)).step hb
theorem K0.step3 {w W W' : World} {o : Obj} {l h m k : ByteArray} (x : K0 w W.drew l h m k) (hb : Below (W.alloc o).drew.heap.size (W.alloc o).drew W') : K0 w W' l h m k :=
  (x.step ((Below.refl _ _).alloc (Nat.le_refl _) o)).step hb
theorem PrV.step2 {W W' : World} {o : Obj} {v : Value} {a b : ByteArray} (x : PrV W v a b) (hb : Below (W.alloc o).heap.size (W.alloc o) W') : PrV W' v a b :=
  (x.step ((Below.refl _ _).alloc (Nat.le_refl _) o)).step hb
theorem k0_new (w : World) (l h m k : ByteArray) : K0 w ((((w.alloc (.cells #[.string l, .string h] 24)).alloc (.cells #[.string m, .string k] 24)).alloc (.cells #[.string ⟨#[]⟩, .string ⟨#[]⟩, .int .i64 0, .slice none 0 0, .slice none 0 0] 94)).alloc (.cells #[.string ⟨#[]⟩, .string ⟨#[]⟩, .int .i64 0, .slice none 0 0, .slice none 0 0] 94)) l h m k := by
  obtain ⟨HP, HQ⟩ := pair_next w l h m k 24 24
  obtain ⟨w2, h2⟩ : ∃ w2, w2 = (w.alloc (.cells #[.string l, .string h] 24)).alloc (.cells #[.string m, .string k] 24) := ⟨_, rfl⟩
  have s2 : w2.heap.size = w.heap.size + 1 + 1 := by rw [h2]; simp
  have B2 : Below w.heap.size w w2 := by rw [h2]; exact ((Below.refl _ _).alloc (Nat.le_refl _) _).alloc (by simp) _
  rw [← h2] at HP HQ ⊢
  have P2 := prod_new w2 ⟨#[]⟩ ⟨#[]⟩ 0 (.slice none 0 0) (.slice none 0 0) 94
  obtain ⟨w3, h3⟩ : ∃ w3, w3 = w2.alloc (.cells #[.string ⟨#[]⟩, .string ⟨#[]⟩, .int .i64 0, .slice none 0 0, .slice none 0 0] 94) := ⟨_, rfl⟩
  have B3 : Below w2.heap.size w2 w3 := by rw [h3]; exact (Below.refl _ _).alloc (Nat.le_refl _) _
  have s3 : w3.heap.size = w.heap.size + 1 + 1 + 1 := by rw [h3]; simp [s2]
  rw [← h3, s2] at P2
  rw [← h3]
  have P3 := prod_new w3 ⟨#[]⟩ ⟨#[]⟩ 0 (.slice none 0 0) (.slice none 0 0) 94
  have B4 := (Below.refl w3.heap.size w3).alloc (Nat.le_refl _) (.cells #[.string ⟨#[]⟩, .string ⟨#[]⟩, .int .i64 0, .slice none 0 0, .slice none 0 0] 94)
  rw [s3] at P3
  have B24 : Below w2.heap.size w2 _ := B3.trans (B4.mono B3.size)
  exact ⟨B2.trans (B24.mono B2.size), HP.below B24, HQ.below B24, P2.step B4, P3⟩
theorem setCells_size (b : Nat) : ∀ (vs : List Value) (o : Nat) (w : World), (w.setCells b o vs).heap.size = w.heap.size
  | [], _, _ => rfl
  | v :: r, o, w => by rw [World.setCells, setCells_size b r (o + 1)]; simp
theorem setCells_below (b : Nat) {B : Nat} {w0 : World} (hB : B ≤ b) : ∀ (vs : List Value) (o : Nat) (w : World), Below B w0 w → Below B w0 (w.setCells b o vs)
  | [], _, _, h => h
  | v :: r, o, _, h => setCells_below b hB r (o + 1) _ (h.setCell (p := ⟨b, o, none⟩) hB v)
theorem setCells_far {w : World} {b o g i : Nat} {vs : List Value} (h : b ≠ g) : (w.setCells b o vs).cell? ⟨g, i, none⟩ = w.cell? ⟨g, i, none⟩ :=
  World.cell?_setCells_out b vs o w _ (fun e _ => absurd e.symm h)
theorem Pair.far {W : World} {g b : Nat} {x y : ByteArray} (h : Pair W g x y) (hb : b ≠ g) (o : Nat) (vs : List Value) : Pair (W.setCells b o vs) g x y := by
  obtain ⟨h0, c0, c1, f0, f1⟩ := h
  exact ⟨by rw [setCells_size]; exact h0, (setCells_far hb).trans c0, (setCells_far hb).trans c1, (World.frozen?_setCells _ _ _ _ _).trans f0, (World.frozen?_setCells _ _ _ _ _).trans f1⟩
theorem Prod.far {W : World} {g k : Nat} {a b : ByteArray} {s : Int} {nu de : Value} (h : Prod W g a b s nu de) (hb : k ≠ g) (o : Nat) (vs : List Value) : Prod (W.setCells k o vs) g a b s nu de := by
  obtain ⟨h0, c0, c1, c2, c3, c4, f0, f1, f2, f3, f4⟩ := h
  exact ⟨by rw [setCells_size]; exact h0, (setCells_far hb).trans c0, (setCells_far hb).trans c1, (setCells_far hb).trans c2, (setCells_far hb).trans c3, (setCells_far hb).trans c4,
    (World.frozen?_setCells _ _ _ _ _).trans f0, (World.frozen?_setCells _ _ _ _ _).trans f1, (World.frozen?_setCells _ _ _ _ _).trans f2, (World.frozen?_setCells _ _ _ _ _).trans f3, (World.frozen?_setCells _ _ _ _ _).trans f4⟩
theorem K0.far {w W : World} {l h m k : ByteArray} {g : Nat} (x : K0 w W l h m k) (hg : w.heap.size + 1 + 1 + 1 < g) (vs : List Value) : K0 w (W.setCells g 0 vs) l h m k :=
  ⟨setCells_below g (by omega) vs 0 W x.1, x.2.1.far (by omega) _ _, x.2.2.1.far (by omega) _ _, x.2.2.2.1.far (by omega) _ _, x.2.2.2.2.far (by omega) _ _⟩
theorem zero_int {i : Nat} (hi : i < 20) {x : Nat} (h : zeroL[i]? = some (.int .i64 (x : Int))) : x = 0 ∧ i + 1 < 20 ∧ ∀ y : Nat, zeroL[i + 1]? ≠ some (.int .i64 (y : Int)) := by
  have : ∀ i, i < 20 → zeroL[i]? = some (.int .i64 0) ∨ zeroL[i]? = some (.string ⟨#[]⟩) ∨ zeroL[i]? = some (.slice none 0 0) := by
    intro i hi
    have h : i = 0 ∨ i = 1 ∨ i = 2 ∨ i = 3 ∨ i = 4 ∨ i = 5 ∨ i = 6 ∨ i = 7 ∨ i = 8 ∨ i = 9 ∨ i = 10 ∨ i = 11 ∨ i = 12 ∨ i = 13 ∨ i = 14 ∨ i = 15 ∨ i = 16 ∨ i = 17 ∨ i = 18 ∨ i = 19 := by omega
    rcases h with h | h | h | h | h | h | h | h | h | h | h | h | h | h | h | h | h | h | h | h <;> subst h <;> first | exact .inl rfl | exact .inr (.inl rfl) | exact .inr (.inr rfl)
  have h3 : i = 2 ∨ i = 7 ∨ i = 12 ∨ i = 17 ∨ ¬ zeroL[i]? = some (.int .i64 (x : Int)) := by
    have h : i = 0 ∨ i = 1 ∨ i = 2 ∨ i = 3 ∨ i = 4 ∨ i = 5 ∨ i = 6 ∨ i = 7 ∨ i = 8 ∨ i = 9 ∨ i = 10 ∨ i = 11 ∨ i = 12 ∨ i = 13 ∨ i = 14 ∨ i = 15 ∨ i = 16 ∨ i = 17 ∨ i = 18 ∨ i = 19 := by omega
    rcases h with h | h | h | h | h | h | h | h | h | h | h | h | h | h | h | h | h | h | h | h <;> subst h <;> simp [zeroL]
  rcases h3 with rfl | rfl | rfl | rfl | h3
  · refine ⟨?_, by omega, fun y => by simp [zeroL]⟩
    simp [zeroL] at h; omega
  · refine ⟨?_, by omega, fun y => by simp [zeroL]⟩
    simp [zeroL] at h; omega
  · refine ⟨?_, by omega, fun y => by simp [zeroL]⟩
    simp [zeroL] at h; omega
  · refine ⟨?_, by omega, fun y => by simp [zeroL]⟩
    simp [zeroL] at h; omega
  · exact absurd h h3
/-- What is written into the empty products leaves all digits. -/
theorem IsNat.zeros {w : World} {v : Value} {n p g : Nat} (h : IsNat .i64 10 w v n p) (hz : Free20 w g) (vs : List Value) (hv : vs.length = 20) : IsNat .i64 10 (w.setCells g 0 vs) v n p := by
  obtain ⟨l, hs, hn, h1, h2⟩ := h
  refine ⟨l, ?_, hn, h1, h2⟩
  rcases hs with hs | ⟨b, off, cap, rfl, c1, c2, c3, c4⟩
  · exact .inl hs
  · refine .inr ⟨b, off, cap, rfl, c1, c2, by rw [setCells_size]; exact c3, fun i hi => ?_⟩
    by_cases e : g = b
    · subst e
      have hfar : ∀ i, i < l.length → 20 ≤ off + i := by
        intro i hi
        apply Classical.byContradiction
        intro hlt
        have hq := c4 i hi
        rw [(hz.2 (off + i) (by omega)).2] at hq
        obtain ⟨z1, z2, z3⟩ := zero_int (by omega) hq
        rcases Nat.lt_or_ge (i + 1) l.length with hj | hj
        · have hq2 := c4 (i + 1) hj
          rw [(hz.2 (off + (i + 1)) (by omega)).2] at hq2
          exact z3 _ hq2
        · have := hn.2 (by omega)
          rw [show l.length - 1 = i by omega] at this
          omega
      rw [World.cell?_setCells_out g vs 0 w _ (fun _ _ => .inr (by show 0 + vs.length ≤ off + i; have := hfar i hi; omega))]
      exact c4 i hi
    · rw [setCells_far e]; exact c4 i hi
theorem PrV.zeros {w : World} {v : Value} {a b : ByteArray} {g : Nat} (h : PrV w v a b) (hz : Free20 w g) (vs : List Value) (hv : vs.length = 20) : PrV (w.setCells g 0 vs) v a b := by
  obtain ⟨nu, de, h1, h2, h3⟩ := h
  exact ⟨nu, de, h1, h2.zeros hz vs hv, h3.zeros hz vs hv⟩
theorem PrB.zeros {B : Nat} {w : World} {v : Value} {a b : ByteArray} {g : Nat} (h : PrB B w v a b) (hz : Free20 w g) (vs : List Value) (hv : vs.length = 20) : PrB B (w.setCells g 0 vs) v a b := by
  obtain ⟨nu, de, h1, h2, h3, h4⟩ := h
  exact ⟨nu, de, h1, h2.zeros hz vs hv, h3.zeros hz vs hv, h4⟩
theorem Free20.there {w : World} {g : Nat} (h : Free20 w g) : w.there g 0 20 := fun j hj => by
  rw [Nat.zero_add]
  refine ⟨?_, (h.2 j hj).1⟩
  rw [(h.2 j hj).2, List.getElem?_eq_getElem (show j < zeroL.length from hj)]
  rfl
end Go.Proofs.YtldclpdmcopgnaaGreatDoor
