/- free and the bounds of a matrix, of package bounds. -/
import Derived.Test.YtkemicfaiipidaaBd
namespace Bn
/-- The rows of a square. -/
def rws (n : Nat) (m : Mx) : List (List Int) := (List.range (n + 1)).map fun i => (List.range (n + 1)).map fun j => m i j
theorem rws_len (n : Nat) (m : Mx) : (rws n m).length = n + 1 := by simp [rws]
theorem rws_row (n : Nat) (m : Mx) {i : Nat} (hi : i ≤ n) : (rws n m).getD i [] = (List.range (n + 1)).map fun j => m i j := by
  unfold rws
  rw [List.getD_eq_getElem?_getD, List.getElem?_map, List.getElem?_range (by omega)]
  rfl
theorem rws_at (n : Nat) (m : Mx) {i j : Nat} (hi : i ≤ n) (hj : j ≤ n) : mx (rws n m) i j = m i j := by
  unfold mx
  rw [rws_row n m hi, List.getD_eq_getElem?_getD, List.getElem?_map, List.getElem?_range (by omega)]
  rfl
theorem rws_shp (n : Nat) (m : Mx) : Shp n (rws n m) := ⟨rws_len n m, fun i hi => by rw [rws_row n m hi]; simp⟩
theorem rws_congr {n : Nat} {m m' : Mx} (h : ∀ i j, i ≤ n → j ≤ n → m i j = m' i j) : rws n m = rws n m' := by
  unfold rws
  refine List.map_congr_left fun i hi => List.map_congr_left fun j hj => ?_
  have h1 := List.mem_range.1 hi
  have h2 := List.mem_range.1 hj
  exact h i j (by omega) (by omega)
/-- All bounds are in their range. -/
def allB (n : Nat) (m : Mx) : Bool := (List.range (n + 1)).all fun i => (List.range (n + 1)).all fun j => isB (m i j)
theorem allB_iff {n : Nat} {m : Mx} : allB n m = true ↔ ∀ i j, i ≤ n → j ≤ n → isB (m i j) = true := by
  unfold allB
  simp only [List.all_eq_true, List.mem_range]
  exact ⟨fun h i j hi hj => h i (by omega) j (by omega), fun h i hi j hj => h i j (by omega) (by omega)⟩
/-- All bounds before the pair i, j. -/
def befB (n : Nat) (m : Mx) (i j : Nat) : Prop := ∀ a b, a ≤ n → b ≤ n → (a < i ∨ (a = i ∧ b < j)) → isB (m a b) = true
/-- What stands in the variable of the error before the pair i, j. -/
def errB (n : Nat) (m : Mx) (i j : Nat) (x : Int) : Prop := (x = 0 ∧ befB n m i j) ∨ (x = 11 ∧ ¬ befB n m i j)
theorem errB_yes {n : Nat} {m : Mx} {i j : Nat} {x : Int} (h : errB n m i j x) (hb : isB (m i j) = true) : errB n m i (j + 1) x := by
  have e : befB n m i (j + 1) ↔ befB n m i j := by
    refine ⟨fun g a b h1 h2 h3 => g a b h1 h2 (by omega), fun g a b h1 h2 h3 => ?_⟩
    by_cases e : a = i ∧ b = j
    · rw [e.1, e.2]; exact hb
    · exact g a b h1 h2 (by omega)
  unfold errB
  rw [e]
  exact h
theorem errB_no {n : Nat} {m : Mx} {i j : Nat} (hi : i ≤ n) (hj : j ≤ n) (hb : isB (m i j) = false) : errB n m i (j + 1) 11 :=
  .inr ⟨rfl, fun g => by have := g i j hi hj (by omega); rw [hb] at this; cases this⟩
theorem errB_row {n : Nat} {m : Mx} {i : Nat} {x : Int} (h : errB n m i (n + 1) x) : errB n m (i + 1) 0 x := by
  have e : befB n m (i + 1) 0 ↔ befB n m i (n + 1) := ⟨fun g a b h1 h2 h3 => g a b h1 h2 (by omega), fun g a b h1 h2 h3 => g a b h1 h2 (by omega)⟩
  unfold errB
  rw [e]
  exact h
theorem errB_zero (n : Nat) (m : Mx) : errB n m 0 0 0 := .inl ⟨rfl, fun a b _ _ h => by omega⟩
theorem errB_end {n : Nat} {m : Mx} {x : Int} (h : errB n m (n + 1) 0 x) : x = if allB n m then 0 else 11 := by
  have e : befB n m (n + 1) 0 ↔ allB n m = true := by
    rw [allB_iff]
    exact ⟨fun g a b h1 h2 => g a b h1 h2 (by omega), fun g a b h1 h2 _ => g a b h1 h2⟩
  unfold errB at h
  rw [e] at h
  rcases h with ⟨rfl, h⟩ | ⟨rfl, h⟩
  · rw [h]; rfl
  · simp [h]
end Bn
namespace Go.Proofs.Ytkemicfaiipidaa
open Go.RowKit

/-- A square of k rows, of which r have been made, that may be written: the rows lie in the blocks f, from B on. -/
structure Grd (B : Nat) (W : World) (A k r : Nat) (f c : Nat → Nat) (m : Bn.Mx) : Prop where
  lt : A < W.heap.size
  ge : B ≤ A
  rk : r ≤ k
  cell : ∀ i, i < k → W.cell? ⟨A, i, none⟩ = some (if i < r then .slice (some ⟨f i, 0, none⟩) k (c i) else .slice none 0 0) ∧ W.frozen? ⟨A, i, none⟩ = false
  cap : ∀ i, i < r → k ≤ c i ∧ c i ≤ maxLen
  blk : ∀ i, i < r → f i < W.heap.size ∧ B ≤ f i ∧ f i ≠ A
  row : ∀ i j, i < r → j < k → W.cell? ⟨f i, j, none⟩ = some (.int .i64 (m i j)) ∧ W.frozen? ⟨f i, j, none⟩ = false
  apart : ∀ i j, i < r → j < r → i ≠ j → f i ≠ f j
theorem Grd.step {B A k r : Nat} {W W' : World} {f c : Nat → Nat} {m : Bn.Mx} (h : Grd B W A k r f c m) (hb : Below W.heap.size W W') : Grd B W' A k r f c m :=
  ⟨Nat.lt_of_lt_of_le h.lt hb.size, h.ge, h.rk, fun i hi => ⟨(hb.cell (p := ⟨A, i, none⟩) h.lt).trans (h.cell i hi).1, (hb.frozen (p := ⟨A, i, none⟩) h.lt).trans (h.cell i hi).2⟩, h.cap,
   fun i hi => ⟨Nat.lt_of_lt_of_le (h.blk i hi).1 hb.size, (h.blk i hi).2⟩,
   fun i j hi hj => ⟨(hb.cell (p := ⟨f i, j, none⟩) (h.blk i hi).1).trans (h.row i j hi hj).1, (hb.frozen (p := ⟨f i, j, none⟩) (h.blk i hi).1).trans (h.row i j hi hj).2⟩, h.apart⟩
theorem Grd.congr {B A k r : Nat} {W : World} {f c : Nat → Nat} {m m' : Bn.Mx} (h : Grd B W A k r f c m) (he : ∀ i j, i < r → j < k → m i j = m' i j) : Grd B W A k r f c m' :=
  ⟨h.lt, h.ge, h.rk, h.cell, h.cap, h.blk, fun i j hi hj => by rw [← he i j hi hj]; exact h.row i j hi hj, h.apart⟩
theorem Grd.drew {B A k r : Nat} {W : World} {f c : Nat → Nat} {m : Bn.Mx} (h : Grd B W A k r f c m) : Grd B W.drew A k r f c m := h.step (Below.refl _ _).drew
/-- A number is written. -/
theorem Grd.put {B A k r i j : Nat} {W : World} {f c : Nat → Nat} {m : Bn.Mx} (h : Grd B W A k r f c m) (hi : i < r) (hj : j < k) (x : Int) : Grd B (W.setCell ⟨f i, j, none⟩ (.int .i64 x)) A k r f c (Bn.up m i j x) := by
  refine ⟨by simpa [World.setCell] using h.lt, h.ge, h.rk, fun a ha => ?_, h.cap, fun a ha => ⟨by simpa [World.setCell] using (h.blk a ha).1, (h.blk a ha).2⟩, fun a b ha hb => ?_, h.apart⟩
  · obtain ⟨h1, h2⟩ := h.cell a ha
    rw [World.frozen?_setCell, World.cell?_setCell_other (w := W) (v := .int .i64 x) (a := ⟨f i, j, none⟩) (b := ⟨A, a, none⟩) (fun e' => (h.blk i hi).2.2 (congrArg Addr.block e'))]
    exact ⟨h1, h2⟩
  · obtain ⟨h1, h2⟩ := h.row a b ha hb
    rw [World.frozen?_setCell]
    refine ⟨?_, h2⟩
    unfold Bn.up
    by_cases e : a = i ∧ b = j
    · obtain ⟨rfl, rfl⟩ := e
      rw [if_pos ⟨rfl, rfl⟩, World.cell?_setCell_same' _ _ _ (by rw [h1]; rfl)]
    · rw [if_neg e, World.cell?_setCell_other (w := W) (v := .int .i64 x) (a := ⟨f i, j, none⟩) (b := ⟨f a, b, none⟩) (fun e' => e (by
        have e1 : f i = f a := congrArg Addr.block e'
        have e2 : j = b := congrArg Addr.off e'
        by_cases e3 : a = i
        · exact ⟨e3, e2.symm⟩
        · exact absurd e1.symm (h.apart a i ha hi e3))), h1]
/-- A store into another block. -/
theorem Grd.other {B A k r : Nat} {W W' : World} {g : Nat} {f c : Nat → Nat} {m : Bn.Mx} (h : Grd B W A k r f c m) (hg : W.grownBy W' (some g)) (hA : g ≠ A) (hf : ∀ i, i < r → g ≠ f i) : Grd B W' A k r f c m := by
  have fr : ∀ q, q < W.heap.size → g ≠ q → ∀ i, W'.frozen? ⟨q, i, none⟩ = W.frozen? ⟨q, i, none⟩ := fun q hq hne i => by
    have := hg.block q hq (by simpa using fun e : q = g => hne e.symm)
    unfold World.frozen?
    simp only [this]
  refine ⟨Nat.lt_of_lt_of_le h.lt hg.size, h.ge, h.rk, fun i hi => ⟨hg.cell (h.cell i hi).1 (by simpa using fun e : A = g => hA e.symm), ?_⟩, h.cap, fun i hi => ⟨Nat.lt_of_lt_of_le (h.blk i hi).1 hg.size, (h.blk i hi).2⟩, fun i j hi hj => ⟨hg.cell (h.row i j hi hj).1 (by simpa using fun e : f i = g => hf i hi e.symm), ?_⟩, h.apart⟩
  · rw [fr A h.lt hA]; exact (h.cell i hi).2
  · rw [fr _ (h.blk i hi).1 (hf i hi)]; exact (h.row i j hi hj).2
/-- It reads as a list of rows. -/
theorem Grd.sees {B A n : Nat} {W : World} {f c : Nat → Nat} {m : Bn.Mx} (h : Grd B W A (n + 1) (n + 1) f c m) {cap : Nat} (h1 : n + 1 ≤ cap) (h2 : cap ≤ 9223372036854775807) : SeesR W (.slice (some ⟨A, 0, none⟩) (n + 1) cap) (Bn.rws n m) := by
  refine ⟨_, cap, by rw [Bn.rws_len], by rw [Bn.rws_len]; exact h1, h2, fun _ => ⟨A, 0, rfl, h.lt, fun i hi => ?_⟩⟩
  rw [Bn.rws_len] at hi
  have hc := (h.cell i hi).1
  rw [if_pos hi] at hc
  obtain ⟨q1, q2⟩ := h.cap i hi
  refine ⟨_, by rw [Nat.zero_add]; exact hc, some ⟨f i, 0, none⟩, c i, ?_, ?_, by unfold maxLen at q2; omega, fun _ => ⟨f i, 0, rfl, (h.blk i hi).1, fun j hj => ?_⟩⟩
  · rw [Bn.rws_row n m (by omega)]; simp
  · rw [Bn.rws_row n m (by omega)]; simpa using q1
  · rw [Bn.rws_row n m (by omega)] at hj ⊢
    have hj' : j < n + 1 := by simpa using hj
    have := (h.row i j hi hj').1
    rw [Nat.zero_add, this]
    simp [hj']
/-- A box that may be written. -/
def BoxW (W : World) (g : Nat) (v : Value) : Prop := g < W.heap.size ∧ W.cell? ⟨g, 0, none⟩ = some v ∧ W.frozen? ⟨g, 0, none⟩ = false
theorem BoxW.step {W W' : World} {g : Nat} {v : Value} (h : BoxW W g v) (hb : Below W.heap.size W W') : BoxW W' g v := ⟨Nat.lt_of_lt_of_le h.1 hb.size, (hb.cell (p := ⟨g, 0, none⟩) h.1).trans h.2.1, (hb.frozen (p := ⟨g, 0, none⟩) h.1).trans h.2.2⟩
theorem BoxW.grown {W W' : World} {g A : Nat} {v : Value} (h : BoxW W g v) (hg : W.grownBy W' (some A)) (hA : g ≠ A) : BoxW W' g v := by
  refine ⟨Nat.lt_of_lt_of_le h.1 hg.size, hg.cell h.2.1 (by simpa using hA), ?_⟩
  have h2 := h.2.2
  have := hg.block g h.1 (by simpa using hA)
  unfold World.frozen? at h2 ⊢
  simpa only [this] using h2
theorem BoxW.put {W : World} {g : Nat} {v : Value} (h : BoxW W g v) (u : Value) : BoxW (W.setCell ⟨g, 0, none⟩ u) g u :=
  ⟨by simpa [World.setCell] using h.1, World.cell?_setCell_same' _ _ _ (by rw [h.2.1]; rfl), by rw [World.frozen?_setCell]; exact h.2.2⟩
theorem boxW_new (w : World) (v : Value) (T : TypeId) : BoxW (w.alloc (.cells #[v] T)) w.heap.size v := by unfold BoxW; simp

set_option maxHeartbeats 2000000 in
set_option maxRecDepth 100000 in
/-- free's closure. -/
theorem bFree1_any (i j g mb : Nat) (n : Int) (m : Bn.Mx) (W : World) (hi : i < 13) (hj : j < 13) (hM : MtxI W g n m) (hm : BoxV W mb (.pointer (some ⟨g, 0, none⟩))) :
    Calls Try.prog 63 #[.int .i64 i, .int .i64 j, .pointer (some ⟨mb, 0, none⟩)] W fun e w' => e = .returned (.tuple #[]) ∧ W.grownBy w' (some g) ∧ MtxI w' g n (if i = j then m else Bn.up m i j (-1099511627776)) := by
  have HM := Lib.hid hM
  obtain ⟨m0, m1, m2⟩ := hM
  obtain ⟨m3, m4⟩ := m2 i j hi hj
  obtain ⟨v0, v1⟩ := hm
  clear m2
  by_cases h : i = j
  · subst h
    rw [if_pos rfl]
    go_enter Try.func63, Try.ntmps63
    go_wp2
    go_end0
    exact ⟨rfl, grown_refl _ _, HM.out⟩
  · rw [if_neg h]
    have h' : ¬ ((i : Int) = (j : Int)) := by omega
    go_enter Try.func63, Try.ntmps63
    go_wp2
    all_goals (go_end0; exact ⟨rfl, grown_set (grown_refl _ _), HM.out.put hi hj _⟩)

set_option maxHeartbeats 2000000 in
set_option maxRecDepth 100000 in
theorem bFree_any (N : Nat) (w : World) (hN : N ≤ 12) :
    Calls Try.prog 33 #[.int .i64 (N : Int)] w fun e w' => ∃ g, e = .returned (.pointer (some ⟨g, 0, none⟩)) ∧ w.heap.size ≤ g ∧ MtxI w' g N (Bn.sq N Bn.fre Bn.zer) ∧ Below w.heap.size w w' := by
  have HE : ∀ W, Hid (MtxI W w.heap.size N Bn.zer → BoxV W (w.heap.size + 1) (.pointer (some ⟨w.heap.size, 0, none⟩)) → Below w.heap.size w W →
      Calls Try.prog 45 #[.pointer (some ⟨w.heap.size, 0, none⟩), .func (.func 63) #[] #[.pointer (some ⟨w.heap.size + 1, 0, none⟩)]] W fun e w' => e = .returned (.tuple #[]) ∧ MtxI w' w.heap.size N (Bn.sq N Bn.fre Bn.zer) ∧ BoxV w' (w.heap.size + 1) (.pointer (some ⟨w.heap.size, 0, none⟩)) ∧ Below w.heap.size w w') := fun W => Lib.hid (fun hM hV hb => by
    refine (each_free (.pointer (some ⟨w.heap.size + 1, 0, none⟩)) w.heap.size N (fun i j W => MtxI W w.heap.size N (Bn.fil (Bn.sq N Bn.fre Bn.zer) Bn.zer i j) ∧ BoxV W (w.heap.size + 1) (.pointer (some ⟨w.heap.size, 0, none⟩)) ∧ Below w.heap.size w W) W hN
      ⟨hM.congr (fun a b _ _ => (Bn.fil_zero _ _ a b).symm), hV, hb⟩ (fun i j X h => h.1.2.1) ?_ ?_).mono ?_
    · rintro i j X hi hj ⟨h1, h3, h4⟩
      refine (bFree1_any i j w.heap.size (w.heap.size + 1) N _ X (by omega) (by omega) h1 h3).mono ?_
      rintro e w1 ⟨rfl, hg, hm⟩
      refine ⟨rfl, hm.congr (fun a b _ _ => ?_), h3.grown hg (by omega), h4.trans (below_grown hg h4.size (Nat.le_refl _))⟩
      by_cases h : i = j
      · rw [if_pos h]
        exact Bn.fil_same (by rw [Bn.sq_in hi hj]; unfold Bn.fre Bn.zer; rw [if_pos h]) a b
      · rw [if_neg h]
        have := Bn.fil_next (Bn.sq N Bn.fre Bn.zer) Bn.zer i j a b
        rw [Bn.sq_in hi hj, show Bn.fre i j = -1099511627776 from if_neg h] at this
        exact this
    · rintro i X hi ⟨h1, h3, h4⟩
      exact ⟨h1.congr (fun a b _ _ => Bn.fil_row Bn.sq_col a b), h3, h4⟩
    · rintro e w1 ⟨rfl, h1, h3, h4⟩
      exact ⟨rfl, h1.congr (fun a b _ _ => Bn.fil_end Bn.sq_row a b), h3, h4⟩)
  have HX : Hid (MtxI ((w.alloc (.cells (Try.zeroCells77.setIfInBounds 0 (.int .i64 (N : Int))) 77)).alloc (.cells #[.pointer (some ⟨w.heap.size, 0, none⟩)] 62)) w.heap.size N Bn.zer ∧
      BoxV ((w.alloc (.cells (Try.zeroCells77.setIfInBounds 0 (.int .i64 (N : Int))) 77)).alloc (.cells #[.pointer (some ⟨w.heap.size, 0, none⟩)] 62)) (w.heap.size + 1) (.pointer (some ⟨w.heap.size, 0, none⟩)) ∧
      Below w.heap.size w ((w.alloc (.cells (Try.zeroCells77.setIfInBounds 0 (.int .i64 (N : Int))) 77)).alloc (.cells #[.pointer (some ⟨w.heap.size, 0, none⟩)] 62))) := Lib.hid (by
    have M := mtx_new w N 77
    have L : Below w.heap.size w (w.alloc (.cells (Try.zeroCells77.setIfInBounds 0 (.int .i64 (N : Int))) 77)) := (Below.refl _ _).alloc (Nat.le_refl _) _
    have e2 : (w.alloc (.cells (Try.zeroCells77.setIfInBounds 0 (.int .i64 (N : Int))) 77)).heap.size = w.heap.size + 1 := by simp
    generalize w.alloc (.cells (Try.zeroCells77.setIfInBounds 0 (.int .i64 (N : Int))) 77) = Z at *
    have V := boxV_new Z (.pointer (some ⟨w.heap.size, 0, none⟩)) 62
    have l3 : Below Z.heap.size Z (Z.alloc (.cells #[.pointer (some ⟨w.heap.size, 0, none⟩)] 62)) := (Below.refl _ _).alloc (Nat.le_refl _) _
    rw [e2] at V
    exact ⟨M.step l3, V, below_nxt L l3⟩)
  go_enter Try.func33, Try.ntmps33
  go_wp2_with (go_at_call 45; refine ((HE _).out HX.out.1 HX.out.2.1 HX.out.2.2).mono ?_; rintro e w1 ⟨rfl, hm, ⟨v0, v1⟩, hb⟩; have HM := Lib.hid hm; have HB := Lib.hid hb; clear hm hb)
  go_ret
  exact ⟨_, rfl, Nat.le_refl _, HM.out, HB.out⟩

set_option maxHeartbeats 2000000 in
set_option maxRecDepth 100000 in
/-- The closure of bounds. -/
theorem bBnds1_any (i j g mb ob A eb B k cap : Nat) (n : Int) (x : Int) (m o : Bn.Mx) (f c : Nat → Nat) (W : World) (hi : i < 13) (hj : j < 13) (hik : i < k) (hjk : j < k) (_ : k ≤ cap) (hM : MtxI W g n m) (hm : BoxV W mb (.pointer (some ⟨g, 0, none⟩))) (hO : BoxB W ob n (.slice (some ⟨A, 0, none⟩) k cap)) (hG : Grd B W A k k f c o) (hE : BoxW W eb (.int .i64 x)) (hgB : g < B) (hmB : mb < B) (hoB : ∀ q, q < k → f q ≠ ob) (hef : ∀ q, q < k → eb ≠ f q) (heA : eb ≠ A) (heg : eb ≠ g) (hem : eb ≠ mb) (heo : eb ≠ ob) :
    Calls Try.prog 64 #[.int .i64 i, .int .i64 j, .pointer (some ⟨mb, 0, none⟩), .pointer (some ⟨ob, 0, none⟩), .pointer (some ⟨eb, 0, none⟩)] W fun e w' => e = .returned (.tuple #[]) ∧
      MtxI w' g n m ∧ BoxV w' mb (.pointer (some ⟨g, 0, none⟩)) ∧ BoxB w' ob n (.slice (some ⟨A, 0, none⟩) k cap) ∧ Grd B w' A k k f c (Bn.up o i j (m i j)) ∧ BoxW w' eb (.int .i64 (if Bn.isB (m i j) then x else 11)) ∧ (∀ C, C ≤ B → C ≤ eb → Below C W w') := by
  have hGc := hG.cell i hik
  rw [if_pos hik] at hGc
  obtain ⟨a1, a2⟩ := hGc
  obtain ⟨r1, r2⟩ := hG.row i j hik hjk
  obtain ⟨hf1, hf2, hf3⟩ := hG.blk i hik
  obtain ⟨hcp1, hcp2⟩ := hG.cap i hik
  have hef' := hef i hik
  have HB : Hid (Below B W (W.setCell ⟨f i, j, none⟩ (.int .i64 (m i j))).drew) := Lib.hid (((Below.refl B W).setCell (p := ⟨f i, j, none⟩) hf2 _).drew)
  have HG0 : Hid (W.grownBy (W.setCell ⟨f i, j, none⟩ (.int .i64 (m i j))).drew (some (f i))) := Lib.hid (grown_drew (grown_set (grown_refl _ _)))
  have HG := Lib.hid (hG.put hik hjk (m i j)).drew
  have HM := Lib.hid (hM.below hgB HB.out)
  have HV : Hid (BoxV (W.setCell ⟨f i, j, none⟩ (.int .i64 (m i j))).drew mb (.pointer (some ⟨g, 0, none⟩))) := Lib.hid (hm.grown HG0.out (by omega))
  have HO := Lib.hid (hO.grown HG0.out (fun e => hoB i hik e.symm))
  have HE := Lib.hid (hE.grown HG0.out hef')
  obtain ⟨m0, m1, m2⟩ := hM
  obtain ⟨m3, m4⟩ := m2 i j hi hj
  obtain ⟨v0, v1⟩ := hm
  obtain ⟨o0, o1, o2⟩ := hO
  clear m2 hG hE
  have m5 := (HM.out.2.2 i j hi hj).1
  obtain ⟨v2, v3⟩ := HV.out
  obtain ⟨e0, e1, e2⟩ := HE.out
  have C := fun W => Lib.hid (bIsB_any (m i j) W)
  generalize hQ : Bn.up o i j (m i j) = Q at *
  generalize hmij : m i j = y at *
  generalize hfi : f i = q at *
  generalize hci : c i = ci at *
  generalize hbb : Bn.isB y = bb at *
  go_enter Try.func64, Try.ntmps64
  cases bb
  · have HE3 := Lib.hid (HE.out.put (.int .i64 11))
    have HG3 := Lib.hid (grown_set (A := eb) (i := 0) (v := .int .i64 11) (grown_refl (W.setCell ⟨q, j, none⟩ (.int .i64 y)).drew (some eb)))
    subst hfi
    go_wp2
    go_region
    generalize hX : (W.setCell ⟨f i, j, none⟩ (.int .i64 y)).drew = X at *
    go_wp2_with (go_at_call 65; refine ((C _).out).mono ?_; rintro e w1 ⟨rfl, rfl⟩)
    go_end0
    exact ⟨rfl, HM.out.grown HG3.out (fun e => heg e.symm), HV.out.grown HG3.out (fun e => hem e.symm), HO.out.grown HG3.out (fun e => heo e.symm), HG.out.other HG3.out heA hef, HE3.out, fun K h1 h2 => (HB.out.mono h1).setCell h2 _⟩
  · subst hfi
    go_wp2
    go_region
    generalize hX : (W.setCell ⟨f i, j, none⟩ (.int .i64 y)).drew = X at *
    go_wp2_with (go_at_call 65; refine ((C _).out).mono ?_; rintro e w1 ⟨rfl, rfl⟩)
    go_end0
    exact ⟨rfl, HM.out, HV.out, HO.out, HG.out, HE.out, fun K h1 h2 => HB.out.mono h1⟩
end Go.Proofs.Ytkemicfaiipidaa

