/- The bounds of a matrix, of package bounds. -/
import Derived.Test.YtkemicfaiipidaaBf
import Derived.Deep.OwnRows
namespace Go.Proofs.Ytkemicfaiipidaa
open Go.RowKit

theorem madeN {v : Value} {n : Nat} : madeCells #[v] n = Array.replicate n v := by
  apply Array.ext_getElem?
  intro i
  by_cases h : i < n <;> simp [madeCells, h, Nat.mod_one]
/-- What bounds returns: N, the rows, the error. -/
def Bn.bV (N : Nat) (m : Bn.Mx) : Int × List (List Int) × Int := if Bn.allB N m then ((N : Int), Bn.rws N m, 0) else (0, [], 11)
/-- A value that was returned is bounds. -/
def ValB (w : World) (v : Value) (n : Int) (R : List (List Int)) : Prop := ∃ u, v = .agg #[.int .i64 n, u] ∧ SeesR w u R
/-- The same, also where a block below B has been written. -/
def ValF (B : Nat) (w : World) (v : Value) (n : Int) (R : List (List Int)) : Prop := ValB w v n R ∧ ∀ (W' : World) (q : Nat), q < B → w.grownBy W' (some q) → ValB W' v n R
theorem ValF.nil (B : Nat) (w : World) : ValF B w (.agg #[.int .i64 0, .slice none 0 0]) 0 [] := ⟨⟨_, rfl, none, 0, rfl, Nat.le_refl _, by omega, fun h => by simp at h⟩, fun _ _ _ _ => ⟨_, rfl, none, 0, rfl, Nat.le_refl _, by omega, fun h => by simp at h⟩⟩
theorem ValF.mono {B B' : Nat} {w : World} {v : Value} {n : Int} {R : List (List Int)} (h : ValF B w v n R) (hB : B' ≤ B) : ValF B' w v n R := ⟨h.1, fun W q hq => h.2 W q (by omega)⟩
theorem Grd.valF {B A n : Nat} {W : World} {f c : Nat → Nat} {m : Bn.Mx} (h : Grd B W A (n + 1) (n + 1) f c m) {cap : Nat} (h1 : n + 1 ≤ cap) (h2 : cap ≤ 9223372036854775807) : ValF B W (.agg #[.int .i64 (n : Int), .slice (some ⟨A, 0, none⟩) (n + 1) cap]) n (Bn.rws n m) :=
  ⟨⟨_, rfl, h.sees h1 h2⟩, fun W' q hq hg => ⟨_, rfl, (h.other hg (by have := h.ge; omega) (fun i hi => by have := (h.blk i hi).2.1; omega)).sees h1 h2⟩⟩
/-- One more row has been made. -/
theorem Grd.more {B A k r : Nat} {W : World} {f c : Nat → Nat} (h : Grd B W A k r f c Bn.zer) (hr : r < k) (hk : k ≤ 64) (hB : B ≤ W.heap.size) (T : TypeId) :
    Grd B ((W.alloc (.cells (madeCells #[.int .i64 0] k) T)).setCell ⟨A, r, none⟩ (.slice (some ⟨W.heap.size, 0, none⟩) k k)) A k (r + 1) (fun q => if q = r then W.heap.size else f q) (fun q => if q = r then k else c q) Bn.zer := by
  have hA := h.lt
  have L : Below W.heap.size W (W.alloc (.cells (madeCells #[.int .i64 0] k) T)) := (Below.refl _ _).alloc (Nat.le_refl _) _
  have n1 : ∀ j, j < k → (W.alloc (.cells (madeCells #[.int .i64 0] k) T)).cell? ⟨W.heap.size, j, none⟩ = some (.int .i64 0) := fun j hj => by simp [madeCells, hj, Nat.mod_one]
  have n2 : ∀ j, (W.alloc (.cells (madeCells #[.int .i64 0] k) T)).frozen? ⟨W.heap.size, j, none⟩ = false := fun j => by simp
  have hsz : (W.alloc (.cells (madeCells #[.int .i64 0] k) T)).heap.size = W.heap.size + 1 := by simp
  have hs := h.step L
  generalize W.alloc (.cells (madeCells #[.int .i64 0] k) T) = Y at *
  have ne : ∀ q j, q ≠ A → (Y.setCell ⟨A, r, none⟩ (.slice (some ⟨W.heap.size, 0, none⟩) k k)).cell? ⟨q, j, none⟩ = Y.cell? ⟨q, j, none⟩ := fun q j hq =>
    World.cell?_setCell_other (w := Y) (v := .slice (some ⟨W.heap.size, 0, none⟩) k k) (a := ⟨A, r, none⟩) (b := ⟨q, j, none⟩) (fun e' => hq (congrArg Addr.block e').symm)
  refine ⟨by simp [World.setCell]; omega, h.ge, hr, fun i hi => ?_, fun i hi => ?_, fun i hi => ?_, fun i j hi hj => ?_, fun i j hi hj hij => ?_⟩
  · obtain ⟨h1, h2⟩ := hs.cell i hi
    rw [World.frozen?_setCell]
    refine ⟨?_, h2⟩
    by_cases e : i = r
    · subst e
      rw [World.cell?_setCell_same' _ _ _ (by rw [h1]; rfl), if_pos (by omega), if_pos rfl, if_pos rfl]
    · rw [World.cell?_setCell_other (w := Y) (v := .slice (some ⟨W.heap.size, 0, none⟩) k k) (a := ⟨A, r, none⟩) (b := ⟨A, i, none⟩) (fun e' => e (congrArg Addr.off e').symm), h1]
      by_cases e2 : i < r
      · rw [if_pos e2, if_pos (by omega), if_neg e, if_neg e]
      · rw [if_neg e2, if_neg (by omega)]
  · by_cases e : i = r
    · rw [if_pos e]; unfold maxLen; omega
    · rw [if_neg e]; exact h.cap i (by omega)
  · by_cases e : i = r
    · rw [if_pos e]; simp [World.setCell]; omega
    · rw [if_neg e]; have := h.blk i (by omega); simp [World.setCell]; omega
  · rw [World.frozen?_setCell]
    by_cases e : i = r
    · simp only [e, if_true]
      rw [ne _ _ (by omega)]
      exact ⟨n1 j hj, n2 j⟩
    · simp only [if_neg e]
      rw [ne _ _ (h.blk i (by omega)).2.2]
      exact hs.row i j (by omega) hj
  · have fr : ∀ q, q < r → f q < W.heap.size := fun q hq => (h.blk q hq).1
    by_cases e1 : i = r <;> by_cases e2 : j = r
    · omega
    · rw [if_pos e1, if_neg e2]; have := fr j (by omega); omega
    · rw [if_neg e1, if_pos e2]; have := fr i (by omega); omega
    · rw [if_neg e1, if_neg e2]; exact h.apart i j (by omega) (by omega) hij
theorem grd_new {B k : Nat} (w : World) (T : TypeId) (hB : B ≤ w.heap.size) : Grd B (w.alloc (.cells (madeCells #[.slice none 0 0] k) T)) w.heap.size k 0 (fun _ => 0) (fun _ => 0) Bn.zer := by
  refine ⟨by simp, hB, Nat.zero_le _, fun i hi => ?_, fun i hi => by omega, fun i hi => by omega, fun i j hi => by omega, fun i j hi => by omega⟩
  simp [madeCells, hi, Nat.mod_one]
/-- The variable of a result that is bounds. -/
def ResI (W : World) (q : Nat) (n : Int) (v : Value) : Prop := q < W.heap.size ∧ W.cell? ⟨q, 0, none⟩ = some (.int .i64 n) ∧ W.cell? ⟨q, 1, none⟩ = some v ∧ W.frozen? ⟨q, 0, none⟩ = false ∧ W.frozen? ⟨q, 1, none⟩ = false
theorem ResI.step {W W' : World} {q : Nat} {n : Int} {v : Value} (h : ResI W q n v) (hb : Below W.heap.size W W') : ResI W' q n v :=
  ⟨Nat.lt_of_lt_of_le h.1 hb.size, (hb.cell (p := ⟨q, 0, none⟩) h.1).trans h.2.1, (hb.cell (p := ⟨q, 1, none⟩) h.1).trans h.2.2.1, (hb.frozen (p := ⟨q, 0, none⟩) h.1).trans h.2.2.2.1, (hb.frozen (p := ⟨q, 1, none⟩) h.1).trans h.2.2.2.2⟩
theorem ResI.grown {W W' : World} {q A : Nat} {n : Int} {v : Value} (h : ResI W q n v) (hg : W.grownBy W' (some A)) (hA : q ≠ A) : ResI W' q n v := by
  have fr : ∀ i, W'.frozen? ⟨q, i, none⟩ = W.frozen? ⟨q, i, none⟩ := fun i => by
    have := hg.block q h.1 (by simpa using hA)
    unfold World.frozen?
    simp only [this]
  exact ⟨Nat.lt_of_lt_of_le h.1 hg.size, hg.cell h.2.1 (by simpa using hA), hg.cell h.2.2.1 (by simpa using hA), by rw [fr]; exact h.2.2.2.1, by rw [fr]; exact h.2.2.2.2⟩
theorem ResI.put {W : World} {q : Nat} {n : Int} {v : Value} (h : ResI W q n v) (n' : Int) (v' : Value) : ResI ((W.setCell ⟨q, 0, none⟩ (.int .i64 n')).setCell ⟨q, 1, none⟩ v') q n' v' := by
  obtain ⟨h0, h1, h2, h3, h4⟩ := h
  have e1 : (W.setCell ⟨q, 0, none⟩ (.int .i64 n')).cell? ⟨q, 1, none⟩ = some v := by
    rw [World.cell?_setCell_other (w := W) (v := .int .i64 n') (a := ⟨q, 0, none⟩) (b := ⟨q, 1, none⟩) (fun e' => by have := congrArg Addr.off e'; simp at this)]; exact h2
  refine ⟨by simpa [World.setCell] using h0, ?_, World.cell?_setCell_same' _ _ _ (by rw [e1]; rfl), by rw [World.frozen?_setCell, World.frozen?_setCell]; exact h3, by rw [World.frozen?_setCell, World.frozen?_setCell]; exact h4⟩
  rw [World.cell?_setCell_other (w := W.setCell ⟨q, 0, none⟩ (.int .i64 n')) (v := v') (a := ⟨q, 1, none⟩) (b := ⟨q, 0, none⟩) (fun e' => by have := congrArg Addr.off e'; simp at this)]
  exact World.cell?_setCell_same' _ _ _ (by rw [h1]; rfl)
/-- What stands as the closure of bounds goes on. -/
structure BI (N g h A ob eb : Nat) (m : Bn.Mx) (f c : Nat → Nat) (w : World) (i j : Nat) (W : World) : Prop where
  mtx : MtxI W g N m
  ptr : BoxV W h (.pointer (some ⟨g, 0, none⟩))
  box : BoxB W ob N (.slice (some ⟨A, 0, none⟩) (N + 1) (N + 1))
  grd : Grd (h + 1 + 1) W A (N + 1) (N + 1) f c (Bn.fil m Bn.zer i j)
  err : ∃ x, BoxW W eb (.int .i64 x) ∧ Bn.errB N m i j x
  res : ResI W (h + 1) 0 (.slice none 0 0)
  bel : Below h w W
theorem bnds_each (N g h A ob eb : Nat) (m : Bn.Mx) (f c : Nat → Nat) (w W : World) (hN : N ≤ 12) (hg : g < h) (_ : A ≠ ob) (hF : ∀ q, q < N + 1 → f q ≠ ob) (hI : BI N g h A ob eb m f c w 0 0 W) (hA : A < eb) (ho : ob < eb) (hfb : ∀ q, q < N + 1 → f q < eb) :
    Calls Try.prog 45 #[.pointer (some ⟨g, 0, none⟩), .func (.func 64) #[] #[.pointer (some ⟨h, 0, none⟩), .pointer (some ⟨ob, 0, none⟩), .pointer (some ⟨eb, 0, none⟩)]] W fun e w' => e = .returned (.tuple #[]) ∧ BI N g h A ob eb m f c w (N + 1) 0 w' := by
  have hA2 := hI.grd.ge
  refine (each_bnds _ _ _ g N (BI N g h A ob eb m f c w) W hN hI (fun i j X h => h.mtx.2.1) ?_ ?_).mono ?_
  · rintro i j X hi hj H
    obtain ⟨x, he, hx⟩ := H.err
    have q := bBnds1_any i j g h ob A eb (h + 1 + 1) (N + 1) (N + 1) N x m _ f c X (by omega) (by omega) (by omega) (by omega) (Nat.le_refl _) H.mtx H.ptr H.box H.grd he (by omega) (by omega) hF (fun q hq => by have := hfb q hq; omega) (by omega) (by omega) (by omega) (by omega)
    refine q.mono ?_
    rintro e w1 ⟨rfl, h1, h2, h3, h4, h5, h6⟩
    have hb := h6 (h + 1 + 1) (Nat.le_refl _) (by omega)
    refine ⟨rfl, h1, h2, h3, h4.congr (fun a b _ _ => Bn.fil_next _ _ _ _ _ _), ?_, ⟨Nat.lt_of_lt_of_le H.res.1 hb.size, (hb.cell (p := ⟨h + 1, 0, none⟩) (by simp)).trans H.res.2.1, (hb.cell (p := ⟨h + 1, 1, none⟩) (by simp)).trans H.res.2.2.1, (hb.frozen (p := ⟨h + 1, 0, none⟩) (by simp)).trans H.res.2.2.2.1, (hb.frozen (p := ⟨h + 1, 1, none⟩) (by simp)).trans H.res.2.2.2.2⟩, H.bel.trans (hb.mono (by omega))⟩
    cases hb : Bn.isB (m i j)
    · rw [hb] at h5
      exact ⟨11, h5, Bn.errB_no hi hj hb⟩
    · rw [hb] at h5
      exact ⟨x, h5, Bn.errB_yes hx hb⟩
  · rintro i X hi H
    obtain ⟨x, he, hx⟩ := H.err
    exact ⟨H.mtx, H.ptr, H.box, H.grd.congr (fun a b ha hb => by unfold Bn.fil; grind), ⟨x, he, Bn.errB_row hx⟩, H.res, H.bel⟩
  · rintro e w1 ⟨rfl, H⟩
    exact ⟨rfl, H⟩
/-- What stands when the outer slice has been made. -/
structure Rdy (N g h : Nat) (m : Bn.Mx) (w Y : World) (A ob : Nat) : Prop where
  grd : Grd (h + 1 + 1) Y A (N + 1) 0 (fun _ => 0) (fun _ => 0) Bn.zer
  box : BoxB Y ob N (.slice (some ⟨A, 0, none⟩) (N + 1) (N + 1))
  mtx : MtxI Y g N m
  ptr : BoxV Y h (.pointer (some ⟨g, 0, none⟩))
  res : ResI Y (h + 1) 0 (.slice none 0 0)
  bel : Below h w Y
  ne : A ≠ ob
  geA : h + 1 < A
  geo : h + 1 < ob
set_option maxHeartbeats 4000000 in
set_option maxRecDepth 100000 in
theorem bBnds_any (N g : Nat) (m : Bn.Mx) (w : World) (hN : N ≤ 12) (hM : MtxI w g N m) :
    Calls Try.prog 34 #[.pointer (some ⟨g, 0, none⟩)] w fun e w' => ∃ v, e = .returned (.tuple #[v, .int .i64 (Bn.bV N m).2.2]) ∧ ValF w.heap.size w' v (Bn.bV N m).1 (Bn.bV N m).2.1 ∧ Below w.heap.size w w' := by
  have HM := Lib.hid hM
  obtain ⟨m0, m1, m2⟩ := hM
  clear m2
  have hmk := run_make_row' (P := Try.prog) 22 42 (.slice none 0 0) 24 Try.underlying22 (by kernel_rfl) rfl .i64 .i64 (N + 1) (by omega) (by omega)
  have hmr := run_make_row' (P := Try.prog) 42 3 (.int .i64 0) 8 Try.underlying42 (by kernel_rfl) rfl .i64 .i64 (N + 1) (by omega) (by omega)
  simp only [Int.natCast_add, Int.cast_ofNat_Int] at hmk hmr
  have PX : ∃ X, X = ((w.alloc (.cells #[.pointer (some ⟨g, 0, none⟩)] 62)).alloc (.cells #[.int .i64 0, .slice none 0 0] 24)) ∧ Hid (X.heap.size = w.heap.size + 1 + 1) ∧ Hid (Below w.heap.size w X) ∧ MtxI X g N m ∧ BoxV X w.heap.size (.pointer (some ⟨g, 0, none⟩)) ∧ Hid (ResI X (w.heap.size + 1) 0 (.slice none 0 0)) := by
    refine ⟨_, rfl, Lib.hid (by simp), Lib.hid (((Below.refl _ _).alloc (Nat.le_refl _) _).alloc (by simp) _), ?_, ?_, Lib.hid ⟨by simp, by simp, by simp, by simp, by simp⟩⟩
    · exact (HM.out.step ((Below.refl _ _).alloc (Nat.le_refl _) _)).step ((Below.refl _ _).alloc (Nat.le_refl _) _)
    · exact (boxV_new w _ _).step ((Below.refl _ _).alloc (Nat.le_refl _) _)
  obtain ⟨X, hX, HZ, HL, HMX, HVX, HRX⟩ := PX
  have R1 : Hid (Rdy N g w.heap.size m w ((X.alloc (.cells (madeCells #[.slice none 0 0] (N + 1)) 42)).alloc (.cells #[.int .i64 (N : Int), .slice (some ⟨X.heap.size, 0, none⟩) (N + 1) (N + 1)] 24)).drew X.heap.size (X.heap.size + 1)) := Lib.hid (by
    have l1 : Below X.heap.size X (X.alloc (.cells (madeCells #[.slice none 0 0] (N + 1)) 42)) := (Below.refl _ _).alloc (Nat.le_refl _) _
    have e1 : (X.alloc (.cells (madeCells #[.slice none 0 0] (N + 1)) 42)).heap.size = X.heap.size + 1 := by simp
    have G := grd_new (B := w.heap.size + 1 + 1) (k := N + 1) X 42 (Nat.le_of_eq HZ.out.symm)
    have hz := HZ.out
    generalize X.alloc (.cells (madeCells #[.slice none 0 0] (N + 1)) 42) = U at *
    have l2 : Below U.heap.size U (U.alloc (.cells #[.int .i64 (N : Int), .slice (some ⟨X.heap.size, 0, none⟩) (N + 1) (N + 1)] 24)) := (Below.refl _ _).alloc (Nat.le_refl _) _
    have B := (boxB_new U N (.slice (some ⟨X.heap.size, 0, none⟩) (N + 1) (N + 1)) 24).1
    rw [e1] at B
    exact ⟨(G.step l2).drew, B, (HMX.step l1).step l2.drew, (HVX.step l1).step l2.drew, (HRX.out.step l1).step l2.drew, (below_nxt (below_nxt HL.out l1) l2).drew, by omega, by omega, by omega⟩)
  have R2 : Hid (Rdy N g w.heap.size m w ((X.alloc (.cells #[.int .i64 (N : Int), .slice (some ⟨X.heap.size + 1, 0, none⟩) (N + 1) (N + 1)] 24)).alloc (.cells (madeCells #[.slice none 0 0] (N + 1)) 42)).drew (X.heap.size + 1) X.heap.size) := Lib.hid (by
    have l1 : Below X.heap.size X (X.alloc (.cells #[.int .i64 (N : Int), .slice (some ⟨X.heap.size + 1, 0, none⟩) (N + 1) (N + 1)] 24)) := (Below.refl _ _).alloc (Nat.le_refl _) _
    have e1 : (X.alloc (.cells #[.int .i64 (N : Int), .slice (some ⟨X.heap.size + 1, 0, none⟩) (N + 1) (N + 1)] 24)).heap.size = X.heap.size + 1 := by simp
    have B := (boxB_new X N (.slice (some ⟨X.heap.size + 1, 0, none⟩) (N + 1) (N + 1)) 24).1
    have hz := HZ.out
    generalize X.alloc (.cells #[.int .i64 (N : Int), .slice (some ⟨X.heap.size + 1, 0, none⟩) (N + 1) (N + 1)] 24) = U at *
    have l2 : Below U.heap.size U (U.alloc (.cells (madeCells #[.slice none 0 0] (N + 1)) 42)) := (Below.refl _ _).alloc (Nat.le_refl _) _
    have hl := below_nxt HL.out l1
    have G := grd_new (B := w.heap.size + 1 + 1) (k := N + 1) U 42 (by omega)
    rw [e1] at G
    exact ⟨G.drew, B.step l2.drew, (HMX.step l1).step l2.drew, (HVX.step l1).step l2.drew, (HRX.out.step l1).step l2.drew, (below_nxt hl l2).drew, by omega, by omega, by omega⟩)
  have hgl : Hid (g < w.heap.size) := Lib.hid HM.out.1
  obtain ⟨x0, x1, x2⟩ := HMX
  obtain ⟨v0, v1⟩ := HVX
  clear x2 HM m0 m1 HRX
  go_enter Try.func34, Try.ntmps34
  go_wp2
  rw [← hX]
  clear hX
  go_region
  · have HRY := R1
    clear R1 R2 HL HZ x0 x1 v0 v1
    obtain ⟨Y, hY⟩ : ∃ Y, Y = ((X.alloc (.cells (madeCells #[.slice none 0 0] (N + 1)) 42)).alloc (.cells #[.int .i64 (N : Int), .slice (some ⟨X.heap.size, 0, none⟩) (N + 1) (N + 1)] 24)).drew := ⟨_, rfl⟩
    rw [← hY] at HRY ⊢
    clear hY
    generalize X.heap.size + 1 = ob at *
    generalize X.heap.size = A at *
    obtain ⟨b0, b1, b2⟩ := HRY.out.box
    have hne := HRY.out.ne
    have hgA := HRY.out.geA
    have hgo := HRY.out.geo
    have hgg := hgl.out
    clear hgl
    go_wp2
    go_loopw [21] (fun s21 wr => ∃ (i : Nat) (f c : Nat → Nat), i ≤ N + 1 ∧ s21 = .int .i64 (i : Int) ∧ Grd (w.heap.size + 1 + 1) wr A (N + 1) i f c Bn.zer ∧ BoxB wr ob N (.slice (some ⟨A, 0, none⟩) (N + 1) (N + 1)) ∧ MtxI wr g N m ∧ BoxV wr w.heap.size (.pointer (some ⟨g, 0, none⟩)) ∧ Hid (ResI wr (w.heap.size + 1) 0 (.slice none 0 0)) ∧ Hid (Below w.heap.size w wr) ∧ Hid (∀ q, q < i → f q ≠ ob)) (fun s21 _ => N + 1 - (intOf s21).toNat)
    case atStart => exact ⟨0, _, _, Nat.zero_le _, rfl, HRY.out.grd, HRY.out.box, HRY.out.mtx, HRY.out.ptr, Lib.hid HRY.out.res, Lib.hid HRY.out.bel, Lib.hid (fun q hq => by omega)⟩
    case round =>
      clear HRY b0 b1 b2
      obtain ⟨i, f, c, hi, rfl, hG, hO, hM, hV, HR, HB, HF⟩ := hrel
      have HG := Lib.hid hG
      have HO := Lib.hid hO
      have HM := Lib.hid hM
      have HV := Lib.hid hV
      obtain ⟨o0, o1, o2⟩ := hO
      obtain ⟨p0, p1⟩ := hV
      have q0 := hM.1
      have q1 := hM.2.1
      clear hM
      have a0 := hG.lt
      have a9 := hG.ge
      by_cases hil : i < N + 1
      · obtain ⟨a1, a2⟩ := hG.cell i hil
        rw [if_neg (by omega)] at a1
        clear hG
        have G0 := HG.out.more hil (by omega) (by omega) 3
        have L1 : Below wr.heap.size wr (wr.alloc (.cells (madeCells #[.int .i64 0] (N + 1)) 3)) := (Below.refl _ _).alloc (Nat.le_refl _) _
        have G2 : wr.grownBy ((wr.alloc (.cells (madeCells #[.int .i64 0] (N + 1)) 3)).setCell ⟨A, i, none⟩ (.slice (some ⟨wr.heap.size, 0, none⟩) (N + 1) (N + 1))) (some A) := grown_set (grown_below L1)
        rw [World.setCell_alloc_past _ _ _ _ a0] at G0 G2
        have HG2 := Lib.hid G0
        have HO2 := Lib.hid (HO.out.grown G2 (fun e => hne e.symm))
        have HM2 := Lib.hid (HM.out.grown G2 (by omega))
        have HV2 := Lib.hid (HV.out.grown G2 (by omega))
        have HR2 := Lib.hid (HR.out.grown G2 (by omega))
        have HB2 := Lib.hid (HB.out.trans (below_grown G2 HB.out.size (by omega)))
        have HF2 : Hid (∀ q, q < i + 1 → (if q = i then wr.heap.size else f q) ≠ ob) := Lib.hid (fun q hq => by
          by_cases e : q = i
          · rw [if_pos e]; omega
          · rw [if_neg e]; exact HF.out q (by omega))
        have hq : (i : Int) < (N : Int) + 1 := by omega
        clear G0 L1 G2 HG HO HM HV HR HB HF
        go_wp2
        go_region
        go_wp2
        exact ⟨⟨i + 1, _, _, by omega, rfl, HG2.out.drew, HO2.out, HM2.out, HV2.out, HR2, Lib.hid HB2.out.drew, HF2⟩, by simp [intOf]; omega⟩
      · obtain rfl : i = N + 1 := by omega
        clear hG hmk hmr
        have HE0 := fun (eb : Nat) (W : World) => Lib.hid (bnds_each N g w.heap.size A ob eb m f c w W hN hgg hne HF.out)
        have L1 : Below wr.heap.size wr (wr.alloc (.cells #[.int .i64 0] 31)) := (Below.refl _ _).alloc (Nat.le_refl _) _
        have HI : Hid (BI N g w.heap.size A ob wr.heap.size m f c w 0 0 (wr.alloc (.cells #[.int .i64 0] 31))) := Lib.hid
          ⟨HM.out.step L1, HV.out.step L1, HO.out.step L1, (HG.out.step L1).congr (fun a b _ _ => (Bn.fil_zero _ _ a b).symm), ⟨0, boxW_new wr _ _, Bn.errB_zero N m⟩, HR.out.step L1, below_nxt HB.out L1⟩
        have hfr : ∀ q, q < N + 1 → f q < wr.heap.size := fun q hq => (HG.out.blk q hq).1
        have hcap : N + 1 ≤ 9223372036854775807 := by omega
        have HFR := Lib.hid hfr
        clear hfr L1 HG HO HM HV HR HB HF
        cases hAB : Bn.allB N m
        · go_wp2_with (go_at_call 45; refine ((HE0 _ _).out HI.out (by omega) (by omega) HFR.out).mono ?_; rintro e w1 ⟨rfl, hI⟩; have HJ := Lib.hid hI; obtain ⟨x, ⟨e0, e1, e2⟩, he⟩ := hI.err; have hx := Bn.errB_end he; rw [hAB] at hx; simp only [Bool.false_eq_true, if_false] at hx; subst hx; obtain ⟨k0, k1, k2, k3, k4⟩ := hI.res; clear hI he)
          go_region
          have RW : ResI ((w1.setCell ⟨w.heap.size + 1, 0, none⟩ (.int .i64 0)).setCell ⟨w.heap.size + 1, 1, none⟩ (.slice none 0 0)).drew (w.heap.size + 1) 0 (.slice none 0 0) := HJ.out.res.put 0 _
          have BW : Below w.heap.size w ((w1.setCell ⟨w.heap.size + 1, 0, none⟩ (.int .i64 0)).setCell ⟨w.heap.size + 1, 1, none⟩ (.slice none 0 0)).drew := ((HJ.out.bel.setCell (p := ⟨w.heap.size + 1, 0, none⟩) (by simp) _).setCell (p := ⟨w.heap.size + 1, 1, none⟩) (by simp) _).drew
          generalize ((w1.setCell ⟨w.heap.size + 1, 0, none⟩ (.int .i64 0)).setCell ⟨w.heap.size + 1, 1, none⟩ (.slice none 0 0)).drew = W2 at *
          obtain ⟨-, t1, t2, -, -⟩ := RW
          go_wp2
          have hv : Bn.bV N m = (0, [], 11) := by unfold Bn.bV; rw [hAB]; rfl
          rw [hv]
          exact bodyPost_ret (v := .tuple #[.agg #[.int .i64 0, .slice none 0 0], .int .i64 11]) (by simp [results, Try.results34, go_sem, t1, t2]) rfl ⟨_, rfl, ValF.nil _ _, BW⟩
        · go_wp2_with (go_at_call 45; refine ((HE0 _ _).out HI.out (by omega) (by omega) HFR.out).mono ?_; rintro e w1 ⟨rfl, hI⟩; have HJ := Lib.hid hI; obtain ⟨x, ⟨e0, e1, e2⟩, he⟩ := hI.err; have hx := Bn.errB_end he; rw [hAB] at hx; simp only [if_true] at hx; subst hx; obtain ⟨k0, k1, k2, k3, k4⟩ := hI.res; obtain ⟨o3, o4, o5⟩ := hI.box; clear hI he)
          have RW : ResI ((w1.setCell ⟨w.heap.size + 1, 0, none⟩ (.int .i64 (N : Int))).setCell ⟨w.heap.size + 1, 1, none⟩ (.slice (some ⟨A, 0, none⟩) (N + 1) (N + 1))) (w.heap.size + 1) N (.slice (some ⟨A, 0, none⟩) (N + 1) (N + 1)) := HJ.out.res.put N _
          have BW : Below w.heap.size w ((w1.setCell ⟨w.heap.size + 1, 0, none⟩ (.int .i64 (N : Int))).setCell ⟨w.heap.size + 1, 1, none⟩ (.slice (some ⟨A, 0, none⟩) (N + 1) (N + 1))) := ((HJ.out.bel.setCell (p := ⟨w.heap.size + 1, 0, none⟩) (by simp) _).setCell (p := ⟨w.heap.size + 1, 1, none⟩) (by simp) _)
          have GW := HJ.out.grd.other (grown_set (i := 1) (v := .slice (some ⟨A, 0, none⟩) (N + 1) (N + 1)) (grown_set (A := w.heap.size + 1) (i := 0) (v := .int .i64 (N : Int)) (grown_refl _ _))) (by omega) (fun q hq => by have := (HJ.out.grd.blk q hq).2.1; omega)
          generalize ((w1.setCell ⟨w.heap.size + 1, 0, none⟩ (.int .i64 (N : Int))).setCell ⟨w.heap.size + 1, 1, none⟩ (.slice (some ⟨A, 0, none⟩) (N + 1) (N + 1))) = W2 at *
          obtain ⟨-, t1, t2, -, -⟩ := RW
          have hv : Bn.bV N m = ((N : Int), Bn.rws N m, 0) := by unfold Bn.bV; rw [hAB]; rfl
          rw [hv]
          exact bodyPost_ret (v := .tuple #[.agg #[.int .i64 (N : Int), .slice (some ⟨A, 0, none⟩) (N + 1) (N + 1)], .int .i64 0]) (by simp [results, Try.results34, go_sem, t1, t2]) rfl ⟨_, rfl, ((GW.congr (m' := m) (fun a b ha hb => by unfold Bn.fil; rw [if_pos (.inl ha)])).valF (Nat.le_refl _) hcap).mono (by omega), BW⟩
  · have HRY := R2
    clear R1 R2 HL HZ x0 x1 v0 v1
    obtain ⟨Y, hY⟩ : ∃ Y, Y = ((X.alloc (.cells #[.int .i64 (N : Int), .slice (some ⟨X.heap.size + 1, 0, none⟩) (N + 1) (N + 1)] 24)).alloc (.cells (madeCells #[.slice none 0 0] (N + 1)) 42)).drew := ⟨_, rfl⟩
    rw [← hY] at HRY ⊢
    clear hY
    generalize X.heap.size + 1 = A at *
    generalize X.heap.size = ob at *
    obtain ⟨b0, b1, b2⟩ := HRY.out.box
    have hne := HRY.out.ne
    have hgA := HRY.out.geA
    have hgo := HRY.out.geo
    have hgg := hgl.out
    clear hgl
    go_wp2
    go_loopw [21] (fun s21 wr => ∃ (i : Nat) (f c : Nat → Nat), i ≤ N + 1 ∧ s21 = .int .i64 (i : Int) ∧ Grd (w.heap.size + 1 + 1) wr A (N + 1) i f c Bn.zer ∧ BoxB wr ob N (.slice (some ⟨A, 0, none⟩) (N + 1) (N + 1)) ∧ MtxI wr g N m ∧ BoxV wr w.heap.size (.pointer (some ⟨g, 0, none⟩)) ∧ Hid (ResI wr (w.heap.size + 1) 0 (.slice none 0 0)) ∧ Hid (Below w.heap.size w wr) ∧ Hid (∀ q, q < i → f q ≠ ob)) (fun s21 _ => N + 1 - (intOf s21).toNat)
    case atStart => exact ⟨0, _, _, Nat.zero_le _, rfl, HRY.out.grd, HRY.out.box, HRY.out.mtx, HRY.out.ptr, Lib.hid HRY.out.res, Lib.hid HRY.out.bel, Lib.hid (fun q hq => by omega)⟩
    case round =>
      clear HRY b0 b1 b2
      obtain ⟨i, f, c, hi, rfl, hG, hO, hM, hV, HR, HB, HF⟩ := hrel
      have HG := Lib.hid hG
      have HO := Lib.hid hO
      have HM := Lib.hid hM
      have HV := Lib.hid hV
      obtain ⟨o0, o1, o2⟩ := hO
      obtain ⟨p0, p1⟩ := hV
      have q0 := hM.1
      have q1 := hM.2.1
      clear hM
      have a0 := hG.lt
      have a9 := hG.ge
      by_cases hil : i < N + 1
      · obtain ⟨a1, a2⟩ := hG.cell i hil
        rw [if_neg (by omega)] at a1
        clear hG
        have G0 := HG.out.more hil (by omega) (by omega) 3
        have L1 : Below wr.heap.size wr (wr.alloc (.cells (madeCells #[.int .i64 0] (N + 1)) 3)) := (Below.refl _ _).alloc (Nat.le_refl _) _
        have G2 : wr.grownBy ((wr.alloc (.cells (madeCells #[.int .i64 0] (N + 1)) 3)).setCell ⟨A, i, none⟩ (.slice (some ⟨wr.heap.size, 0, none⟩) (N + 1) (N + 1))) (some A) := grown_set (grown_below L1)
        rw [World.setCell_alloc_past _ _ _ _ a0] at G0 G2
        have HG2 := Lib.hid G0
        have HO2 := Lib.hid (HO.out.grown G2 (fun e => hne e.symm))
        have HM2 := Lib.hid (HM.out.grown G2 (by omega))
        have HV2 := Lib.hid (HV.out.grown G2 (by omega))
        have HR2 := Lib.hid (HR.out.grown G2 (by omega))
        have HB2 := Lib.hid (HB.out.trans (below_grown G2 HB.out.size (by omega)))
        have HF2 : Hid (∀ q, q < i + 1 → (if q = i then wr.heap.size else f q) ≠ ob) := Lib.hid (fun q hq => by
          by_cases e : q = i
          · rw [if_pos e]; omega
          · rw [if_neg e]; exact HF.out q (by omega))
        have hq : (i : Int) < (N : Int) + 1 := by omega
        clear G0 L1 G2 HG HO HM HV HR HB HF
        go_wp2
        go_region
        go_wp2
        exact ⟨⟨i + 1, _, _, by omega, rfl, HG2.out.drew, HO2.out, HM2.out, HV2.out, HR2, Lib.hid HB2.out.drew, HF2⟩, by simp [intOf]; omega⟩
      · obtain rfl : i = N + 1 := by omega
        clear hG hmk hmr
        have HE0 := fun (eb : Nat) (W : World) => Lib.hid (bnds_each N g w.heap.size A ob eb m f c w W hN hgg hne HF.out)
        have L1 : Below wr.heap.size wr (wr.alloc (.cells #[.int .i64 0] 31)) := (Below.refl _ _).alloc (Nat.le_refl _) _
        have HI : Hid (BI N g w.heap.size A ob wr.heap.size m f c w 0 0 (wr.alloc (.cells #[.int .i64 0] 31))) := Lib.hid
          ⟨HM.out.step L1, HV.out.step L1, HO.out.step L1, (HG.out.step L1).congr (fun a b _ _ => (Bn.fil_zero _ _ a b).symm), ⟨0, boxW_new wr _ _, Bn.errB_zero N m⟩, HR.out.step L1, below_nxt HB.out L1⟩
        have hfr : ∀ q, q < N + 1 → f q < wr.heap.size := fun q hq => (HG.out.blk q hq).1
        have hcap : N + 1 ≤ 9223372036854775807 := by omega
        have HFR := Lib.hid hfr
        clear hfr L1 HG HO HM HV HR HB HF
        cases hAB : Bn.allB N m
        · go_wp2_with (go_at_call 45; refine ((HE0 _ _).out HI.out (by omega) (by omega) HFR.out).mono ?_; rintro e w1 ⟨rfl, hI⟩; have HJ := Lib.hid hI; obtain ⟨x, ⟨e0, e1, e2⟩, he⟩ := hI.err; have hx := Bn.errB_end he; rw [hAB] at hx; simp only [Bool.false_eq_true, if_false] at hx; subst hx; obtain ⟨k0, k1, k2, k3, k4⟩ := hI.res; clear hI he)
          go_region
          have RW : ResI ((w1.setCell ⟨w.heap.size + 1, 0, none⟩ (.int .i64 0)).setCell ⟨w.heap.size + 1, 1, none⟩ (.slice none 0 0)).drew (w.heap.size + 1) 0 (.slice none 0 0) := HJ.out.res.put 0 _
          have BW : Below w.heap.size w ((w1.setCell ⟨w.heap.size + 1, 0, none⟩ (.int .i64 0)).setCell ⟨w.heap.size + 1, 1, none⟩ (.slice none 0 0)).drew := ((HJ.out.bel.setCell (p := ⟨w.heap.size + 1, 0, none⟩) (by simp) _).setCell (p := ⟨w.heap.size + 1, 1, none⟩) (by simp) _).drew
          generalize ((w1.setCell ⟨w.heap.size + 1, 0, none⟩ (.int .i64 0)).setCell ⟨w.heap.size + 1, 1, none⟩ (.slice none 0 0)).drew = W2 at *
          obtain ⟨-, t1, t2, -, -⟩ := RW
          go_wp2
          have hv : Bn.bV N m = (0, [], 11) := by unfold Bn.bV; rw [hAB]; rfl
          rw [hv]
          exact bodyPost_ret (v := .tuple #[.agg #[.int .i64 0, .slice none 0 0], .int .i64 11]) (by simp [results, Try.results34, go_sem, t1, t2]) rfl ⟨_, rfl, ValF.nil _ _, BW⟩
        · go_wp2_with (go_at_call 45; refine ((HE0 _ _).out HI.out (by omega) (by omega) HFR.out).mono ?_; rintro e w1 ⟨rfl, hI⟩; have HJ := Lib.hid hI; obtain ⟨x, ⟨e0, e1, e2⟩, he⟩ := hI.err; have hx := Bn.errB_end he; rw [hAB] at hx; simp only [if_true] at hx; subst hx; obtain ⟨k0, k1, k2, k3, k4⟩ := hI.res; obtain ⟨o3, o4, o5⟩ := hI.box; clear hI he)
          have RW : ResI ((w1.setCell ⟨w.heap.size + 1, 0, none⟩ (.int .i64 (N : Int))).setCell ⟨w.heap.size + 1, 1, none⟩ (.slice (some ⟨A, 0, none⟩) (N + 1) (N + 1))) (w.heap.size + 1) N (.slice (some ⟨A, 0, none⟩) (N + 1) (N + 1)) := HJ.out.res.put N _
          have BW : Below w.heap.size w ((w1.setCell ⟨w.heap.size + 1, 0, none⟩ (.int .i64 (N : Int))).setCell ⟨w.heap.size + 1, 1, none⟩ (.slice (some ⟨A, 0, none⟩) (N + 1) (N + 1))) := ((HJ.out.bel.setCell (p := ⟨w.heap.size + 1, 0, none⟩) (by simp) _).setCell (p := ⟨w.heap.size + 1, 1, none⟩) (by simp) _)
          have GW := HJ.out.grd.other (grown_set (i := 1) (v := .slice (some ⟨A, 0, none⟩) (N + 1) (N + 1)) (grown_set (A := w.heap.size + 1) (i := 0) (v := .int .i64 (N : Int)) (grown_refl _ _))) (by omega) (fun q hq => by have := (HJ.out.grd.blk q hq).2.1; omega)
          generalize ((w1.setCell ⟨w.heap.size + 1, 0, none⟩ (.int .i64 (N : Int))).setCell ⟨w.heap.size + 1, 1, none⟩ (.slice (some ⟨A, 0, none⟩) (N + 1) (N + 1))) = W2 at *
          obtain ⟨-, t1, t2, -, -⟩ := RW
          have hv : Bn.bV N m = ((N : Int), Bn.rws N m, 0) := by unfold Bn.bV; rw [hAB]; rfl
          rw [hv]
          exact bodyPost_ret (v := .tuple #[.agg #[.int .i64 (N : Int), .slice (some ⟨A, 0, none⟩) (N + 1) (N + 1)], .int .i64 0]) (by simp [results, Try.results34, go_sem, t1, t2]) rfl ⟨_, rfl, ((GW.congr (m' := m) (fun a b ha hb => by unfold Bn.fil; rw [if_pos (.inl ha)])).valF (Nat.le_refl _) hcap).mono (by omega), BW⟩
end Go.Proofs.Ytkemicfaiipidaa

