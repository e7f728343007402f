/- The contract of multiply of package enclosure. -/
import Derived.Test.YtldclpdmcopgnaaGreatDoorEo
import Derived.Test.YtldclpdmcopgnaaGreatDoorEl
namespace Fr
def absN (s : ByteArray) : Nat := dv (bare (numT s.data.toList))
def denN (s : ByteArray) : Nat := dv (denT s.data.toList)
/-- What is known of the texts of a fraction. -/
theorem parts_fact {s : List UInt8} (h : chk s = 0) : (bare (numT s)).all isDig = true ∧ (bare (numT s)).length ≤ 60 ∧ (denT s).all isDig = true ∧ (denT s).length ≤ 60 ∧ 0 < dv (denT s) := by
  unfold chk at h
  split at h
  · cases h
  · rename_i h1
    split at h
    · cases h
    · rename_i h2
      split at h
      · cases h
      · rename_i h3
        simp only [Bool.or_eq_true, Bool.not_eq_true', not_or, Bool.not_eq_false, isLong, decide_eq_true_eq, Nat.not_lt, Bool.and_eq_true, not_and, Bool.not_eq_true] at h1 h2 h3
        have hd := isInt_all h1.2
        have hb : bare (denT s) = denT s := by
          have hn := h3.1.1
          generalize denT s = l at *
          match l with
          | [] => rfl
          | c :: l =>
            have hn2 : (c == 45) = false := hn
            show (if c = 45 then l else c :: l) = c :: l
            rw [if_neg (by simpa using hn2)]
        rw [hb] at hd
        have h22 := h2.2
        rw [hb] at h22
        refine ⟨isInt_all h1.1, h2.1, hd, h22, ?_⟩
        rcases Nat.eq_zero_or_pos (dv (denT s)) with h0 | h0
        · exfalso
          by_cases hs : (cut s).2.isSome = true
          · have := h3.1.2 hs
            omega
          · have : denT s = [49] := by unfold denT; cases hc : (cut s).2 with | none => rfl | some x => rw [hc] at hs; simp at hs
            rw [this] at h0
            exact absurd h0 (by decide)
        · exact h0
theorem rat_absN {s : ByteArray} (h : chk s.data.toList = 0) : rat s.data.toList = num (isNeg (numT s.data.toList)) (absN s) (denN s) := rat_num h
def nI (a b : ByteArray) : Nat → Nat
  | 0 => 1
  | 1 => absN a
  | _ + 2 => absN a * absN b
def dI (a b : ByteArray) : Nat → Nat
  | 0 => 1
  | 1 => denN a
  | _ + 2 => denN a * denN b
def sI (a b : ByteArray) : Nat → Int
  | 0 => 1
  | 1 => sgnQ (rat a.data.toList)
  | _ + 2 => sgnQ (rat a.data.toList) * sgnQ (rat b.data.toList)
theorem sgn_rng (q : Rat) : sgnQ q = -1 ∨ sgnQ q = 0 ∨ sgnQ q = 1 := by
  unfold sgnQ
  split
  · exact .inl rfl
  · split
    · exact .inr (.inl rfl)
    · exact .inr (.inr rfl)
theorem sI_rng (a b : ByteArray) (i : Nat) : -1 ≤ sI a b i ∧ sI a b i ≤ 1 := by
  have h1 := sgn_rng (rat a.data.toList)
  have h2 := sgn_rng (rat b.data.toList)
  match i with
  | 0 => show -1 ≤ (1 : Int) ∧ (1 : Int) ≤ 1; omega
  | 1 => show -1 ≤ sgnQ (rat a.data.toList) ∧ sgnQ (rat a.data.toList) ≤ 1; omega
  | _ + 2 => show -1 ≤ sgnQ (rat a.data.toList) * sgnQ (rat b.data.toList) ∧ sgnQ (rat a.data.toList) * sgnQ (rat b.data.toList) ≤ 1; rcases h1 with h | h | h <;> rcases h2 with g | g | g <;> rw [h, g] <;> decide
end Fr
namespace Go.Proofs.YtldclpdmcopgnaaGreatDoor
open Go.RowKit
/-- The variable of a product. -/
def Prod (W : World) (g : Nat) (a b : ByteArray) (s : Int) (nu de : Value) : Prop :=
  g < W.heap.size ∧ W.cell? ⟨g, 0, none⟩ = some (.string a) ∧ W.cell? ⟨g, 1, none⟩ = some (.string b) ∧ W.cell? ⟨g, 2, none⟩ = some (.int .i64 s) ∧ W.cell? ⟨g, 3, none⟩ = some nu ∧ W.cell? ⟨g, 4, none⟩ = some de ∧
  W.frozen? ⟨g, 0, none⟩ = false ∧ W.frozen? ⟨g, 1, none⟩ = false ∧ W.frozen? ⟨g, 2, none⟩ = false ∧ W.frozen? ⟨g, 3, none⟩ = false ∧ W.frozen? ⟨g, 4, none⟩ = false
theorem Prod.step {W W' : World} {g : Nat} {a b : ByteArray} {s : Int} {nu de : Value} (h : Prod W g a b s nu de) (hb : Below W.heap.size W W') : Prod W' g a b s nu de := by
  obtain ⟨h0, c0, c1, c2, c3, c4, f0, f1, f2, f3, f4⟩ := h
  exact ⟨Nat.lt_of_lt_of_le h0 hb.size, (hb.cell (p := ⟨g, 0, none⟩) h0).trans c0, (hb.cell (p := ⟨g, 1, none⟩) h0).trans c1, (hb.cell (p := ⟨g, 2, none⟩) h0).trans c2, (hb.cell (p := ⟨g, 3, none⟩) h0).trans c3, (hb.cell (p := ⟨g, 4, none⟩) h0).trans c4,
    (hb.frozen (p := ⟨g, 0, none⟩) h0).trans f0, (hb.frozen (p := ⟨g, 1, none⟩) h0).trans f1, (hb.frozen (p := ⟨g, 2, none⟩) h0).trans f2, (hb.frozen (p := ⟨g, 3, none⟩) h0).trans f3, (hb.frozen (p := ⟨g, 4, none⟩) h0).trans f4⟩
theorem prod_new (w : World) (a b : ByteArray) (s : Int) (nu de : Value) (T : TypeId) : Prod (w.alloc (.cells #[.string a, .string b, .int .i64 s, nu, de] T)) w.heap.size a b s nu de := by
  unfold Prod
  simp
/-- A product of two fractions, as a value. -/
def PrV (w : World) (v : Value) (a b : ByteArray) : Prop :=
  ∃ nu de, v = .agg #[.string a, .string b, .int .i64 (Fr.sgnQ (Fr.rat a.data.toList) * Fr.sgnQ (Fr.rat b.data.toList)), nu, de] ∧ IsNat .i64 10 w nu (Fr.absN a * Fr.absN b) 200 ∧ IsNat .i64 10 w de (Fr.denN a * Fr.denN b) 200
theorem PrV.step {w w' : World} {v : Value} {a b : ByteArray} (h : PrV w v a b) (hb : Below w.heap.size w w') : PrV w' v a b := by
  obtain ⟨nu, de, h1, h2, h3⟩ := h
  exact ⟨nu, de, h1, h2.below hb (Nat.le_refl _), h3.below hb (Nat.le_refl _)⟩
theorem below_nx {w0 w w' : World} (h : Below w0.heap.size w0 w) (hb : Below w.heap.size w w') : Below w0.heap.size w0 w' := h.trans (hb.mono h.size)
theorem idx0 (x y : ByteArray) : ∀ w, (Instr.index 90 (.agg #[.string x, .string y]) (.int .i64 0)).run Tryz.prog w = .ok (.string x) w := by
  intro w
  first | kernel_rfl | rfl
theorem idx1 (x y : ByteArray) : ∀ w, (Instr.index 90 (.agg #[.string x, .string y]) (.int .i64 1)).run Tryz.prog w = .ok (.string y) w := by
  intro w
  first | kernel_rfl | rfl
theorem cell_ne {W : World} {p q : Addr} {v u : Value} (h : W.cell? q = some u) (hn : p ≠ q) : (W.setCell p v).cell? q = some u := (World.cell?_setCell_other (w := W) (v := v) (a := p) (b := q) hn).trans h
theorem off_ne {g g' i j : Nat} (h : i ≠ j) : (⟨g, i, none⟩ : Addr) ≠ ⟨g', j, none⟩ := fun e => h (congrArg Addr.off e)
theorem blk_ne {g g' i j : Nat} (h : g ≠ g') : (⟨g, i, none⟩ : Addr) ≠ ⟨g', j, none⟩ := fun e => h (congrArg Addr.block e)
theorem Prod.put2 {W : World} {g : Nat} {a b : ByteArray} {s : Int} {nu de : Value} (h : Prod W g a b s nu de) (t : Int) : Prod (W.setCell ⟨g, 2, none⟩ (.int .i64 t)) g a b t nu de := by
  obtain ⟨h0, c0, c1, c2, c3, c4, f0, f1, f2, f3, f4⟩ := h
  exact ⟨by simpa using h0, cell_ne c0 (off_ne (by decide)), cell_ne c1 (off_ne (by decide)), World.cell?_setCell_same W _ _ c2, cell_ne c3 (off_ne (by decide)), cell_ne c4 (off_ne (by decide)), by simpa using f0, by simpa using f1, by simpa using f2, by simpa using f3, by simpa using f4⟩
theorem Prod.put3 {W : World} {g : Nat} {a b : ByteArray} {s : Int} {nu de : Value} (h : Prod W g a b s nu de) (t : Value) : Prod (W.setCell ⟨g, 3, none⟩ t) g a b s t de := by
  obtain ⟨h0, c0, c1, c2, c3, c4, f0, f1, f2, f3, f4⟩ := h
  exact ⟨by simpa using h0, cell_ne c0 (off_ne (by decide)), cell_ne c1 (off_ne (by decide)), cell_ne c2 (off_ne (by decide)), World.cell?_setCell_same W _ _ c3, cell_ne c4 (off_ne (by decide)), by simpa using f0, by simpa using f1, by simpa using f2, by simpa using f3, by simpa using f4⟩
theorem Prod.put4 {W : World} {g : Nat} {a b : ByteArray} {s : Int} {nu de : Value} (h : Prod W g a b s nu de) (t : Value) : Prod (W.setCell ⟨g, 4, none⟩ t) g a b s nu t := by
  obtain ⟨h0, c0, c1, c2, c3, c4, f0, f1, f2, f3, f4⟩ := h
  exact ⟨by simpa using h0, cell_ne c0 (off_ne (by decide)), cell_ne c1 (off_ne (by decide)), cell_ne c2 (off_ne (by decide)), cell_ne c3 (off_ne (by decide)), World.cell?_setCell_same W _ _ c4, by simpa using f0, by simpa using f1, by simpa using f2, by simpa using f3, by simpa using f4⟩
theorem Prod.apart {W : World} {g : Nat} {a b : ByteArray} {s : Int} {nu de : Value} (h : Prod W g a b s nu de) {k i : Nat} (hk : k ≠ g) (t : Value) : Prod (W.setCell ⟨k, i, none⟩ t) g a b s nu de := by
  obtain ⟨h0, c0, c1, c2, c3, c4, f0, f1, f2, f3, f4⟩ := h
  exact ⟨by simpa using h0, cell_ne c0 (blk_ne hk), cell_ne c1 (blk_ne hk), cell_ne c2 (blk_ne hk), cell_ne c3 (blk_ne hk), cell_ne c4 (blk_ne hk), by simpa using f0, by simpa using f1, by simpa using f2, by simpa using f3, by simpa using f4⟩
theorem isnat_form {k : IntKind} {B : Nat} {w : World} {v : Value} {n m : Nat} (h : IsNat k B w v n m) : ∃ ao l c, v = .slice ao l c := by
  obtain ⟨l, hl, -, -, -⟩ := h
  obtain ⟨ao, cap, e, -, -⟩ := hl.form
  exact ⟨ao, _, cap, e⟩
/-- A product whose digits lie in blocks from B on. -/
def PrB (B : Nat) (w : World) (v : Value) (a b : ByteArray) : Prop :=
  ∃ nu de, v = .agg #[.string a, .string b, .int .i64 (Fr.sgnQ (Fr.rat a.data.toList) * Fr.sgnQ (Fr.rat b.data.toList)), nu, de] ∧ IsNat .i64 10 w nu (Fr.absN a * Fr.absN b) 200 ∧ IsNat .i64 10 w de (Fr.denN a * Fr.denN b) 200 ∧ (∀ g, nu.ownBlock = some g → B ≤ g) ∧ ∀ g, de.ownBlock = some g → B ≤ g
theorem PrB.prv {B : Nat} {w : World} {v : Value} {a b : ByteArray} (h : PrB B w v a b) : PrV w v a b := by
  obtain ⟨nu, de, h1, h2, h3, -⟩ := h
  exact ⟨nu, de, h1, h2, h3⟩
theorem PrB.step {B : Nat} {w w' : World} {v : Value} {a b : ByteArray} (h : PrB B w v a b) (hb : Below w.heap.size w w') : PrB B w' v a b := by
  obtain ⟨nu, de, h1, h2, h3, h4⟩ := h
  exact ⟨nu, de, h1, h2.below hb (Nat.le_refl _), h3.below hb (Nat.le_refl _), h4⟩
theorem PrB.low {B C : Nat} {w : World} {v : Value} {a b : ByteArray} (h : PrB B w v a b) (hc : C ≤ B) : PrB C w v a b := by
  obtain ⟨nu, de, h1, h2, h3, h4, h5⟩ := h
  exact ⟨nu, de, h1, h2, h3, fun g hg => Nat.le_trans hc (h4 g hg), fun g hg => Nat.le_trans hc (h5 g hg)⟩
theorem PrB.put {B : Nat} {w : World} {v : Value} {a b : ByteArray} (h : PrB B w v a b) {g : Nat} (hg : g < B) (i : Nat) (u : Value) : PrB B (w.setCell ⟨g, i, none⟩ u) v a b := by
  obtain ⟨nu, de, h1, h2, h3, h4, h5⟩ := h
  exact ⟨nu, de, h1, h2.put (fun e => by have := h4 g e; omega) u, h3.put (fun e => by have := h5 g e; omega) u, h4, h5⟩
/-- A slice that lies neither in the variable of the product nor in that of the result. -/
def NB (w : World) (v : Value) : Prop := v.ownBlock ≠ some (w.heap.size + 1 + 1 + 1) ∧ v.ownBlock ≠ some w.heap.size ∧ ∀ g, v.ownBlock = some g → w.heap.size ≤ g
theorem isnat_one (w : World) : IsNat .i64 10 (w.alloc (.cells #[.int .i64 1] 3)) (.slice (some ⟨w.heap.size, 0, none⟩) 1 1) 1 1 :=
  ⟨[1], sees_one 1 _, ⟨fun x hx => by simp at hx; omega, fun _ => by decide⟩, rfl, Nat.le_refl _⟩
set_option maxRecDepth 100000 in
set_option maxHeartbeats 8000000 in
theorem eMult_any (a b : ByteArray) (w : World) (hst : St w) (ha : a.size ≤ 800) (hb : b.size ≤ 800) (ka : Fr.chk a.data.toList = 0) (kb : Fr.chk b.data.toList = 0) :
    Calls Tryz.prog 102 #[.string a, .string b] w fun e w' => ∃ v, e = .returned v ∧ PrB w.heap.size w' v a b ∧ Below w.heap.size w w' := by
  have CPa := fun W (hW : Below w.heap.size w W) => Lib.hid (show Calls Tryz.prog 128 #[.string a] W fun e w' => e = .returned (.tuple #[.string (numB a), .string (denB a), .int .i64 0]) ∧ Below W.heap.size W w' by
    have := fParts_any a W (hst.next hW) ha
    unfold partsV at this
    rw [if_pos ka, ka] at this
    exact this)
  have CPb := fun W (hW : Below w.heap.size w W) => Lib.hid (show Calls Tryz.prog 128 #[.string b] W fun e w' => e = .returned (.tuple #[.string (numB b), .string (denB b), .int .i64 0]) ∧ Below W.heap.size W w' by
    have := fParts_any b W (hst.next hW) hb
    unfold partsV at this
    rw [if_pos kb, kb] at this
    exact this)
  have CSa := fun W (hW : Below w.heap.size w W) => Lib.hid (show Calls Tryz.prog 49 #[.string a] W fun e w' => e = .returned (.tuple #[.int .i64 (Fr.sgnQ (Fr.rat a.data.toList)), .int .i64 0]) ∧ Below W.heap.size W w' by
    have := fSign_any a W (hst.next hW) ha
    rw [if_pos ka, ka] at this
    exact this)
  have CSb := fun W (hW : Below w.heap.size w W) => Lib.hid (show Calls Tryz.prog 49 #[.string b] W fun e w' => e = .returned (.tuple #[.int .i64 (Fr.sgnQ (Fr.rat b.data.toList)), .int .i64 0]) ∧ Below W.heap.size W w' by
    have := fSign_any b W (hst.next hW) hb
    rw [if_pos kb, kb] at this
    exact this)
  obtain ⟨FA1, FA2, FA3, FA4, -⟩ := Fr.parts_fact ka
  obtain ⟨FB1, FB2, FB3, FB4, -⟩ := Fr.parts_fact kb
  have CNa := fun W => Lib.hid (dRead_any (bareB (numB a)) W (by show (Fr.bare (numB a).data.toList).length ≤ 1000; show (Fr.bare (Fr.numT a.data.toList)).length ≤ 1000; omega) FA1)
  have CDa := fun W => Lib.hid (dRead_any (denB a) W (by show (Fr.denT a.data.toList).length ≤ 1000; omega) FA3)
  have CNb := fun W => Lib.hid (dRead_any (bareB (numB b)) W (by show (Fr.bare (Fr.numT b.data.toList)).length ≤ 1000; omega) FB1)
  have CDb := fun W => Lib.hid (dRead_any (denB b) W (by show (Fr.denT b.data.toList).length ≤ 1000; omega) FB3)
  have sz1 : (bareB (numB a)).size ≤ 60 := FA2
  have sz2 : (denB a).size ≤ 60 := FA4
  have sz3 : (bareB (numB b)).size ≤ 60 := FB2
  have sz4 : (denB b).size ≤ 60 := FB4
  clear FA1 FA2 FA3 FA4 FB1 FB2 FB3 FB4 ka kb ha hb hst
  have SR := Lib.hid (fun i => Fr.sI_rng a b i)
  have hx0 := idx0 a b
  have hx1 := idx1 a b
  go_enter Tryz.func102, Tryz.ntmps102
  go_wp2_with fail
  obtain ⟨W0, hW0⟩ : ∃ W0, W0 = (((w.alloc (.cells #[.string ⟨#[]⟩, .string ⟨#[]⟩, .int .i64 0, .slice none 0 0, .slice none 0 0] 94)).alloc (.cells #[.int .i64 1] 3)).alloc (.cells #[.int .i64 1] 3)).alloc (.cells #[.string a, .string b, .int .i64 1, .slice (some ⟨w.heap.size + 1, 0, none⟩) 1 1, .slice (some ⟨w.heap.size + 1 + 1, 0, none⟩) 1 1] 94) := ⟨_, rfl⟩
  have I0 : ∃ nu de, nu = .slice (some ⟨w.heap.size + 1, 0, none⟩) 1 1 ∧ de = .slice (some ⟨w.heap.size + 1 + 1, 0, none⟩) 1 1 ∧ Hid (Below w.heap.size w W0 ∧ Prod W0 (w.heap.size + 1 + 1 + 1) a b (Fr.sI a b 0) nu de ∧ Prod W0 w.heap.size ⟨#[]⟩ ⟨#[]⟩ 0 (.slice none 0 0) (.slice none 0 0) ∧ IsNat .i64 10 W0 nu (Fr.nI a b 0) 1 ∧ IsNat .i64 10 W0 de (Fr.dI a b 0) 1) := by
    refine ⟨_, _, rfl, rfl, ?_⟩
    unfold Hid
    rw [hW0]
    obtain ⟨w1, h1⟩ : ∃ w1, w1 = w.alloc (.cells #[.string ⟨#[]⟩, .string ⟨#[]⟩, .int .i64 0, .slice none 0 0, .slice none 0 0] 94) := ⟨_, rfl⟩
    have s1 : w1.heap.size = w.heap.size + 1 := by rw [h1]; simp
    have P1 := prod_new w ⟨#[]⟩ ⟨#[]⟩ 0 (.slice none 0 0) (.slice none 0 0) 94
    have B1 : Below w.heap.size w w1 := by rw [h1]; exact (Below.refl _ _).alloc (Nat.le_refl _) _
    rw [← h1] at P1
    rw [← h1]
    obtain ⟨w2, h2⟩ : ∃ w2, w2 = w1.alloc (.cells #[.int .i64 1] 3) := ⟨_, rfl⟩
    have s2 : w2.heap.size = w.heap.size + 1 + 1 := by rw [h2]; simp [s1]
    have B2 : Below w1.heap.size w1 w2 := by rw [h2]; exact (Below.refl _ _).alloc (Nat.le_refl _) _
    have N2 := isnat_one w1
    rw [← h2, s1] at N2
    rw [← h2]
    obtain ⟨w3, h3⟩ : ∃ w3, w3 = w2.alloc (.cells #[.int .i64 1] 3) := ⟨_, rfl⟩
    have s3 : w3.heap.size = w.heap.size + 1 + 1 + 1 := by rw [h3]; simp [s2]
    have B3 : Below w2.heap.size w2 w3 := by rw [h3]; exact (Below.refl _ _).alloc (Nat.le_refl _) _
    have N3 := isnat_one w2
    rw [← h3, s2] at N3
    rw [← h3]
    have B4 := (Below.refl w3.heap.size w3).alloc (Nat.le_refl _) (.cells #[.string a, .string b, .int .i64 1, .slice (some ⟨w.heap.size + 1, 0, none⟩) 1 1, .slice (some ⟨w.heap.size + 1 + 1, 0, none⟩) 1 1] 94)
    have P4 := prod_new w3 a b 1 (.slice (some ⟨w.heap.size + 1, 0, none⟩) 1 1) (.slice (some ⟨w.heap.size + 1 + 1, 0, none⟩) 1 1) 94
    rw [s3] at P4
    have B24 : Below w2.heap.size w2 _ := B3.trans (B4.mono B3.size)
    refine ⟨B1.trans ((B2.trans (B24.mono B2.size)).mono B1.size), P4, (P1.step B2).step B24, (N2.below B24 (Nat.le_refl _)), (N3.below B4 (Nat.le_refl _))⟩
  obtain ⟨nu0, de0, hnu, hde, I0⟩ := I0
  rw [← hW0, ← hnu, ← hde]
  have HNU := Lib.hid hnu
  have HDE := Lib.hid hde
  clear hW0 hnu hde
  go_loopw [21] (fun u21 wr => ∃ (i : Nat) (sn : Int) (nu de : Value), i ≤ 2 ∧ u21 = .int .i64 i ∧ Hid (Below w.heap.size w wr ∧ Prod wr (w.heap.size + 1 + 1 + 1) a b sn nu de ∧ Prod wr w.heap.size ⟨#[]⟩ ⟨#[]⟩ 0 (.slice none 0 0) (.slice none 0 0) ∧ IsNat .i64 10 wr nu (Fr.nI a b i) (1 + 60 * i) ∧ IsNat .i64 10 wr de (Fr.dI a b i) (1 + 60 * i) ∧ sn = Fr.sI a b i ∧ NB w nu ∧ NB w de)) (fun u21 _ => 2 - (intOf u21).toNat)
  case atStart => exact ⟨0, Fr.sI a b 0, nu0, de0, by omega, rfl, Lib.hid ⟨I0.out.1, I0.out.2.1, I0.out.2.2.1, I0.out.2.2.2.1, I0.out.2.2.2.2, rfl, by rw [HNU.out]; exact ⟨by show some _ ≠ some _; simp, by show some _ ≠ some _; simp, fun g e => by have e2 : w.heap.size + 1 = g := Option.some.inj e; omega⟩, by rw [HDE.out]; exact ⟨by show some _ ≠ some _; simp, by show some _ ≠ some _; simp <;> omega, fun g e => by have e2 : w.heap.size + 1 + 1 = g := Option.some.inj e; omega⟩⟩⟩
  case round =>
    obtain ⟨i, sn, nu, de, hi, rfl, HR⟩ := hrel
    clear I0
    have hi3 : i = 0 ∨ i = 1 ∨ i = 2 := by omega
    rcases hi3 with rfl | rfl | rfl
    · go_wp2_with fail
      refine (CPa _ HR.out.1).out.mono ?_
      rintro e w1 ⟨rfl, hb1⟩
      have HB1 := Lib.hid (below_nx HR.out.1 hb1)
      have HBr1 := Lib.hid hb1
      clear hb1 CPa
      go_wp2_with fail
      refine (CSa _ HB1.out).out.mono ?_
      rintro e w2 ⟨rfl, hb2⟩
      have HB2 := Lib.hid (below_nx HB1.out hb2)
      have HBr2 := Lib.hid (below_nx HBr1.out hb2)
      have HG2 := Lib.hid (HR.out.2.1.step HBr2.out)
      obtain ⟨g0, p0, p1, p2, p3, p4, f0, f1, f2, f3, f4⟩ := HG2.out
      have hm1 := (SR.out (0 + 1)).1
      have hm2 := (SR.out (0 + 1)).2
      have hss : Fr.sI a b (0 + 1) = sn * Fr.sgnQ (Fr.rat a.data.toList) := by rw [HR.out.2.2.2.2.2.1]; exact (Int.one_mul _).symm
      rw [hss] at hm1 hm2
      have HSS := Lib.hid hss
      clear hss hb2 CSa HB1 HBr1
      generalize Fr.sgnQ (Fr.rat a.data.toList) = sg at *
      go_wp2_with fail
      clear g0 p0 p1 p2 p3 p4 f0 f1 f2 f3 f4 hm1 hm2
      obtain ⟨w3, hw3⟩ : ∃ w3, w3 = w2.setCell ⟨w.heap.size + 1 + 1 + 1, 2, none⟩ (.int .i64 (sn * sg)) := ⟨_, rfl⟩
      have HB3 := Lib.hid (show Below w.heap.size w w3 by rw [hw3]; exact HB2.out.setCell (p := ⟨w.heap.size + 1 + 1 + 1, 2, none⟩) (by show w.heap.size ≤ w.heap.size + 1 + 1 + 1; omega) _)
      have HG3 := Lib.hid (show Prod w3 (w.heap.size + 1 + 1 + 1) a b (sn * sg) nu de by rw [hw3]; exact HG2.out.put2 _)
      have HV3 := Lib.hid (show Prod w3 w.heap.size ⟨#[]⟩ ⟨#[]⟩ 0 (.slice none 0 0) (.slice none 0 0) by rw [hw3]; exact (HR.out.2.2.1.step HBr2.out).apart (by omega) _)
      have HN3 := Lib.hid (show IsNat .i64 10 w3 nu (Fr.nI a b 0) (1 + 60 * 0) by rw [hw3]; exact (HR.out.2.2.2.1.below HBr2.out (Nat.le_refl _)).put HR.out.2.2.2.2.2.2.1.1 _)
      have HD3 := Lib.hid (show IsNat .i64 10 w3 de (Fr.dI a b 0) (1 + 60 * 0) by rw [hw3]; exact (HR.out.2.2.2.2.1.below HBr2.out (Nat.le_refl _)).put HR.out.2.2.2.2.2.2.2.1 _)
      have HO := Lib.hid HR.out.2.2.2.2.2.2
      rw [← hw3]
      clear hw3 HR HG2 HB2 HBr2
      have HGd := Lib.hid (HG3.out.step (Below.refl w3.heap.size w3).drew)
      obtain ⟨g0, p0, p1, p2, p3, p4, f0, f1, f2, f3, f4⟩ := HGd.out
      go_region_with (first
        | (go_at_call 131; refine (trim_any _ _).mono ?_; rintro e w4 ⟨rfl, rfl⟩)
        | (go_at_call 130; refine ((CNa _).out).mono ?_; rintro e w4 ⟨r4, rfl, hb4, hn4⟩; have HN4 := Lib.hid hn4; have HB4 := Lib.hid (((Below.refl w3.heap.size w3).drew).trans hb4); have HG4 := HG3.out.step HB4.out; clear hb4 hn4 g0 p0 p1 p2 p3 p4 f0 f1 f2 f3 f4; obtain ⟨g0, p0, p1, p2, p3, p4, f0, f1, f2, f3, f4⟩ := HG4)
        | (go_at_call 129; refine (dTimesN _ _ _ _ _ _ _ (HN3.out.below HB4.out (Nat.le_refl _)) HN4.out (by omega) (by omega)).mono ?_; rintro e w5 ⟨r5, rfl, hb5, hn5, ho5⟩; obtain ⟨ao5, l5, c5, rfl⟩ := isnat_form hn5; have HN5 := Lib.hid hn5; have HO5 := Lib.hid ho5; have HB5 := Lib.hid (below_nx HB4.out hb5); have HG5 := HG3.out.step HB5.out; clear hb5 hn5 ho5 g0 p0 p1 p2 p3 p4 f0 f1 f2 f3 f4; obtain ⟨g0, p0, p1, p2, p3, p4, f0, f1, f2, f3, f4⟩ := HG5))
      all_goals
        clear g0 p0 p1 p2 p3 p4 f0 f1 f2 f3 f4
        obtain ⟨w6, hw6⟩ : ∃ w6, w6 = w5.setCell ⟨w.heap.size + 1 + 1 + 1, 3, none⟩ (.slice ao5 l5 c5) := ⟨_, rfl⟩
        have HB6 := Lib.hid (show Below w.heap.size w w6 by rw [hw6]; exact (below_nx HB3.out HB5.out).setCell (p := ⟨w.heap.size + 1 + 1 + 1, 3, none⟩) (by show w.heap.size ≤ w.heap.size + 1 + 1 + 1; omega) _)
        have HG6 := Lib.hid (show Prod w6 (w.heap.size + 1 + 1 + 1) a b (sn * sg) (.slice ao5 l5 c5) de by rw [hw6]; exact (HG3.out.step HB5.out).put3 _)
        have HV6 := Lib.hid (show Prod w6 w.heap.size ⟨#[]⟩ ⟨#[]⟩ 0 (.slice none 0 0) (.slice none 0 0) by rw [hw6]; exact (HV3.out.step HB5.out).apart (by omega) _)
        have HON := Lib.hid (show NB w (.slice ao5 l5 c5) by
          have z1 := HG3.out.1
          have z2 := HB4.out.size
          unfold NB
          rw [HO5.out]
          refine ⟨fun e => ?_, fun e => ?_, fun g e => ?_⟩
          · have e2 := Option.some.inj e
            omega
          · have e2 := Option.some.inj e
            omega
          · have e2 := Option.some.inj e
            omega)
        have HN6 := Lib.hid (show IsNat .i64 10 w6 (.slice ao5 l5 c5) (Fr.nI a b 0 * Fr.absN a) (1 + 60 * 1) by rw [hw6]; exact (HN5.out.up (by omega)).put HON.out.1 _)
        have HD6 := Lib.hid (show IsNat .i64 10 w6 de (Fr.dI a b 0) (1 + 60 * 0) by rw [hw6]; exact (HD3.out.below HB5.out (Nat.le_refl _)).put HO.out.2.1 _)
        have HOD := Lib.hid HO.out.2
        rw [← hw6]
        clear hw6 HB3 HG3 HV3 HN3 HD3 HO HGd HB4 HB5 HN4 HN5 HO5
        go_wp2_with fail
        have HGd := Lib.hid (HG6.out.step (Below.refl w6.heap.size w6).drew)
        obtain ⟨g0, p0, p1, p2, p3, p4, f0, f1, f2, f3, f4⟩ := HGd.out
        go_region_with (first
          | (go_at_call 130; refine ((CDa _).out).mono ?_; rintro e w7 ⟨r7, rfl, hb7, hn7⟩; have HN7 := Lib.hid hn7; have HB7 := Lib.hid (((Below.refl w6.heap.size w6).drew).trans hb7); have HG7 := HG6.out.step HB7.out; clear hb7 hn7 g0 p0 p1 p2 p3 p4 f0 f1 f2 f3 f4; obtain ⟨g0, p0, p1, p2, p3, p4, f0, f1, f2, f3, f4⟩ := HG7)
          | (go_at_call 129; refine (dTimesN _ _ _ _ _ _ _ (HD6.out.below HB7.out (Nat.le_refl _)) HN7.out (by omega) (by omega)).mono ?_; rintro e w8 ⟨r8, rfl, hb8, hn8, ho8⟩; obtain ⟨ao8, l8, c8, rfl⟩ := isnat_form hn8; have HN8 := Lib.hid hn8; have HO8 := Lib.hid ho8; have HB8 := Lib.hid (below_nx HB7.out hb8); have HG8 := HG6.out.step HB8.out; clear hb8 hn8 ho8 g0 p0 p1 p2 p3 p4 f0 f1 f2 f3 f4; obtain ⟨g0, p0, p1, p2, p3, p4, f0, f1, f2, f3, f4⟩ := HG8))
        all_goals
          clear g0 p0 p1 p2 p3 p4 f0 f1 f2 f3 f4
          obtain ⟨w9, hw9⟩ : ∃ w9, w9 = w8.setCell ⟨w.heap.size + 1 + 1 + 1, 4, none⟩ (.slice ao8 l8 c8) := ⟨_, rfl⟩
          have hOD : NB w (.slice ao8 l8 c8) := by
            have z1 := HG6.out.1
            have z2 := HB7.out.size
            unfold NB
            rw [HO8.out]
            refine ⟨fun e => ?_, fun e => ?_, fun g e => ?_⟩
            · have e2 := Option.some.inj e
              omega
            · have e2 := Option.some.inj e
              omega
            · have e2 := Option.some.inj e
              omega
          have HR9 := Lib.hid (show Below w.heap.size w w9 ∧ Prod w9 (w.heap.size + 1 + 1 + 1) a b (sn * sg) (.slice ao5 l5 c5) (.slice ao8 l8 c8) ∧ Prod w9 w.heap.size ⟨#[]⟩ ⟨#[]⟩ 0 (.slice none 0 0) (.slice none 0 0) ∧ IsNat .i64 10 w9 (.slice ao5 l5 c5) (Fr.nI a b (0 + 1)) (1 + 60 * (0 + 1)) ∧ IsNat .i64 10 w9 (.slice ao8 l8 c8) (Fr.dI a b (0 + 1)) (1 + 60 * (0 + 1)) ∧ sn * sg = Fr.sI a b (0 + 1) ∧ NB w (.slice ao5 l5 c5) ∧ NB w (.slice ao8 l8 c8) by
            rw [hw9]
            refine ⟨(below_nx HB6.out HB8.out).setCell (p := ⟨w.heap.size + 1 + 1 + 1, 4, none⟩) (by show w.heap.size ≤ w.heap.size + 1 + 1 + 1; omega) _, (HG6.out.step HB8.out).put4 _, (HV6.out.step HB8.out).apart (by omega) _, ?_, ?_, HSS.out.symm, HON.out, hOD⟩
            · have h := (HN6.out.below HB8.out (Nat.le_refl _)).put HON.out.1 (.slice ao8 l8 c8) (i := 4)
              rw [show Fr.nI a b 0 * Fr.absN a = Fr.nI a b (0 + 1) from Nat.one_mul _] at h
              exact h
            · have h := (HN8.out.up (show _ ≤ 1 + 60 * (0 + 1) by omega)).put hOD.1 (.slice ao8 l8 c8) (i := 4)
              rw [show Fr.dI a b 0 * Fr.dv (denB a).data.toList = Fr.dI a b (0 + 1) from Nat.one_mul _] at h
              exact h)
          rw [← hw9]
          clear hw9 HB6 HG6 HV6 HON HN6 HD6 HOD HGd HB7 HN7 HB8 HN8 HO8 hOD HSS
          go_wp2
          exact ⟨⟨0 + 1, sn * sg, .slice ao5 l5 c5, .slice ao8 l8 c8, by omega, by first | rfl | go_num, HR9⟩, by simp [intOf]⟩
    · go_wp2_with fail
      refine (CPb _ HR.out.1).out.mono ?_
      rintro e w1 ⟨rfl, hb1⟩
      have HB1 := Lib.hid (below_nx HR.out.1 hb1)
      have HBr1 := Lib.hid hb1
      clear hb1 CPb
      go_wp2_with fail
      refine (CSb _ HB1.out).out.mono ?_
      rintro e w2 ⟨rfl, hb2⟩
      have HB2 := Lib.hid (below_nx HB1.out hb2)
      have HBr2 := Lib.hid (below_nx HBr1.out hb2)
      have HG2 := Lib.hid (HR.out.2.1.step HBr2.out)
      obtain ⟨g0, p0, p1, p2, p3, p4, f0, f1, f2, f3, f4⟩ := HG2.out
      have hm1 := (SR.out (1 + 1)).1
      have hm2 := (SR.out (1 + 1)).2
      have hss : Fr.sI a b (1 + 1) = sn * Fr.sgnQ (Fr.rat b.data.toList) := by rw [HR.out.2.2.2.2.2.1]; rfl
      rw [hss] at hm1 hm2
      have HSS := Lib.hid hss
      clear hss hb2 CSb HB1 HBr1
      generalize Fr.sgnQ (Fr.rat b.data.toList) = sg at *
      go_wp2_with fail
      clear g0 p0 p1 p2 p3 p4 f0 f1 f2 f3 f4 hm1 hm2
      obtain ⟨w3, hw3⟩ : ∃ w3, w3 = w2.setCell ⟨w.heap.size + 1 + 1 + 1, 2, none⟩ (.int .i64 (sn * sg)) := ⟨_, rfl⟩
      have HB3 := Lib.hid (show Below w.heap.size w w3 by rw [hw3]; exact HB2.out.setCell (p := ⟨w.heap.size + 1 + 1 + 1, 2, none⟩) (by show w.heap.size ≤ w.heap.size + 1 + 1 + 1; omega) _)
      have HG3 := Lib.hid (show Prod w3 (w.heap.size + 1 + 1 + 1) a b (sn * sg) nu de by rw [hw3]; exact HG2.out.put2 _)
      have HV3 := Lib.hid (show Prod w3 w.heap.size ⟨#[]⟩ ⟨#[]⟩ 0 (.slice none 0 0) (.slice none 0 0) by rw [hw3]; exact (HR.out.2.2.1.step HBr2.out).apart (by omega) _)
      have HN3 := Lib.hid (show IsNat .i64 10 w3 nu (Fr.nI a b 1) (1 + 60 * 1) by rw [hw3]; exact (HR.out.2.2.2.1.below HBr2.out (Nat.le_refl _)).put HR.out.2.2.2.2.2.2.1.1 _)
      have HD3 := Lib.hid (show IsNat .i64 10 w3 de (Fr.dI a b 1) (1 + 60 * 1) by rw [hw3]; exact (HR.out.2.2.2.2.1.below HBr2.out (Nat.le_refl _)).put HR.out.2.2.2.2.2.2.2.1 _)
      have HO := Lib.hid HR.out.2.2.2.2.2.2
      rw [← hw3]
      clear hw3 HR HG2 HB2 HBr2
      have HGd := Lib.hid (HG3.out.step (Below.refl w3.heap.size w3).drew)
      obtain ⟨g0, p0, p1, p2, p3, p4, f0, f1, f2, f3, f4⟩ := HGd.out
      go_region_with (first
        | (go_at_call 131; refine (trim_any _ _).mono ?_; rintro e w4 ⟨rfl, rfl⟩)
        | (go_at_call 130; refine ((CNb _).out).mono ?_; rintro e w4 ⟨r4, rfl, hb4, hn4⟩; have HN4 := Lib.hid hn4; have HB4 := Lib.hid (((Below.refl w3.heap.size w3).drew).trans hb4); have HG4 := HG3.out.step HB4.out; clear hb4 hn4 g0 p0 p1 p2 p3 p4 f0 f1 f2 f3 f4; obtain ⟨g0, p0, p1, p2, p3, p4, f0, f1, f2, f3, f4⟩ := HG4)
        | (go_at_call 129; refine (dTimesN _ _ _ _ _ _ _ (HN3.out.below HB4.out (Nat.le_refl _)) HN4.out (by omega) (by omega)).mono ?_; rintro e w5 ⟨r5, rfl, hb5, hn5, ho5⟩; obtain ⟨ao5, l5, c5, rfl⟩ := isnat_form hn5; have HN5 := Lib.hid hn5; have HO5 := Lib.hid ho5; have HB5 := Lib.hid (below_nx HB4.out hb5); have HG5 := HG3.out.step HB5.out; clear hb5 hn5 ho5 g0 p0 p1 p2 p3 p4 f0 f1 f2 f3 f4; obtain ⟨g0, p0, p1, p2, p3, p4, f0, f1, f2, f3, f4⟩ := HG5))
      all_goals
        clear g0 p0 p1 p2 p3 p4 f0 f1 f2 f3 f4
        obtain ⟨w6, hw6⟩ : ∃ w6, w6 = w5.setCell ⟨w.heap.size + 1 + 1 + 1, 3, none⟩ (.slice ao5 l5 c5) := ⟨_, rfl⟩
        have HB6 := Lib.hid (show Below w.heap.size w w6 by rw [hw6]; exact (below_nx HB3.out HB5.out).setCell (p := ⟨w.heap.size + 1 + 1 + 1, 3, none⟩) (by show w.heap.size ≤ w.heap.size + 1 + 1 + 1; omega) _)
        have HG6 := Lib.hid (show Prod w6 (w.heap.size + 1 + 1 + 1) a b (sn * sg) (.slice ao5 l5 c5) de by rw [hw6]; exact (HG3.out.step HB5.out).put3 _)
        have HV6 := Lib.hid (show Prod w6 w.heap.size ⟨#[]⟩ ⟨#[]⟩ 0 (.slice none 0 0) (.slice none 0 0) by rw [hw6]; exact (HV3.out.step HB5.out).apart (by omega) _)
        have HON := Lib.hid (show NB w (.slice ao5 l5 c5) by
          have z1 := HG3.out.1
          have z2 := HB4.out.size
          unfold NB
          rw [HO5.out]
          refine ⟨fun e => ?_, fun e => ?_, fun g e => ?_⟩
          · have e2 := Option.some.inj e
            omega
          · have e2 := Option.some.inj e
            omega
          · have e2 := Option.some.inj e
            omega)
        have HN6 := Lib.hid (show IsNat .i64 10 w6 (.slice ao5 l5 c5) (Fr.nI a b 1 * Fr.absN b) (1 + 60 * 2) by rw [hw6]; exact (HN5.out.up (by omega)).put HON.out.1 _)
        have HD6 := Lib.hid (show IsNat .i64 10 w6 de (Fr.dI a b 1) (1 + 60 * 1) by rw [hw6]; exact (HD3.out.below HB5.out (Nat.le_refl _)).put HO.out.2.1 _)
        have HOD := Lib.hid HO.out.2
        rw [← hw6]
        clear hw6 HB3 HG3 HV3 HN3 HD3 HO HGd HB4 HB5 HN4 HN5 HO5
        go_wp2_with fail
        have HGd := Lib.hid (HG6.out.step (Below.refl w6.heap.size w6).drew)
        obtain ⟨g0, p0, p1, p2, p3, p4, f0, f1, f2, f3, f4⟩ := HGd.out
        go_region_with (first
          | (go_at_call 130; refine ((CDb _).out).mono ?_; rintro e w7 ⟨r7, rfl, hb7, hn7⟩; have HN7 := Lib.hid hn7; have HB7 := Lib.hid (((Below.refl w6.heap.size w6).drew).trans hb7); have HG7 := HG6.out.step HB7.out; clear hb7 hn7 g0 p0 p1 p2 p3 p4 f0 f1 f2 f3 f4; obtain ⟨g0, p0, p1, p2, p3, p4, f0, f1, f2, f3, f4⟩ := HG7)
          | (go_at_call 129; refine (dTimesN _ _ _ _ _ _ _ (HD6.out.below HB7.out (Nat.le_refl _)) HN7.out (by omega) (by omega)).mono ?_; rintro e w8 ⟨r8, rfl, hb8, hn8, ho8⟩; obtain ⟨ao8, l8, c8, rfl⟩ := isnat_form hn8; have HN8 := Lib.hid hn8; have HO8 := Lib.hid ho8; have HB8 := Lib.hid (below_nx HB7.out hb8); have HG8 := HG6.out.step HB8.out; clear hb8 hn8 ho8 g0 p0 p1 p2 p3 p4 f0 f1 f2 f3 f4; obtain ⟨g0, p0, p1, p2, p3, p4, f0, f1, f2, f3, f4⟩ := HG8))
        all_goals
          clear g0 p0 p1 p2 p3 p4 f0 f1 f2 f3 f4
          obtain ⟨w9, hw9⟩ : ∃ w9, w9 = w8.setCell ⟨w.heap.size + 1 + 1 + 1, 4, none⟩ (.slice ao8 l8 c8) := ⟨_, rfl⟩
          have hOD : NB w (.slice ao8 l8 c8) := by
            have z1 := HG6.out.1
            have z2 := HB7.out.size
            unfold NB
            rw [HO8.out]
            refine ⟨fun e => ?_, fun e => ?_, fun g e => ?_⟩
            · have e2 := Option.some.inj e
              omega
            · have e2 := Option.some.inj e
              omega
            · have e2 := Option.some.inj e
              omega
          have HR9 := Lib.hid (show Below w.heap.size w w9 ∧ Prod w9 (w.heap.size + 1 + 1 + 1) a b (sn * sg) (.slice ao5 l5 c5) (.slice ao8 l8 c8) ∧ Prod w9 w.heap.size ⟨#[]⟩ ⟨#[]⟩ 0 (.slice none 0 0) (.slice none 0 0) ∧ IsNat .i64 10 w9 (.slice ao5 l5 c5) (Fr.nI a b (1 + 1)) (1 + 60 * (1 + 1)) ∧ IsNat .i64 10 w9 (.slice ao8 l8 c8) (Fr.dI a b (1 + 1)) (1 + 60 * (1 + 1)) ∧ sn * sg = Fr.sI a b (1 + 1) ∧ NB w (.slice ao5 l5 c5) ∧ NB w (.slice ao8 l8 c8) by
            rw [hw9]
            refine ⟨(below_nx HB6.out HB8.out).setCell (p := ⟨w.heap.size + 1 + 1 + 1, 4, none⟩) (by show w.heap.size ≤ w.heap.size + 1 + 1 + 1; omega) _, (HG6.out.step HB8.out).put4 _, (HV6.out.step HB8.out).apart (by omega) _, ?_, ?_, HSS.out.symm, HON.out, hOD⟩
            · have h := (HN6.out.below HB8.out (Nat.le_refl _)).put HON.out.1 (.slice ao8 l8 c8) (i := 4)
              rw [show Fr.nI a b 1 * Fr.absN b = Fr.nI a b (1 + 1) from rfl] at h
              exact h
            · have h := (HN8.out.up (show _ ≤ 1 + 60 * (1 + 1) by omega)).put hOD.1 (.slice ao8 l8 c8) (i := 4)
              rw [show Fr.dI a b 1 * Fr.dv (denB b).data.toList = Fr.dI a b (1 + 1) from rfl] at h
              exact h)
          rw [← hw9]
          clear hw9 HB6 HG6 HV6 HON HN6 HD6 HOD HGd HB7 HN7 HB8 HN8 HO8 hOD HSS
          go_wp2
          exact ⟨⟨1 + 1, sn * sg, .slice ao5 l5 c5, .slice ao8 l8 c8, by omega, by first | rfl | go_num, HR9⟩, by simp [intOf]⟩
    · obtain ⟨g0, p0, p1, p2, p3, p4, f0, f1, f2, f3, f4⟩ := HR.out.2.1
      obtain ⟨v0, q0, q1, q2, q3, q4, e0, e1, e2, e3, e4⟩ := HR.out.2.2.1
      obtain ⟨an, ln, cn, rfl⟩ := isnat_form HR.out.2.2.2.1
      obtain ⟨ad, ld, cd, rfl⟩ := isnat_form HR.out.2.2.2.2.1
      have hb5 := ((((HR.out.1.setCell (p := ⟨w.heap.size, 0, none⟩) (Nat.le_refl _) (.string a)).setCell (p := ⟨w.heap.size, 1, none⟩) (Nat.le_refl _) (.string b)).setCell (p := ⟨w.heap.size, 2, none⟩) (Nat.le_refl _) (.int .i64 sn)).setCell (p := ⟨w.heap.size, 3, none⟩) (Nat.le_refl _) (.slice an ln cn)).setCell (p := ⟨w.heap.size, 4, none⟩) (Nat.le_refl _) (.slice ad ld cd)
      have hn5 := ((((HR.out.2.2.2.1.put HR.out.2.2.2.2.2.2.1.2.1 (i := 0) (.string a)).put HR.out.2.2.2.2.2.2.1.2.1 (i := 1) (.string b)).put HR.out.2.2.2.2.2.2.1.2.1 (i := 2) (.int .i64 sn)).put HR.out.2.2.2.2.2.2.1.2.1 (i := 3) (.slice an ln cn)).put HR.out.2.2.2.2.2.2.1.2.1 (i := 4) (.slice ad ld cd)
      have hd5 := ((((HR.out.2.2.2.2.1.put HR.out.2.2.2.2.2.2.2.2.1 (i := 0) (.string a)).put HR.out.2.2.2.2.2.2.2.2.1 (i := 1) (.string b)).put HR.out.2.2.2.2.2.2.2.2.1 (i := 2) (.int .i64 sn)).put HR.out.2.2.2.2.2.2.2.2.1 (i := 3) (.slice an ln cn)).put HR.out.2.2.2.2.2.2.2.2.1 (i := 4) (.slice ad ld cd)
      have HF := Lib.hid (And.intro hb5 (And.intro hn5 (And.intro hd5 (And.intro HR.out.2.2.2.2.2.2.1.2.2 HR.out.2.2.2.2.2.2.2.2.2))))
      have HSG := Lib.hid HR.out.2.2.2.2.2.1
      clear hb5 hn5 hd5 HR CPa CPb CSa CSb CNa CDa CNb CDb SR HNU HDE
      go_wp2
      refine bodyPost_ret (v := .agg #[.string a, .string b, .int .i64 sn, .slice an ln cn, .slice ad ld cd]) (by simp [results, Tryz.results102, go_sem, q0, q1, q2, q3, q4]) rfl ?_
      refine ⟨_, rfl, ⟨_, _, by rw [HSG.out]; rfl, HF.out.2.1.up (by omega), HF.out.2.2.1.up (by omega), HF.out.2.2.2.1, HF.out.2.2.2.2⟩, HF.out.1⟩
end Go.Proofs.YtldclpdmcopgnaaGreatDoor
