/- What package truth and its reference return, in the same words. -/
import Derived.Test.YtmmcakeedejbnaaDoorUm
namespace Tt
def notV (n : Int) (b : Nat) : (Int × Nat) × Int := if chk n b = 0 then ((n, full n.toNat &&& (18446744073709551615 - b)), 0) else ((0, 0), chk n b)
def andV (n : Int) (b : Nat) (m : Int) (c : Nat) : (Int × Nat) × Int := if giv n b m c = 0 then ((n, b &&& c), 0) else ((0, 0), giv n b m c)
def orV (n : Int) (b : Nat) (m : Int) (c : Nat) : (Int × Nat) × Int := if giv n b m c = 0 then ((n, b ||| c), 0) else ((0, 0), giv n b m c)
def xorV (n : Int) (b : Nat) (m : Int) (c : Nat) : (Int × Nat) × Int := if giv n b m c = 0 then ((n, b ^^^ c), 0) else ((0, 0), giv n b m c)
end Tt
namespace Go.Proofs.YtmmcakeedejbnaaDoor
open Go.RowKit Go.Shelf

def cofV (n : Int) (b : Nat) (i : Int) (v : Bool) : (Int × Nat) × Int := if chkv n b i = 0 then ((n, Tt.cof b i.toNat v), 0) else ((0, 0), chkv n b i)
def unaV (n : Int) (b : Nat) (i : Int) : (Bool × Bool) × Int := if chkv n b i = 0 then ((Tt.under (Tt.lo b i.toNat) (Tt.hi b i.toNat), Tt.under (Tt.hi b i.toNat) (Tt.lo b i.toNat)), 0) else ((false, false), chkv n b i)
def depL (n : Int) (b : Nat) : List Nat := if Tt.chk n b = 0 then Tt.pts (fun i => Tt.lo b i != Tt.hi b i) n.toNat else []
/-- The library's variables. -/
structure St (W : World) : Prop where
  tz : TzTab W
  col : ColTab W
  h1 : 1 < W.heap.size
  h2 : 0 < W.heap.size
theorem St.next {w W : World} (h : St w) (hb : Below w.heap.size w W) : St W :=
  ⟨tzTab_below h.tz hb h.h1, colTab_below h.col hb h.h2, Nat.lt_of_lt_of_le h.h1 hb.size, Nat.lt_of_lt_of_le h.h2 hb.size⟩
theorem chk_nat {n : Int} {b : Nat} (h : Tt.chk n b = 0) : ∃ m : Nat, n = m ∧ m ≤ 6 ∧ b < 2 ^ 2 ^ m := by
  obtain ⟨h0, h6, hb⟩ := Tt.chk_zero.1 h
  obtain ⟨m, rfl⟩ := Int.eq_ofNat_of_zero_le h0
  exact ⟨m, rfl, by omega, by simpa using hb⟩
theorem tNot_any (n : Int) (b : Nat) (w : World) (hb : b < 2 ^ 64) : Calls Tryd.prog 23 #[.agg #[.int .i64 n, .int .u64 b]] w fun e w' => e = .returned (.tuple #[.agg #[.int .i64 (Tt.notV n b).1.1, .int .u64 ((Tt.notV n b).1.2 : Nat)], .int .i64 (Tt.notV n b).2]) ∧ Below w.heap.size w w' := by
  unfold Tt.notV
  by_cases h : Tt.chk n b = 0
  · obtain ⟨m, rfl, hm, hb2⟩ := chk_nat h
    rw [if_pos h]
    exact tNot_ok m b w hm (Tt.w64 hm hb2) h
  · rw [if_neg h]
    exact tNot_bad n b w hb h
theorem tAnd_any (n : Int) (b : Nat) (m : Int) (c : Nat) (w : World) (hb : b < 2 ^ 64) (hc : c < 2 ^ 64) : Calls Tryd.prog 25 #[.agg #[.int .i64 n, .int .u64 b], .agg #[.int .i64 m, .int .u64 c]] w fun e w' => e = .returned (.tuple #[.agg #[.int .i64 (Tt.andV n b m c).1.1, .int .u64 ((Tt.andV n b m c).1.2 : Nat)], .int .i64 (Tt.andV n b m c).2]) ∧ Below w.heap.size w w' := by
  unfold Tt.andV
  by_cases h : Tt.giv n b m c = 0
  · obtain ⟨g1, g2, rfl⟩ := Tt.giv_zero.1 h
    obtain ⟨k, rfl, hm, hb2⟩ := chk_nat g1
    rw [if_pos h]
    exact tAnd_ok k b c w hb hc g1 g2
  · rw [if_neg h]
    exact tAnd_bad n b m c w hb hc h
theorem tOr_any (n : Int) (b : Nat) (m : Int) (c : Nat) (w : World) (hb : b < 2 ^ 64) (hc : c < 2 ^ 64) : Calls Tryd.prog 27 #[.agg #[.int .i64 n, .int .u64 b], .agg #[.int .i64 m, .int .u64 c]] w fun e w' => e = .returned (.tuple #[.agg #[.int .i64 (Tt.orV n b m c).1.1, .int .u64 ((Tt.orV n b m c).1.2 : Nat)], .int .i64 (Tt.orV n b m c).2]) ∧ Below w.heap.size w w' := by
  unfold Tt.orV
  by_cases h : Tt.giv n b m c = 0
  · obtain ⟨g1, g2, rfl⟩ := Tt.giv_zero.1 h
    obtain ⟨k, rfl, hm, hb2⟩ := chk_nat g1
    rw [if_pos h]
    exact tOr_ok k b c w hb hc g1 g2
  · rw [if_neg h]
    exact tOr_bad n b m c w hb hc h
theorem tXor_any (n : Int) (b : Nat) (m : Int) (c : Nat) (w : World) (hb : b < 2 ^ 64) (hc : c < 2 ^ 64) : Calls Tryd.prog 29 #[.agg #[.int .i64 n, .int .u64 b], .agg #[.int .i64 m, .int .u64 c]] w fun e w' => e = .returned (.tuple #[.agg #[.int .i64 (Tt.xorV n b m c).1.1, .int .u64 ((Tt.xorV n b m c).1.2 : Nat)], .int .i64 (Tt.xorV n b m c).2]) ∧ Below w.heap.size w w' := by
  unfold Tt.xorV
  by_cases h : Tt.giv n b m c = 0
  · obtain ⟨g1, g2, rfl⟩ := Tt.giv_zero.1 h
    obtain ⟨k, rfl, hm, hb2⟩ := chk_nat g1
    rw [if_pos h]
    exact tXor_ok k b c w hb hc g1 g2
  · rw [if_neg h]
    exact tXor_bad n b m c w hb hc h
theorem tCofactor_any (n : Int) (b : Nat) (i : Int) (v : Bool) (w : World) (hb : b < 2 ^ 64) (hst : St w) : Calls Tryd.prog 31 #[.agg #[.int .i64 n, .int .u64 b], .int .i64 i, .bool v] w fun e w' => e = .returned (.tuple #[.agg #[.int .i64 (cofV n b i v).1.1, .int .u64 ((cofV n b i v).1.2 : Nat)], .int .i64 (cofV n b i v).2]) ∧ Below w.heap.size w w' := by
  unfold cofV
  by_cases h : chkv n b i = 0
  · obtain ⟨g1, g2, g3⟩ := chkv_zero.1 h
    obtain ⟨k, rfl, hm, hb2⟩ := chk_nat g1
    obtain ⟨j, rfl⟩ := Int.eq_ofNat_of_zero_le g2
    rw [if_pos h]
    exact tCofactor_ok k b j v w hm hb2 (by omega) hst.col hst.h2
  · rw [if_neg h]
    exact tCofactor_bad n b i v w hb h
theorem tUnate_any (n : Int) (b : Nat) (i : Int) (w : World) (hb : b < 2 ^ 64) (hst : St w) : Calls Tryd.prog 35 #[.agg #[.int .i64 n, .int .u64 b], .int .i64 i] w fun e w' => e = .returned (.tuple #[.bool (unaV n b i).1.1, .bool (unaV n b i).1.2, .int .i64 (unaV n b i).2]) ∧ Below w.heap.size w w' := by
  unfold unaV
  by_cases h : chkv n b i = 0
  · obtain ⟨g1, g2, g3⟩ := chkv_zero.1 h
    obtain ⟨k, rfl, hm, hb2⟩ := chk_nat g1
    obtain ⟨j, rfl⟩ := Int.eq_ofNat_of_zero_le g2
    rw [if_pos h]
    exact tUnate_ok k b j w hm hb2 (by omega) hst.col hst.h2
  · rw [if_neg h]
    exact tUnate_bad n b i w hb h
theorem tDepends_any (n : Int) (b : Nat) (w : World) (hb : b < 2 ^ 64) (hst : St w) : Calls Tryd.prog 33 #[.agg #[.int .i64 n, .int .u64 b]] w fun e w' => ∃ v, e = .returned (.tuple #[v, .int .i64 (Tt.chk n b)]) ∧ Sees .i64 w' v (depL n b) ∧ Below w.heap.size w w' := by
  unfold depL
  by_cases h : Tt.chk n b = 0
  · obtain ⟨k, rfl, hm, hb2⟩ := chk_nat h
    rw [if_pos h, h]
    exact (tDepends_ok k b w hm hb2 hst.col hst.h2).mono fun e w' ⟨v, h1, h2, h3⟩ => ⟨v, h1, h2.sees, h3⟩
  · rw [if_neg h]
    exact (tDepends_bad n b w hb h).mono fun e w' ⟨h1, h2⟩ => ⟨_, h1, .inl ⟨rfl, rfl⟩, h2⟩
theorem rNot_any (n : Int) (b : Nat) (w : World) (hb : b < 2 ^ 64) : Calls Tryd.prog 24 #[.agg #[.int .i64 n, .int .u64 b]] w fun e w' => e = .returned (.tuple #[.agg #[.int .i64 (Tt.notV n b).1.1, .int .u64 ((Tt.notV n b).1.2 : Nat)], .int .i64 (Tt.notV n b).2]) ∧ Below w.heap.size w w' := by
  unfold Tt.notV
  by_cases h : Tt.chk n b = 0
  · obtain ⟨m, rfl, hm, hb2⟩ := chk_nat h
    rw [if_pos h]
    exact rNot_ok m b w hm hb2
  · rw [if_neg h]
    exact rNot_bad n b w hb h
theorem rAnd_any (n : Int) (b : Nat) (m : Int) (c : Nat) (w : World) (hb : b < 2 ^ 64) (hc : c < 2 ^ 64) : Calls Tryd.prog 26 #[.agg #[.int .i64 n, .int .u64 b], .agg #[.int .i64 m, .int .u64 c]] w fun e w' => e = .returned (.tuple #[.agg #[.int .i64 (Tt.andV n b m c).1.1, .int .u64 ((Tt.andV n b m c).1.2 : Nat)], .int .i64 (Tt.andV n b m c).2]) ∧ Below w.heap.size w w' := by
  unfold Tt.andV
  by_cases h : Tt.giv n b m c = 0
  · obtain ⟨g1, g2, rfl⟩ := Tt.giv_zero.1 h
    obtain ⟨k, rfl, hm, hb2⟩ := chk_nat g1
    rw [if_pos h]
    have hc2 : c < 2 ^ 2 ^ k := by simpa using (Tt.chk_zero.1 g2).2.2
    exact rAnd_ok k b c w hm hb2 hc2
  · rw [if_neg h]
    exact rAnd_bad n b m c w hb hc h
theorem rOr_any (n : Int) (b : Nat) (m : Int) (c : Nat) (w : World) (hb : b < 2 ^ 64) (hc : c < 2 ^ 64) : Calls Tryd.prog 28 #[.agg #[.int .i64 n, .int .u64 b], .agg #[.int .i64 m, .int .u64 c]] w fun e w' => e = .returned (.tuple #[.agg #[.int .i64 (Tt.orV n b m c).1.1, .int .u64 ((Tt.orV n b m c).1.2 : Nat)], .int .i64 (Tt.orV n b m c).2]) ∧ Below w.heap.size w w' := by
  unfold Tt.orV
  by_cases h : Tt.giv n b m c = 0
  · obtain ⟨g1, g2, rfl⟩ := Tt.giv_zero.1 h
    obtain ⟨k, rfl, hm, hb2⟩ := chk_nat g1
    rw [if_pos h]
    have hc2 : c < 2 ^ 2 ^ k := by simpa using (Tt.chk_zero.1 g2).2.2
    exact rOr_ok k b c w hm hb2 hc2
  · rw [if_neg h]
    exact rOr_bad n b m c w hb hc h
theorem rXor_any (n : Int) (b : Nat) (m : Int) (c : Nat) (w : World) (hb : b < 2 ^ 64) (hc : c < 2 ^ 64) : Calls Tryd.prog 30 #[.agg #[.int .i64 n, .int .u64 b], .agg #[.int .i64 m, .int .u64 c]] w fun e w' => e = .returned (.tuple #[.agg #[.int .i64 (Tt.xorV n b m c).1.1, .int .u64 ((Tt.xorV n b m c).1.2 : Nat)], .int .i64 (Tt.xorV n b m c).2]) ∧ Below w.heap.size w w' := by
  unfold Tt.xorV
  by_cases h : Tt.giv n b m c = 0
  · obtain ⟨g1, g2, rfl⟩ := Tt.giv_zero.1 h
    obtain ⟨k, rfl, hm, hb2⟩ := chk_nat g1
    rw [if_pos h]
    have hc2 : c < 2 ^ 2 ^ k := by simpa using (Tt.chk_zero.1 g2).2.2
    exact rXor_fine k b c w hm hb2 hc2
  · rw [if_neg h]
    exact rXor_bad n b m c w hb hc h
theorem rCofactor_any (n : Int) (b : Nat) (i : Int) (v : Bool) (w : World) (hb : b < 2 ^ 64) : Calls Tryd.prog 32 #[.agg #[.int .i64 n, .int .u64 b], .int .i64 i, .bool v] w fun e w' => e = .returned (.tuple #[.agg #[.int .i64 (cofV n b i v).1.1, .int .u64 ((cofV n b i v).1.2 : Nat)], .int .i64 (cofV n b i v).2]) ∧ Below w.heap.size w w' := by
  unfold cofV
  by_cases h : chkv n b i = 0
  · obtain ⟨g1, g2, g3⟩ := chkv_zero.1 h
    obtain ⟨k, rfl, hm, hb2⟩ := chk_nat g1
    obtain ⟨j, rfl⟩ := Int.eq_ofNat_of_zero_le g2
    rw [if_pos h]
    exact rCofactor_ok k b j v w hm hb2 (by omega)
  · rw [if_neg h]
    exact rCofactor_bad n b i v w hb h
theorem rUnate_any (n : Int) (b : Nat) (i : Int) (w : World) (hb : b < 2 ^ 64) : Calls Tryd.prog 36 #[.agg #[.int .i64 n, .int .u64 b], .int .i64 i] w fun e w' => e = .returned (.tuple #[.bool (unaV n b i).1.1, .bool (unaV n b i).1.2, .int .i64 (unaV n b i).2]) ∧ Below w.heap.size w w' := by
  unfold unaV
  by_cases h : chkv n b i = 0
  · obtain ⟨g1, g2, g3⟩ := chkv_zero.1 h
    obtain ⟨k, rfl, hm, hb2⟩ := chk_nat g1
    obtain ⟨j, rfl⟩ := Int.eq_ofNat_of_zero_le g2
    rw [if_pos h]
    have h1 := Tt.ris_under true hm (show j < k by omega) hb2
    have h2 := Tt.ris_under false hm (show j < k by omega) hb2
    have h3 := rUnate_ok k b j w hm hb2 (by omega)
    rw [h1, h2] at h3
    exact h3
  · rw [if_neg h]
    exact rUnate_bad n b i w hb h
theorem rDepends_any (n : Int) (b : Nat) (w : World) (hb : b < 2 ^ 64) : Calls Tryd.prog 34 #[.agg #[.int .i64 n, .int .u64 b]] w fun e w' => ∃ v, e = .returned (.tuple #[v, .int .i64 (Tt.chk n b)]) ∧ Sees .i64 w' v (depL n b) ∧ Below w.heap.size w w' := by
  unfold depL
  by_cases h : Tt.chk n b = 0
  · obtain ⟨k, rfl, hm, hb2⟩ := chk_nat h
    rw [if_pos h, h]
    exact (rDepends_ok k b w hm hb2).mono fun e w' ⟨v, h1, h2, h3⟩ => ⟨v, h1, h2.sees, h3⟩
  · rw [if_neg h]
    exact (rDepends_bad n b w hb h).mono fun e w' ⟨h1, h2⟩ => ⟨_, h1, .inl ⟨rfl, rfl⟩, h2⟩

/-- slices.Equal of slices that read as one list. -/
theorem sEqual_any (v u : Value) (l : List Nat) (w : World) (hl : l.length ≤ 1048576) (h1 : Sees .i64 w v l) (h2 : Sees .i64 w u l) : Calls Tryd.prog 21 #[v, u] w fun e w' => e = .returned (.bool true) ∧ ∃ q, w' = w.drewN q := by
  rcases Nat.eq_zero_or_pos l.length with h0 | hp
  · obtain rfl := List.eq_nil_of_length_eq_zero h0
    obtain ⟨a1, c1, rfl, _, _⟩ := h1.form
    obtain ⟨a2, c2, rfl, _, _⟩ := h2.form
    refine (Tryd.slices_Equal_int_empty a1 a2 c1 0 c2 w (by omega)).mono ?_
    rintro e w' ⟨rfl, rfl⟩
    exact ⟨by simp, 0, rfl⟩
  · obtain ⟨b1, o1, c1, rfl, _, _, _, k1⟩ := h1.pos hp
    obtain ⟨b2, o2, c2, rfl, _, _, _, k2⟩ := h2.pos hp
    have e1 : ∀ j, (l.map (fun n : Nat => (n : Int))).getD j 0 = ((l.getD j 0 : Nat) : Int) := by
      intro j
      simp only [List.getD_eq_getElem?_getD, List.getElem?_map]
      cases l[j]? <;> simp
    refine (Tryd.slices_Equal_int b1 o1 l.length c1 b2 o2 l.length c2 (l.map fun n : Nat => (n : Int)) (l.map fun n : Nat => (n : Int)) w (by simp) (by simp) (by omega) (by omega) (fun j hj => by rw [e1]; exact k1 j (by simpa using hj)) (fun j hj => by rw [e1]; exact k2 j (by simpa using hj))).mono ?_
    rintro e w' ⟨rfl, h⟩
    exact ⟨by simp, h⟩
theorem depL_len (n : Int) (b : Nat) : (depL n b).length ≤ 6 := by
  unfold depL
  by_cases h : Tt.chk n b = 0
  · obtain ⟨k, rfl, hm, hb2⟩ := chk_nat h
    rw [if_pos h]
    exact Nat.le_trans (Tt.pts_len _ _) (by simpa using hm)
  · rw [if_neg h]; simp
theorem TabI.step {w w' : World} {g : Nat} {x : Int} {y : Nat} (h : TabI w g x y) (hb : Below w.heap.size w w') : TabI w' g x y := h.below h.1 hb
theorem TabI.box {w w' : World} {g : Nat} {x : Int} {y : Nat} {o : Obj} (h : TabI w g x y) (hb : Below (w.alloc o).heap.size (w.alloc o) w') : TabI w' g x y :=
  (h.below h.1 ((Below.refl _ _).alloc (Nat.le_refl _) o)).below (by simp; have := h.1; omega) hb
theorem tabI_box {w w' : World} {x : Int} {y : Nat} {T : TypeId} (hb : Below (w.alloc (.cells #[.int .i64 x, .int .u64 y] T)).heap.size (w.alloc (.cells #[.int .i64 x, .int .u64 y] T)) w') : TabI w' w.heap.size x y :=
  (tabI_new w x y T).below (by simp) hb
theorem below_nxt {w0 w w' : World} (h : Below w0.heap.size w0 w) (hb : Below w.heap.size w w') : Below w0.heap.size w0 w' := h.trans (hb.mono h.size)
theorem below_nxtb {w0 w w' : World} {o : Obj} (h : Below w0.heap.size w0 w) (hb : Below (w.alloc o).heap.size (w.alloc o) w') : Below w0.heap.size w0 w' :=
  (h.alloc h.size o).trans (hb.mono (by have := h.size; simp; omega))

end Go.Proofs.YtmmcakeedejbnaaDoor
