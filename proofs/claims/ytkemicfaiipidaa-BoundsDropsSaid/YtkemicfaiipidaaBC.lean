/- picked and Shift of package bounds. -/
import Derived.Test.YtkemicfaiipidaaBA
namespace Bn
/-- The index of the time that comes to a place, when time i comes to the first one. -/
def shf (i x : Nat) : Nat := if x = 0 then i else if x < i then x else x + 1
def shN (i j : Nat) : Nat := if j < i then j + 1 else j
def shL (i j : Nat) : List Int := (List.range (shN i j)).map fun x => ((shf i x : Nat) : Int)
theorem shL_len (i j : Nat) : (shL i j).length = shN i j := by simp [shL]
theorem shL_zero {i : Nat} (h : 1 ≤ i) : shL i 0 = [(i : Int)] := by
  unfold shL shN
  rw [if_pos (by omega)]
  rfl
theorem shL_same {i j : Nat} (h : j + 1 = i) : shL i (j + 1) = shL i j := by
  unfold shL shN
  rw [if_neg (by omega), if_pos (by omega)]
theorem shL_more {i j : Nat} (h1 : 1 ≤ i) (h : j + 1 ≠ i) : shL i (j + 1) = shL i j ++ [((j + 1 : Nat) : Int)] := by
  have e : shN i (j + 1) = shN i j + 1 := by unfold shN; split <;> split <;> omega
  unfold shL
  rw [e, List.range_succ, List.map_append]
  congr 1
  simp only [List.map_cons, List.map_nil]
  congr 2
  unfold shf shN
  split <;> split <;> (try split) <;> omega
theorem shL_at {i j x : Nat} (h : x < shN i j) : (shL i j).getD x 0 = ((shf i x : Nat) : Int) := by simp [shL, h]
def shM (n : Int) (R : List (List Int)) (i : Nat) : Mx := fun x y => cl n R (shf i x) (shf i y)
def shiV (n : Int) (R : List (List Int)) (i : Int) : Int × List (List Int) × Int := if cwE n R 1 [i] = 0 then Go.Proofs.Ytkemicfaiipidaa.Bn.bV (n.toNat - 1) (shM n R i.toNat) else (0, [], cwE n R 1 [i])
theorem shf_le {i n x : Nat} (hi : i ≤ n) (hx : x ≤ n - 1) (h1 : 1 ≤ i) : shf i x ≤ n := by unfold shf; split <;> (try split) <;> omega
end Bn
namespace Go.Proofs.Ytkemicfaiipidaa
open Go.RowKit

set_option maxHeartbeats 4000000 in
set_option maxRecDepth 100000 in
theorem bPick1_any (i j mb ib pb g p : Nat) (n k : Int) (K : Nat) (u q : Bn.Mx) (f : Nat → Nat) (l : List Int) (v : Value) (W : World) (hi : i ≤ K) (hj : j ≤ K) (hK : K ≤ 12) (hU : MtxI W g n u) (hP : MtxI W p k q) (hm : BoxV W mb (.pointer (some ⟨g, 0, none⟩))) (hpb : BoxV W pb (.pointer (some ⟨p, 0, none⟩))) (hib : BoxV W ib v) (hl : SeesI W v l) (hll : l.length = K + 1) (hf : ∀ x, x ≤ K → l.getD x 0 = (f x : Int)) (hf2 : ∀ x, x ≤ K → f x < 13) :
    Calls Try.prog 76 #[.int .i64 i, .int .i64 j, .pointer (some ⟨mb, 0, none⟩), .pointer (some ⟨ib, 0, none⟩), .pointer (some ⟨pb, 0, none⟩)] W fun e w' => e = .returned (.tuple #[]) ∧ W.grownBy w' (some p) ∧ MtxI w' p k (Bn.up q i j (u (f i) (f j))) := by
  have HP := Lib.hid hP
  obtain ⟨ao, cap, rfl, h1, h2, hC⟩ := hl.opened
  obtain ⟨b, off, rfl, hb, c0⟩ := hC (by omega)
  have c1 := c0 i (by omega)
  have c2 := c0 j (by omega)
  rw [hf i hi] at c1
  rw [hf j hj] at c2
  have f1 := hf2 i hi
  have f2 := hf2 j hj
  obtain ⟨p0, p1, p2⟩ := hP
  obtain ⟨p3, p4⟩ := p2 i j (by omega) (by omega)
  obtain ⟨u0, u1, u2⟩ := hU
  obtain ⟨u3, u4⟩ := u2 (f i) (f j) f1 f2
  obtain ⟨v0, v1⟩ := hm
  obtain ⟨v2, v3⟩ := hpb
  obtain ⟨v4, v5⟩ := hib
  have zi : (i : Int) < 13 := by omega
  have zj : (j : Int) < 13 := by omega
  have hi13 : i < 13 := by omega
  have hj13 : j < 13 := by omega
  rw [hll] at v5 h1
  have hiK : i < K + 1 := by omega
  have hjK : j < K + 1 := by omega
  clear p2 u2 hl hC c0 hf hf2 hll
  generalize u (f i) (f j) = x at *
  generalize f i = a at *
  generalize f j = c at *
  go_enter Try.func76, Try.ntmps76
  go_wp2
  go_region
  go_end0
  exact ⟨rfl, grown_drew (grown_set (grown_refl _ _)), HP.out.put hi13 hj13 x⟩

set_option maxHeartbeats 4000000 in
set_option maxRecDepth 100000 in
theorem bPick_any (g K : Nat) (n : Int) (u : Bn.Mx) (f : Nat → Nat) (l : List Int) (v : Value) (w : World) (hK : K ≤ 12) (hU : MtxI w g n u) (hl : SeesI w v l) (hll : l.length = K + 1) (hf : ∀ x, x ≤ K → l.getD x 0 = (f x : Int)) (hf2 : ∀ x, x ≤ K → f x < 13) :
    Calls Try.prog 62 #[.pointer (some ⟨g, 0, none⟩), v] w fun e w' => ∃ p q, e = .returned (.pointer (some ⟨p, 0, none⟩)) ∧ w.heap.size ≤ p ∧ MtxI w' p (K : Int) q ∧ (∀ x y, x ≤ K → y ≤ K → q x y = u (f x) (f y)) ∧ Below w.heap.size w w' := by
  have hv : ∃ ao cap, v = .slice ao (K + 1) cap := by
    obtain ⟨ao, cap, rfl, _⟩ := hl.opened
    exact ⟨ao, cap, by rw [hll]⟩
  obtain ⟨ao, cap, rfl⟩ := hv
  have HX : ∃ X, X = ((((w.alloc (.cells #[.pointer (some ⟨g, 0, none⟩)] 62)).alloc (.cells #[.slice ao (K + 1) cap] 42)).alloc (.cells (Try.zeroCells77.setIfInBounds 0 (.int .i64 (K : Int))) 77)).alloc (.cells #[.pointer (some ⟨w.heap.size + 1 + 1, 0, none⟩)] 62)) ∧
      Hid (MtxI X g n u ∧ BoxV X w.heap.size (.pointer (some ⟨g, 0, none⟩)) ∧ BoxV X (w.heap.size + 1) (.slice ao (K + 1) cap) ∧ MtxI X (w.heap.size + 1 + 1) K Bn.zer ∧ BoxV X (w.heap.size + 1 + 1 + 1) (.pointer (some ⟨w.heap.size + 1 + 1, 0, none⟩)) ∧ Below w.heap.size w X) := by
    refine ⟨_, rfl, Lib.hid ?_⟩
    have V := boxV_new w (.pointer (some ⟨g, 0, none⟩)) 62
    have L0 : Below w.heap.size w (w.alloc (.cells #[.pointer (some ⟨g, 0, none⟩)] 62)) := (Below.refl _ _).alloc (Nat.le_refl _) _
    have U0 := hU.step L0
    have e0 : (w.alloc (.cells #[.pointer (some ⟨g, 0, none⟩)] 62)).heap.size = w.heap.size + 1 := by simp
    generalize w.alloc (.cells #[.pointer (some ⟨g, 0, none⟩)] 62) = Y0 at *
    have I1 := boxV_new Y0 (.slice ao (K + 1) cap) 42
    have L1 : Below Y0.heap.size Y0 (Y0.alloc (.cells #[.slice ao (K + 1) cap] 42)) := (Below.refl _ _).alloc (Nat.le_refl _) _
    have e1 : (Y0.alloc (.cells #[.slice ao (K + 1) cap] 42)).heap.size = w.heap.size + 1 + 1 := by simp [e0]
    rw [e0] at I1
    have V1 := V.step L1
    have U1 := U0.step L1
    have L01 := below_nxt L0 L1
    generalize Y0.alloc (.cells #[.slice ao (K + 1) cap] 42) = Y1 at *
    have M2 := mtx_new Y1 K 77
    have L2 : Below Y1.heap.size Y1 (Y1.alloc (.cells (Try.zeroCells77.setIfInBounds 0 (.int .i64 (K : Int))) 77)) := (Below.refl _ _).alloc (Nat.le_refl _) _
    have e2 : (Y1.alloc (.cells (Try.zeroCells77.setIfInBounds 0 (.int .i64 (K : Int))) 77)).heap.size = w.heap.size + 1 + 1 + 1 := by simp [e1]
    rw [e1] at M2
    have V2 := V1.step L2
    have U2 := U1.step L2
    have I2 := I1.step L2
    have L02 := below_nxt L01 L2
    generalize Y1.alloc (.cells (Try.zeroCells77.setIfInBounds 0 (.int .i64 (K : Int))) 77) = Y2 at *
    have P3 := boxV_new Y2 (.pointer (some ⟨w.heap.size + 1 + 1, 0, none⟩)) 62
    have L3 : Below Y2.heap.size Y2 (Y2.alloc (.cells #[.pointer (some ⟨w.heap.size + 1 + 1, 0, none⟩)] 62)) := (Below.refl _ _).alloc (Nat.le_refl _) _
    rw [e2] at P3
    exact ⟨U2.step L3, V2.step L3, I2.step L3, M2.step L3, P3, below_nxt L02 L3⟩
  obtain ⟨X, hX, HX⟩ := HX
  have hgl := hU.1
  have hsl : ∀ W, Below w.heap.size w W → SeesI W (.slice ao (K + 1) cap) l := fun W h => hl.step h
  have CE := fun (_ : True) => Lib.hid (show Calls Try.prog 45 #[.pointer (some ⟨w.heap.size + 1 + 1, 0, none⟩), .func (.func 76) #[] #[.pointer (some ⟨w.heap.size, 0, none⟩), .pointer (some ⟨w.heap.size + 1, 0, none⟩), .pointer (some ⟨w.heap.size + 1 + 1 + 1, 0, none⟩)]] X fun e w' => e = .returned (.tuple #[]) ∧ (∃ q, MtxI w' (w.heap.size + 1 + 1) K q ∧ ∀ x y, x ≤ K → y ≤ K → q x y = u (f x) (f y)) ∧ BoxV w' (w.heap.size + 1 + 1 + 1) (.pointer (some ⟨w.heap.size + 1 + 1, 0, none⟩)) ∧ Below w.heap.size w w' by
    obtain ⟨a1, a2, a3, a4, a5, a6⟩ := HX.out
    refine (each_picked _ _ _ (w.heap.size + 1 + 1) K (fun i j W => MtxI W g n u ∧ BoxV W w.heap.size (.pointer (some ⟨g, 0, none⟩)) ∧ BoxV W (w.heap.size + 1) (.slice ao (K + 1) cap) ∧ (∃ q, MtxI W (w.heap.size + 1 + 1) K q ∧ ∀ x y, x ≤ K → y ≤ K → q x y = Bn.fil (fun x y => u (f x) (f y)) Bn.zer i j x y) ∧ BoxV W (w.heap.size + 1 + 1 + 1) (.pointer (some ⟨w.heap.size + 1 + 1, 0, none⟩)) ∧ Below w.heap.size w W) X hK
      ⟨a1, a2, a3, ⟨_, a4, fun a b _ _ => (Bn.fil_zero _ _ a b).symm⟩, a5, a6⟩ (fun i j W h => by obtain ⟨-, -, -, ⟨q, h1, -⟩, -⟩ := h; exact h1.2.1) ?_ ?_).mono ?_
    · rintro i j W hi hj ⟨b1, b2, b3, ⟨q, b4, b7⟩, b5, b6⟩
      refine (bPick1_any i j w.heap.size (w.heap.size + 1) (w.heap.size + 1 + 1 + 1) g (w.heap.size + 1 + 1) n K K u _ f l _ W hi hj hK b1 b4 b2 b5 b3 (hsl W b6) hll hf hf2).mono ?_
      rintro e w1 ⟨rfl, hg, hm⟩
      exact ⟨rfl, b1.grown hg (by omega), b2.grown hg (by omega), b3.grown hg (by omega), ⟨_, hm, fun x y hx hy => by rw [← Bn.fil_next (fun x y => u (f x) (f y))]; unfold Bn.up; split <;> first | rfl | exact b7 x y hx hy⟩, b5.grown hg (by omega), b6.trans (below_grown hg b6.size (by omega))⟩
    · rintro i W hi ⟨b1, b2, b3, ⟨q, b4, b7⟩, b5, b6⟩
      exact ⟨b1, b2, b3, ⟨q, b4, fun x y hx hy => by rw [b7 x y hx hy]; exact Bn.fil_rowN' hy⟩, b5, b6⟩
    · rintro e w1 ⟨rfl, b1, b2, b3, ⟨q, b4, b7⟩, b5, b6⟩
      exact ⟨rfl, ⟨q, b4, fun x y hx hy => by rw [b7 x y hx hy]; exact Bn.fil_endN' hx⟩, b5, b6⟩)
  go_enter Try.func62, Try.ntmps62
  go_wp2_with fail
  rw [← hX]
  clear hX
  refine ((CE trivial).out).mono ?_
  rintro e w1 ⟨rfl, ⟨q, h1, h2⟩, ⟨v0, v1⟩, h4⟩
  have H1 := Lib.hid h1
  have H2 := Lib.hid h2
  have H4 := Lib.hid h4
  clear h1 h2 h4
  go_wp2
  go_ret
  exact ⟨_, q, rfl, by omega, H1.out, H2.out, H4.out⟩
end Go.Proofs.Ytkemicfaiipidaa

