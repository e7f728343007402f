/- The contracts of fold and Sum of package timespan. -/
import Derived.Test.YtgblodnggeabjabDoorTv
namespace Tm
def sumL (f : Int × Int → Int) : List (Int × Int) → Int
  | [] => 0
  | a :: r => f a + sumL f r
theorem sumL_app (f : Int × Int → Int) : ∀ a b : List (Int × Int), sumL f (a ++ b) = sumL f a + sumL f b
  | [], b => by simp [sumL]
  | x :: a, b => by simp only [List.cons_append, sumL, sumL_app f a b]; omega
theorem sumL_step (f : Int × Int → Int) {xs : List (Int × Int)} {j : Nat} (hj : j < xs.length) : sumL f (xs.take (j + 1)) = sumL f (xs.take j) + f (xs.getD j (0, 0)) := by
  have e : xs.getD j (0, 0) = xs[j] := by simp [hj]
  rw [List.take_succ_eq_append_getElem hj, sumL_app, e]
  simp [sumL]
theorem sumL_nonneg (f : Int × Int → Int) : ∀ xs : List (Int × Int), (∀ a ∈ xs, 0 ≤ f a) → 0 ≤ sumL f xs
  | [], _ => by simp [sumL]
  | x :: r, h => by
    have h1 := h x (by simp)
    have h2 := sumL_nonneg f r (fun a ha => h a (by simp [ha]))
    simp only [sumL]; omega
theorem sumL_mono (f g : Int × Int → Int) : ∀ xs : List (Int × Int), (∀ a ∈ xs, f a ≤ g a) → sumL f xs ≤ sumL g xs
  | [], _ => by simp [sumL]
  | x :: r, h => by
    have h1 := h x (by simp)
    have h2 := sumL_mono f g r (fun a ha => h a (by simp [ha]))
    simp only [sumL]; omega
theorem sumL_top (f : Int × Int → Int) : ∀ xs : List (Int × Int), (∀ a ∈ xs, f a ≤ 1000000) → sumL f xs ≤ xs.length * 1000000
  | [], _ => by simp [sumL]
  | x :: r, h => by
    have h1 := h x (by simp)
    have h2 := sumL_top f r (fun a ha => h a (by simp [ha]))
    simp only [sumL, List.length_cons]; omega
theorem sumL_take (f : Int × Int → Int) (xs : List (Int × Int)) (h : ∀ a ∈ xs, 0 ≤ f a) (j : Nat) : sumL f (xs.take j) ≤ sumL f xs := by
  have h1 := sumL_app f (xs.take j) (xs.drop j)
  rw [List.take_append_drop] at h1
  have h2 := sumL_nonneg f (xs.drop j) (fun a ha => h a (List.mem_of_mem_drop ha))
  omega
theorem firstE_zero : ∀ {xs : List (Int × Int)}, firstE xs = 0 → ∀ a ∈ xs, chk a.1 a.2 = 0
  | [], _, a, ha => by cases ha
  | x :: r, h, a, ha => by
    unfold firstE at h
    by_cases hc : chk x.1 x.2 = 0
    · rw [if_pos hc] at h
      rcases List.mem_cons.1 ha with rfl | h1
      · exact hc
      · exact firstE_zero h a h1
    · rw [if_neg hc] at h; exact absurd h hc
/-- What the first spans of a list add up to, if they are right. -/
structure Acc (xs : List (Int × Int)) (j : Nat) (p q : Int) : Prop where
  low : p = sumL (·.1) (xs.take j)
  high : q = sumL (·.2) (xs.take j)
  pos : 0 ≤ p
  le : p ≤ q
theorem acc_zero (xs : List (Int × Int)) : Acc xs 0 0 0 := ⟨by simp [sumL], by simp [sumL], by omega, by omega⟩
theorem Acc.next {xs : List (Int × Int)} {j : Nat} {p q : Int} (h : Acc xs j p q) (hj : j < xs.length) (hx : chk (xs.getD j (0, 0)).1 (xs.getD j (0, 0)).2 = 0) :
    Acc xs (j + 1) (p + (xs.getD j (0, 0)).1) (q + (xs.getD j (0, 0)).2) := by
  obtain ⟨h1, h2, h3⟩ := chk_zero.1 hx
  have := h.pos; have := h.le
  exact ⟨by rw [sumL_step _ hj, ← h.low], by rw [sumL_step _ hj, ← h.high], by omega, by omega⟩
theorem getD_mem {xs : List (Int × Int)} {j : Nat} (hj : j < xs.length) : xs.getD j (0, 0) ∈ xs := by
  have e : xs.getD j (0, 0) = xs[j] := by simp [hj]
  rw [e]; exact List.getElem_mem hj
/-- What Sum returns. -/
def sumV (xs : List (Int × Int)) : (Int × Int) × Int :=
  if 256 < xs.length then ((0, 0), 5) else if firstE xs = 0 then limV (sumL (·.1) xs) (sumL (·.2) xs) else ((0, 0), firstE xs)
theorem addV_acc {p q x y : Int} (hp : 0 ≤ p) (hq : p ≤ q) (hq2 : q ≤ 1000000) (hx : chk x y = 0) : addV p q x y = limV (p + x) (q + y) := by
  unfold addV
  rw [if_pos (chk2_of ⟨hp, hq, hq2⟩ (chk_zero.1 hx))]
end Tm
namespace Go.Proofs.YtgblodnggeabjabDoor
open Go.RowKit

set_option maxRecDepth 100000 in
set_option maxHeartbeats 2000000 in
theorem tFold_any (xs : List (Int × Int)) (ao : Option Addr) (cap : Nat) (w : World) (hv : SpansAt w ao xs) (hn : xs.length ≤ 256) (h0 : Tm.firstE xs = 0) :
    Calls Tryd.prog 53 #[.func (.func 15) #[] #[], .slice ao xs.length cap] w fun e w' => e = .returned (.tuple #[.agg #[.int .i64 (Tm.limV (Tm.sumL (·.1) xs) (Tm.sumL (·.2) xs)).1.1, .int .i64 (Tm.limV (Tm.sumL (·.1) xs) (Tm.sumL (·.2) xs)).1.2], .int .i64 (Tm.limV (Tm.sumL (·.1) xs) (Tm.sumL (·.2) xs)).2]) ∧ Below w.heap.size w w' := by
  have HV := Lib.hid hv
  have hall := Tm.firstE_zero h0
  have HX := fun (j : Nat) (hj : j < xs.length) => Lib.hid (hall _ (Tm.getD_mem hj))
  have HT := fun (j : Nat) => Lib.hid (Tm.sumL_take (·.2) xs (fun a ha => by have := Tm.chk_zero.1 (hall a ha); omega) j)
  have HE := Lib.hid (show ∀ p q, Tm.Acc xs xs.length p q → q ≤ 1000000 → Tm.limV (Tm.sumL (·.1) xs) (Tm.sumL (·.2) xs) = ((p, q), 0) from fun p q h hq => by
    have h1 := h.low; have h2 := h.high
    rw [List.take_length] at h1 h2
    rw [← h1, ← h2]; exact Tm.limV_good hq)
  have HB := Lib.hid (show ∀ (j : Nat) p q, Tm.Acc xs j p q → 1000000 < q → Tm.limV (Tm.sumL (·.1) xs) (Tm.sumL (·.2) xs) = ((0, 0), 11) from fun j p q h hq => by
    have h2 := h.high
    exact Tm.limV_bad (by have := (HT j).out; omega))
  generalize Tm.limV (Tm.sumL (·.1) xs) (Tm.sumL (·.2) xs) = r at *
  clear hv h0 hall HT
  obtain ⟨n, en⟩ : ∃ n, xs.length = n := ⟨_, rfl⟩
  have HN := Lib.hid en
  rw [en] at hn HE HX ⊢
  clear en
  have hB0 : Below w.heap.size w ((w.alloc (.cells #[.int .i64 0, .int .i64 0] 23)).alloc (.cells #[.int .i64 0, .int .i64 0] 23)) := ((Below.refl _ _).alloc (Nat.le_refl _) _).alloc (by simp) _
  have P0 := Lib.hid (pairI_next w 0 0 0 0 23 23)
  go_enter Tryd.func53, Tryd.ntmps53
  go_wp2
  go_loopw [12] (fun u12 wr => ∃ (j : Nat) (p q : Int), j ≤ n ∧ u12 = .int .i64 j ∧ Below w.heap.size w wr ∧ PairI wr w.heap.size 0 0 ∧ PairI wr (w.heap.size + 1) p q ∧ q ≤ 1000000 ∧ Hid (Tm.Acc xs j p q)) (fun u12 _ => n - (intOf u12).toNat)
  case atStart => exact ⟨0, 0, 0, by omega, rfl, hB0, P0.out.1, P0.out.2, by omega, Tm.acc_zero xs⟩
  case round =>
    obtain ⟨j, p, q, hj, rfl, hbel, R0, R1, hq, HA⟩ := hrel
    obtain ⟨a0, a1, a2, a3, a4⟩ := id R0
    obtain ⟨b0, b1, b2, b3, b4⟩ := id R1
    have H0 := Lib.hid R0
    have H1 := Lib.hid R1
    clear R0 R1
    by_cases hlt : j < n
    · obtain ⟨b, off, rfl, hbs, hcell⟩ := HV.out (by rw [HN.out]; omega)
      obtain ⟨g0, g1⟩ := hcell j (by rw [HN.out]; exact hlt)
      clear hcell
      have c0 := (hbel.cell (p := ⟨b, off + j * 2, none⟩) hbs).trans g0
      have c1 := (hbel.cell (p := ⟨b, off + j * 2 + 1, none⟩) hbs).trans g1
      clear g0 g1
      have hx := (HX j hlt).out
      have HNX := Lib.hid (HA.out.next (by rw [HN.out]; exact hlt) hx)
      generalize (xs.getD j (0, 0)).1 = x at *
      generalize (xs.getD j (0, 0)).2 = y at *
      have CA := fun W => Lib.hid (tAdd_any p q x y W)
      rw [Tm.addV_acc HA.out.pos HA.out.le hq hx] at CA
      clear hx
      by_cases hl : q + y ≤ 1000000
      · rw [Tm.limV_good hl] at CA
        simp only [] at CA
        go_wp2_with fail
        refine ((CA _).out).mono ?_
        rintro e w1 ⟨rfl, hb1⟩
        have S0 := H0.out.box hb1
        have S1 := H1.out.box hb1
        have hB1 := below_nextb hbel hb1
        have U0 := S0.other (g := w.heap.size + 1) (by omega) (p + x) (q + y)
        have U1 := S1.same (p + x) (q + y)
        have hBU := below_put (g := w.heap.size + 1) hB1 (by omega) (p + x) (q + y)
        unfold Put at *
        obtain ⟨s0, s1, s2, s3, s4⟩ := id S1
        clear S0 S1 H0 H1 a1 a2 a3 a4 b1 b2 b3 b4 hb1
        go_wp2
        go_roundw
        case rel => exact ⟨j + 1, p + x, q + y, by omega, by go_num, hBU, U0, U1, hl, HNX⟩
        case measure => simp [intOf]; omega
      · rw [Tm.limV_bad (by omega)] at CA
        simp only [] at CA
        have HR := Lib.hid (HB.out (j + 1) _ _ HNX.out (by omega))
        go_wp2_with fail
        refine ((CA _).out).mono ?_
        rintro e w1 ⟨rfl, hb1⟩
        have S0 := H0.out.box hb1
        have S1 := H1.out.box hb1
        have hB1 := below_nextb hbel hb1
        have U0 := S0.other (g := w.heap.size + 1) (by omega) 0 0
        have hBU := below_put (g := w.heap.size + 1) hB1 (by omega) 0 0
        have Z0 := U0.same 0 0
        have hBZ := below_put (g := w.heap.size) hBU (by omega) 0 0
        unfold Put at *
        obtain ⟨s0, s1, s2, s3, s4⟩ := id S1
        obtain ⟨t0, t1, t2, t3, t4⟩ := id U0
        obtain ⟨z0, z1, z2, z3, z4⟩ := id Z0
        clear S0 S1 H0 H1 U0 Z0 a1 a2 a3 a4 b1 b2 b3 b4 hb1
        go_wp2
        exact bodyPost_ret (v := .tuple #[.agg #[.int .i64 0, .int .i64 0], .int .i64 11]) (by simp [results, Tryd.results53, go_sem, z1, z2]) rfl ⟨end_span HR.out, hBZ⟩
    · have hjn : j = n := by omega
      subst hjn
      have HR := Lib.hid (HE.out p q HA.out hq)
      have U0 := H0.out.same p q
      have hBU := below_put (g := w.heap.size) hbel (by omega) p q
      unfold Put at *
      obtain ⟨t0, t1, t2, t3, t4⟩ := id U0
      clear U0 H0 H1
      go_wp2
      exact bodyPost_ret (v := .tuple #[.agg #[.int .i64 p, .int .i64 q], .int .i64 0]) (by simp [results, Tryd.results53, go_sem, t1, t2]) rfl ⟨end_span HR.out, hBU⟩

end Go.Proofs.YtgblodnggeabjabDoor
