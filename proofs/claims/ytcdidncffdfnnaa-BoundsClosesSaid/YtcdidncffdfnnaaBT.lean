/- The statement BoundsCloses. -/
import Derived.Test.YtcdidncffdfnnaaBS
import Derived.Test.YtcdidncffdfnnaaBQ
import Derived.Test.YtcdidncffdfnnaaBH
import Derived.Test.YtcdidncffdfnnaaBJ
namespace Bn
section
variable {N : Nat} {R : List (List Int)} {fr : Nat → Nat} {x p : Nat} (hp : 0 < p) (hc : bk fr x p = x)
include hp hc
theorem prv_edg {q : Nat} (hq : q < p) : edg R ((List.range p).map fun q => ((bk fr x (p - 1 - q) : Nat) : Int)) q = mx R (fr (bk fr x (p - 1 - q))) (bk fr x (p - 1 - q)) := by
  have hg : ∀ q, q < p → ((List.range p).map fun q => ((bk fr x (p - 1 - q) : Nat) : Int)).getD q 0 = ((bk fr x (p - 1 - q) : Nat) : Int) := fun q hq => by simp [hq]
  have hl : ((List.range p).map fun q => ((bk fr x (p - 1 - q) : Nat) : Int)).length = p := by simp
  unfold edg
  rw [hl]
  by_cases h0 : q = 0
  · subst h0
    rw [if_pos rfl, hg _ (by omega), hg _ hq]
    have e1 : fr (bk fr x (p - 1 - 0)) = bk fr x p := by
      rw [show p = (p - 1) + 1 by omega]
      rfl
    rw [e1, hc]
    simp [bk]
  · rw [if_neg h0, hg _ (by omega), hg _ hq]
    have e1 : fr (bk fr x (p - 1 - q)) = bk fr x (p - 1 - (q - 1)) := by
      rw [show p - 1 - (q - 1) = (p - 1 - q) + 1 by omega]
      rfl
    rw [e1]
    simp
theorem prv_tot : ∀ {k : Nat}, k ≤ p → totE R ((List.range p).map fun q => ((bk fr x (p - 1 - q) : Nat) : Int)) k = bks (mx R) fr x p - bks (mx R) fr x (p - k)
  | 0, _ => by simp [totE]
  | k + 1, hk => by
    have ih := prv_tot (k := k) (by omega)
    have e : bks (mx R) fr x (p - k) = bks (mx R) fr x (p - (k + 1)) + mx R (fr (bk fr x (p - 1 - k))) (bk fr x (p - 1 - k)) := by
      rw [show p - k = (p - (k + 1)) + 1 by omega, bks, show p - (k + 1) = p - 1 - k by omega]
    rw [totE, ih, prv_edg hp hc (by omega)]
    omega
end
/-- A cycle that proves a contradiction is verified. -/
theorem Prv.ver {N : Nat} {R : List (List Int)} {l : List Int} (hk : chk N R = 0) (h : Prv N (mx R) l) : verV N R l = (true, 0) ∧ l.length ≤ N + 1 := by
  obtain ⟨fr, x, p, hp, hpn, hc, hed, hneg, rfl⟩ := h
  have hl : ((List.range p).map fun q => ((bk fr x (p - 1 - q) : Nat) : Int)).length = p := by simp
  refine ⟨?_, by rw [hl]; exact hpn⟩
  have ha : ((List.range p).map fun q => ((bk fr x (p - 1 - q) : Nat) : Int)).all (idx 0 N) = true := by
    rw [List.all_eq_true]
    intro y hy
    obtain ⟨q, -, rfl⟩ := List.mem_map.1 hy
    have := (hed (p - 1 - q)).2
    unfold idx
    simp
    omega
  have hne : ((List.range p).map fun q => ((bk fr x (p - 1 - q) : Nat) : Int)) ≠ [] := by
    intro h
    have := congrArg List.length h
    rw [hl] at this
    simp at this
    omega
  have hx : cix N R 0 ((List.range p).map fun q => ((bk fr x (p - 1 - q) : Nat) : Int)) = 0 := by unfold cix; rw [if_pos hk, ha]; rfl
  have hn : noE R ((List.range p).map fun q => ((bk fr x (p - 1 - q) : Nat) : Int)) p = true := noE_iff.2 fun q hq => by
    rw [prv_edg hp hc hq]; exact (hed _).1
  have ht := prv_tot (R := R) hp hc (Nat.le_refl p)
  unfold verV
  rw [if_pos hx, if_neg hne]
  unfold prvs
  rw [hl, hn, ht, Nat.sub_self]
  simp only [bks, Int.sub_zero, Bool.true_and, hneg, decide_true]
end Bn
namespace Go.Proofs.Ytcdidncffdfnnaa
open Go.RowKit
set_option maxHeartbeats 8000000 in
set_option maxRecDepth 100000 in
theorem closes_any (n : Int) (v : Value) (R : List (List Int)) (w : World) (hs : SeesR w v R) :
    Calls Try.prog 6 #[.agg #[.int .i64 n, v]] w fun e w' => e = .returned (.bool true) ∧ Below w.heap.size w w' := by
  have HS := Lib.hid hs
  obtain ⟨ao, cap, rfl, hcap1, hcap2, -⟩ := hs
  obtain ⟨B0, L0⟩ := boxB_new w n (.slice ao R.length cap) 24
  have HB := Lib.hid L0
  have HX := Lib.hid B0
  obtain ⟨x0, x1, x2⟩ := B0
  clear L0
  go_enter Try.func6, Try.ntmps6
  go_wp2_with fail
  clear x0 x1 x2
  have CF := few_any n _ R _ (HS.out.step HB.out)
  generalize hfew : Bn.few n R = fw at CF
  refine CF.mono ?_
  rintro e w1 ⟨rfl, hb1⟩
  have HB1 := Lib.hid (below_nxt HB.out hb1)
  have HX1 := Lib.hid (HX.out.step hb1)
  obtain ⟨x0, x1, x2⟩ := HX1.out
  clear hb1 HB HX CF hfew
  cases fw
  · go_wp2_with fail
    refine (awake_any _).mono ?_
    rintro e w2 ⟨rfl, hb2⟩
    have HB2 := Lib.hid (below_nxt HB1.out hb2)
    clear hb2
    go_wp2
    go_ret
    exact ⟨rfl, HB2.out⟩
  · go_wp2_with fail
    clear x0 x1 x2
    refine (bClo_any n _ R _ (HS.out.step HB1.out)).mono ?_
    rintro e w2 ⟨v2, cy, l, rfl, hv2, hcy, hp1, hp2, hb2⟩
    have hcase : (l = [] ∧ ((Bn.closV n R).2.2.1 = true ∨ (Bn.closV n R).2.2.2 ≠ 0)) ∨ ((Bn.closV n R).2.2.1 = false ∧ (Bn.closV n R).2.2.2 = 0 ∧ Bn.verV n R l = (true, 0) ∧ l.length ≤ 1000) := by
      by_cases h1 : Bn.chk n R = 0
      · obtain ⟨N, rfl, hN, hSh, hR⟩ := Bn.chk_ok h1
        cases hok : Bn.ok N (Bn.mx R) with
        | true =>
          refine .inl ⟨hp2 (.inr (by simpa using hok)), ?_⟩
          unfold Bn.closV
          rw [if_pos h1, Int.toNat_natCast, if_pos hok]
          by_cases h5 : (Bn.cloB N R).2.2 = 0
          · left; simpa using h5
          · right; exact h5
        | false =>
          have hP := hp1 h1 (by simpa using hok)
          rw [Int.toNat_natCast] at hP
          obtain ⟨g1, g2⟩ := Bn.Prv.ver h1 hP
          refine .inr ⟨?_, ?_, g1, by omega⟩ <;> (unfold Bn.closV; rw [if_pos h1, Int.toNat_natCast, hok]; rfl)
      · refine .inl ⟨hp2 (.inl h1), .inr ?_⟩
        unfold Bn.closV
        rw [if_neg h1]
        exact h1
    have HCASE := Lib.hid hcase
    obtain ⟨u2, rfl, hu2⟩ := hv2
    obtain ⟨a2, c2, rfl, -⟩ := id hu2
    obtain ⟨yo, yc, rfl, -⟩ := hcy.see
    have L2 := boxB_new w2 (Bn.closV n R).1 (.slice a2 (Bn.closV n R).2.1.length c2) 24
    have HB2 := Lib.hid (below_nxt HB1.out hb2)
    have HX2 := Lib.hid (HX1.out.step hb2)
    obtain ⟨x0, x1, x2⟩ := HX2.out
    have HU3 := Lib.hid (hu2.step L2.2)
    have HCY := Lib.hid (hcy.step L2.2)
    have HB3 := Lib.hid (below_nxt HB2.out L2.2)
    have HX3 := Lib.hid (HX2.out.step L2.2)
    have HY3 := Lib.hid L2.1
    clear hcase hb2 hu2 hcy hp1 hp2 HB1 HX1
    have CD := fun W (h : SeesR W (.slice ao R.length cap) R) => Lib.hid (show Calls Try.prog 32 #[.agg #[.int .i64 n, .slice ao R.length cap]] W fun e w' => ∃ v, e = .returned (.tuple #[v, .bool (Bn.closV n R).2.2.1, .int .i64 (Bn.closV n R).2.2.2]) ∧ ValB w' v (Bn.closV n R).1 (Bn.closV n R).2.1 ∧ Below W.heap.size W w' from rCld_any n _ R W h)
    generalize Bn.closV n R = q at *
    obtain ⟨q1, q2, q3, q4⟩ := q
    dsimp only at *
    go_wp2_with fail
    clear x0 x1 x2
    generalize w2.alloc (.cells #[.int .i64 q1, .slice a2 q2.length c2] 24) = X3 at *
    have hbk : w2.heap.size < X3.heap.size := HY3.out.1
    generalize w2.heap.size = k2 at *
    refine ((CD X3 (HS.out.step HB3.out)).out).mono ?_
    rintro e w4 ⟨v4, rfl, hv4, hb4⟩
    obtain ⟨u4, rfl, hu4⟩ := hv4
    obtain ⟨a4, c4, rfl, -⟩ := id hu4
    have L4 := boxB_new w4 q1 (.slice a4 q2.length c4) 24
    have HB4 := Lib.hid (below_nxt HB3.out hb4)
    have HX4 := Lib.hid (HX3.out.step hb4)
    have HB5 := Lib.hid (below_nxt HB4.out L4.2)
    have HX5 := Lib.hid (HX4.out.step L4.2)
    have HU5 := Lib.hid ((HU3.out.step hb4).step L4.2)
    have HV5 := Lib.hid (hu4.step L4.2)
    have HY5 := Lib.hid ((HY3.out.step hb4).step L4.2)
    have HZ5 := Lib.hid L4.1
    have HCY5 := Lib.hid ((HCY.out.step hb4).step L4.2)
    obtain ⟨y0, y1, y2⟩ := HY3.out.step hb4
    obtain ⟨z0, z1, z2⟩ := HZ5.out
    clear hb4 hu4 L4 L2 CD HU3 HCY HB3 HX3 HY3
    go_wp2_with fail
    generalize w4.alloc (.cells #[.int .i64 q1, .slice a4 q2.length c4] 24) = X5 at *
    clear y0 y1 y2 z0 z1 z2
    refine (rSame_yes q1 _ _ q2 _ HU5.out HV5.out).mono ?_
    rintro e w6 ⟨rfl, hb6⟩
    have HB6 := Lib.hid (below_nxt HB5.out hb6)
    have HX6 := Lib.hid (HX5.out.step hb6)
    have HCY6 := Lib.hid (HCY5.out.step hb6)
    obtain ⟨x0, x1, x2⟩ := HX6.out
    clear hb6 HU5 HV5 HY5 HZ5 HX5 HCY5
    rcases HCASE.out with ⟨rfl, h7⟩ | ⟨rfl, rfl, h8, h9⟩
    · have h8 : (q3 = true) ∨ (q3 = false ∧ (q4 == 0) = false) := by
        cases q3 with
        | true => exact .inl rfl
        | false => exact .inr ⟨rfl, by simpa using h7⟩
      clear h7 HCASE
      rcases h8 with rfl | ⟨rfl, h8⟩
      · go_wp2_with fail
        refine (awake_any _).mono ?_
        rintro e w7 ⟨rfl, hb7⟩
        have HB7 := Lib.hid (below_nxt HB6.out hb7)
        clear hb7
        go_wp2
        go_ret
        exact ⟨rfl, HB7.out⟩
      · go_wp2_with fail
        refine (awake_any _).mono ?_
        rintro e w7 ⟨rfl, hb7⟩
        have HB7 := Lib.hid (below_nxt HB6.out hb7)
        clear hb7
        go_wp2
        go_ret
        exact ⟨rfl, HB7.out⟩
    · have CV := Lib.hid (rVer_any n _ _ R l w6 (HS.out.step HB6.out) HCY6.out.see h9)
      rw [h8] at CV
      clear h8 HCASE
      go_wp2_with fail
      refine (CV.out).mono ?_
      rintro e w7 ⟨rfl, hb7⟩
      have HB7 := Lib.hid (below_nxt HB6.out hb7)
      clear hb7 CV
      go_wp2_with fail
      refine (awake_any _).mono ?_
      rintro e w8 ⟨rfl, hb8⟩
      have HB8 := Lib.hid (below_nxt HB7.out hb8)
      clear hb8
      go_wp2
      go_ret
      exact ⟨rfl, HB8.out⟩
end Go.Proofs.Ytcdidncffdfnnaa
