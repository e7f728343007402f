/- Few, Possible, Extent and Witness of the reference. -/
import Derived.Test.YtcdidncffdfnnaaBs
import Derived.Test.YtcdidncffdfnnaaBi
import Derived.Test.YtcdidncffdfnnaaBA
namespace Bn
def few (n : Int) (R : List (List Int)) : Bool := decide (R.length ≤ 50) && (R.all fun r => decide (r.length ≤ 50)) && (decide (n ≤ 5) || decide (chk n R ≠ 0))
/-- What the reference has in the place of the closed bounds. -/
theorem pr_cl {n : Nat} {R : List (List Int)} (hR : Rt n (mx R)) (h : ok n (mx R) = true) {i j : Nat} (hi : i ≤ n) (hj : j ≤ n) : pr n (mx R) (n + 1) i j = cl n R i j := by
  unfold cl; rw [Int.toNat_natCast]; exact clo_pr hR h hi hj
end Bn
namespace Go.Proofs.Ytcdidncffdfnnaa
open Go.RowKit

theorem OwnB.form {B : Nat} {W : World} {v : Value} {n : Nat} {m : Bn.Mx} (h : OwnB B W v n m) : ∃ A cap f c, v = .agg #[.int .i64 (n : Int), .slice (some ⟨A, 0, none⟩) (n + 1) cap] ∧ n + 1 ≤ cap ∧ cap ≤ 9223372036854775807 ∧ Grd B W A (n + 1) (n + 1) f c m := h
set_option maxHeartbeats 4000000 in
set_option maxRecDepth 100000 in
theorem rPoss_any (N : Nat) (v : Value) (R : List (List Int)) (w : World) (hS : Bn.Shp N R) (hR : Bn.Rt N (Bn.mx R)) (hs : SeesR w v R) :
    Calls Try.prog 74 #[.agg #[.int .i64 (N : Int), v]] w fun e w' => e = .returned (.bool (Bn.ok N (Bn.mx R))) ∧ Below w.heap.size w w' := by
  have hN := hR.n12
  have CP := fun W (h : SeesR W v R) => Lib.hid (rPaths_any N v R W hS hR h)
  have hbad := Bn.ok_pr hR
  have HS := Lib.hid hs
  obtain ⟨ao, cap, rfl, hcap1, hcap2, -⟩ := hs
  obtain ⟨B0, L0⟩ := boxB_new w (N : Int) (.slice ao R.length cap) 24
  have HL := Lib.hid L0
  have HB := Lib.hid B0
  have HNo := Lib.hid (fun i (hi : i ≤ N) (h : Bn.pr N (Bn.mx R) (N + 1) i i < 0) => show Bn.ok N (Bn.mx R) = false by
    have := Bn.bad_iff.2 ⟨i, hi, h⟩
    rw [hbad] at this; simpa using this)
  have HYes := Lib.hid (fun (h : ∀ i, i ≤ N → 0 ≤ Bn.pr N (Bn.mx R) (N + 1) i i) => show Bn.ok N (Bn.mx R) = true by
    cases hok : Bn.ok N (Bn.mx R)
    · rw [hok] at hbad
      obtain ⟨i, hi, h2⟩ := Bn.bad_iff.1 hbad
      have := h i hi; omega
    · rfl)
  clear hbad L0 B0 hS hR
  generalize Bn.ok N (Bn.mx R) = q at *
  generalize Bn.pr N (Bn.mx R) (N + 1) = P at *
  go_enter Try.func74, Try.ntmps74
  go_wp2_with fail
  refine ((CP _ (HS.out.step HL.out)).out).mono ?_
  rintro e w1 ⟨v1, rfl, hO, hb1⟩
  obtain ⟨A, cp, f, c, rfl, hc1, hc2, hG⟩ := hO.form
  have L1 := (Below.refl w1.heap.size w1).alloc (Nat.le_refl _) (.cells #[.int .i64 (N : Int), .slice (some ⟨A, 0, none⟩) (N + 1) cp] 24)
  have HP1 := Lib.hid (resI_new w1 (N : Int) (.slice (some ⟨A, 0, none⟩) (N + 1) cp) 24)
  have HG1 := Lib.hid (hG.step L1)
  have HB1 := Lib.hid (below_nxt (below_nxt HL.out hb1) L1)
  have HBx1 := Lib.hid ((HB.out.step hb1).step L1)
  clear hG hO hb1 L1 HL HB CP
  go_wp2
  generalize w1.alloc (.cells #[.int .i64 (N : Int), .slice (some ⟨A, 0, none⟩) (N + 1) cp] 24) = X at *
  generalize w1.heap.size = pb at *
  go_loopw [4] (fun s4 wr => ∃ i : Nat, i ≤ N + 1 ∧ s4 = .int .i64 (i : Int) ∧ wr = X ∧ Hid (∀ a, a < i → 0 ≤ P a a)) (fun s4 _ => N + 1 - (intOf s4).toNat)
  case atStart => exact ⟨0, Nat.zero_le _, rfl, rfl, Lib.hid (fun a h => by omega)⟩
  case round =>
    obtain ⟨i, hi, rfl, rfl, HJ⟩ := hrel
    obtain ⟨b0, b1, b2⟩ := HBx1.out
    obtain ⟨p0, p1, p2, p3, p4⟩ := HP1.out
    by_cases hil : i < N + 1
    · have hq : i ≤ N := by omega
      have zi : (i : Int) < (N : Int) + 1 := by omega
      obtain ⟨g1, g2, g3⟩ := HG1.out.at hil hil
      have HNi := Lib.hid (HNo.out i hq)
      have HJ2 : Hid (0 ≤ P i i → ∀ a, a < i + 1 → 0 ≤ P a a) := Lib.hid (fun h a ha => by
        by_cases e : a = i
        · rw [e]; exact h
        · exact HJ.out a (by omega))
      generalize P i i = x at *
      by_cases hx : x < 0
      · have HQ := Lib.hid (HNi.out hx)
        go_wp2
        all_goals first | exact bodyPost_ret (v := .bool false) (by simp [results, Try.results74, go_sem]) rfl ⟨by rw [HQ.out], HB1.out⟩ | (exfalso; omega)
      · have HJ3 := Lib.hid (HJ2.out (by omega))
        go_wp2
        all_goals first | exact ⟨⟨i + 1, by omega, by first | rfl | go_num, trivial, HJ3⟩, by simp [intOf]; omega⟩ | (exfalso; omega)
    · obtain rfl : i = N + 1 := by omega
      have HQ := Lib.hid (HYes.out (fun a ha => HJ.out a (by omega)))
      go_wp2
      exact bodyPost_ret (v := .bool true) (by simp [results, Try.results74, go_sem]) rfl ⟨by rw [HQ.out], HB1.out⟩

set_option maxHeartbeats 4000000 in
set_option maxRecDepth 100000 in
theorem rExt_any (n i : Int) (v : Value) (R : List (List Int)) (w : World) (hs : SeesR w v R) :
    Calls Try.prog 34 #[.agg #[.int .i64 n, v], .int .i64 i] w fun e w' => e = .returned (.tuple #[.int .i64 (Bn.extV n R i).1, .int .i64 (Bn.extV n R i).2.1, .int .i64 (Bn.extV n R i).2.2]) ∧ Below w.heap.size w w' := by
  have CC := fun W (h : SeesR W v R) => Lib.hid (rChk_any n v R W h)
  have HS := Lib.hid hs
  obtain ⟨ao, cap, rfl, hcap1, hcap2, -⟩ := hs
  have CI := fun W => Lib.hid (rIdx_any n i ao R.length cap W)
  obtain ⟨B0, L0⟩ := boxB_new w n (.slice ao R.length cap) 24
  have HL := Lib.hid L0
  have HB := Lib.hid B0
  have hxv : ∀ q, Bn.cwE n R 0 [i] = q → q ≠ 0 → Bn.extV n R i = (0, 0, q) := fun q h h2 => by unfold Bn.extV; rw [h, if_neg h2]
  clear L0 B0
  by_cases h1 : Bn.chk n R = 0
  · obtain ⟨N, rfl, hN, hSh, hR⟩ := Bn.chk_ok h1
    have hcix : Bn.cix N R 0 [i] = if Bn.idx 0 N i then 0 else 2 := by unfold Bn.cix; rw [if_pos h1]; simp
    rw [h1] at CC
    cases hidx : Bn.idx 0 N i <;> rw [hidx] at CI hcix
    · have hr := hxv 2 (by unfold Bn.cwE; rw [hcix]; rfl) (by decide)
      rw [hr]
      clear hr hxv hcix hidx h1
      go_enter Try.func34, Try.ntmps34
      go_wp2_with (first
        | (go_at_call 19; refine ((CC _ (HS.out.step HL.out)).out).mono ?_; rintro e w1 ⟨rfl, hb1⟩; have HB1 := Lib.hid (below_nxt HL.out hb1); obtain ⟨b0, b1, b2⟩ := HB.out.step hb1; clear hb1)
        | (go_at_call 48; refine ((CI _).out).mono ?_; rintro e w2 ⟨rfl, hb2⟩; have HB2 := Lib.hid (below_nxt HB1.out hb2); clear hb2))
      exact bodyPost_ret (v := .tuple #[.int .i64 0, .int .i64 0, .int .i64 2]) (by simp [results, Try.results34, go_sem]) rfl ⟨rfl, HB2.out⟩
    · have CPo := fun W (h : SeesR W (.slice ao R.length cap) R) => Lib.hid (rPoss_any N _ R W hSh hR h)
      cases hok : Bn.ok N (Bn.mx R) <;> rw [hok] at CPo
      · have hr := hxv 16 (by unfold Bn.cwE; rw [hcix]; simp [hok]) (by decide)
        rw [hr]
        clear hr hxv hcix hidx h1 hok
        go_enter Try.func34, Try.ntmps34
        go_wp2_with (first
          | (go_at_call 19; refine ((CC _ (HS.out.step HL.out)).out).mono ?_; rintro e w1 ⟨rfl, hb1⟩; have HB1 := Lib.hid (below_nxt HL.out hb1); have HBx1 := Lib.hid (HB.out.step hb1); obtain ⟨b0, b1, b2⟩ := HBx1.out; clear hb1)
          | (go_at_call 48; refine ((CI _).out).mono ?_; rintro e w2 ⟨rfl, hb2⟩; have HB2 := Lib.hid (below_nxt HB1.out hb2); obtain ⟨c0, c1, c2⟩ := HBx1.out.step hb2; clear hb2)
          | (go_at_call 74; refine ((CPo _ (HS.out.step HB2.out)).out).mono ?_; rintro e w3 ⟨rfl, hb3⟩; have HB3 := Lib.hid (below_nxt HB2.out hb3); clear hb3))
        exact bodyPost_ret (v := .tuple #[.int .i64 0, .int .i64 0, .int .i64 16]) (by simp [results, Try.results34, go_sem]) rfl ⟨rfl, HB3.out⟩
      · obtain ⟨h7, h8⟩ := Bn.idx_iff.1 hidx
        obtain ⟨k, rfl⟩ := Int.eq_ofNat_of_zero_le h7
        have hk : k ≤ N := by omega
        have hr : Bn.extV N R k = (Bn.opp (Bn.pr N (Bn.mx R) (N + 1) k 0), Bn.pr N (Bn.mx R) (N + 1) 0 k, 0) := by
          unfold Bn.extV
          rw [if_pos (by unfold Bn.cwE; rw [hcix]; simp [hok]), Bn.pr_cl hR hok hk (Nat.zero_le _), Bn.pr_cl hR hok (Nat.zero_le _) hk]
          simp
        rw [hr]
        have CP := fun W (h : SeesR W (.slice ao R.length cap) R) => Lib.hid (rPaths_any N _ R W hSh hR h)
        have CO := fun W => Lib.hid (rOpp_any (Bn.pr N (Bn.mx R) (N + 1) k 0) W (Bn.bd_pr hR (by omega) hk (Nat.zero_le _)))
        have zk : (k : Int) < (N : Int) + 1 := by omega
        clear hr hxv hcix hidx h1 hok hSh hR
        generalize Bn.pr N (Bn.mx R) (N + 1) = P at *
        go_enter Try.func34, Try.ntmps34
        go_wp2_with (first
          | (go_at_call 19; refine ((CC _ (HS.out.step HL.out)).out).mono ?_; rintro e w1 ⟨rfl, hb1⟩; have HB1 := Lib.hid (below_nxt HL.out hb1); have HBx1 := Lib.hid (HB.out.step hb1); obtain ⟨b0, b1, b2⟩ := HBx1.out; clear hb1)
          | (go_at_call 48; refine ((CI _).out).mono ?_; rintro e w2 ⟨rfl, hb2⟩; have HB2 := Lib.hid (below_nxt HB1.out hb2); have HBx2 := Lib.hid (HBx1.out.step hb2); obtain ⟨c0, c1, c2⟩ := HBx2.out; clear hb2)
          | (go_at_call 74; refine ((CPo _ (HS.out.step HB2.out)).out).mono ?_; rintro e w3 ⟨rfl, hb3⟩; have HB3 := Lib.hid (below_nxt HB2.out hb3); have HBx3 := Lib.hid (HBx2.out.step hb3); obtain ⟨d0, d1, d2⟩ := HBx3.out; clear hb3)
          | (go_at_call 75; refine ((CP _ (HS.out.step HB3.out)).out).mono ?_; rintro e w4 ⟨v4, rfl, hO, hb4⟩; obtain ⟨A, cp, f, c, rfl, hc1, hc2, hG⟩ := hO.form; have HB4 := Lib.hid (below_nxt HB3.out hb4); have L4 := (Below.refl w4.heap.size w4).alloc (Nat.le_refl _) (.cells #[.int .i64 (N : Int), .slice (some ⟨A, 0, none⟩) (N + 1) cp] 24); have HB5 := Lib.hid (below_nxt HB4.out L4); obtain ⟨g1, g2, -⟩ := (hG.step L4).at (show k < N + 1 by omega) (show 0 < N + 1 by omega); obtain ⟨g3, g4, -⟩ := (hG.step L4).at (show 0 < N + 1 by omega) (show k < N + 1 by omega); obtain ⟨p0, p1, p2, p3, p4⟩ := resI_new w4 (N : Int) (.slice (some ⟨A, 0, none⟩) (N + 1) cp) 24; clear hb4 hO hG L4))
        go_quiet (first | (go_at_call 81; exact Calls.quiet_of_same ((CO _).out)))
        go_wp2
        exact bodyPost_ret (v := .tuple #[.int .i64 (Bn.opp (P k 0)), .int .i64 (P 0 k), .int .i64 0]) (by simp [results, Try.results34, go_sem]) rfl ⟨rfl, HB5.out.trans (below_drewN _ _)⟩
  · have hr := hxv (Bn.chk n R) (by unfold Bn.cwE Bn.cix; rw [if_neg h1, if_neg h1]) h1
    rw [hr]
    clear hr hxv
    go_enter Try.func34, Try.ntmps34
    go_wp2_with (go_at_call 19; refine ((CC _ (HS.out.step HL.out)).out).mono ?_; rintro e w1 ⟨rfl, hb1⟩; have HB1 := Lib.hid (below_nxt HL.out hb1); clear hb1)
    exact bodyPost_ret (v := .tuple #[.int .i64 0, .int .i64 0, .int .i64 (Bn.chk n R)]) (by simp [results, Try.results34, go_sem]) rfl ⟨rfl, HB1.out⟩
end Go.Proofs.Ytcdidncffdfnnaa
