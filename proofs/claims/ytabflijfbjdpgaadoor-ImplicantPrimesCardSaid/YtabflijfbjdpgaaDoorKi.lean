/- The call of ImplicantPrimes. -/
import Derived.Test.YtabflijfbjdpgaaDoorKf
import Derived.Test.YtabflijfbjdpgaaDoorKh
import Derived.Test.YtabflijfbjdpgaaDoorIw
namespace Go.Proofs.YtabflijfbjdpgaaDoor
open Go.RowKit Go.Shelf

set_option linter.unusedSimpArgs false in
set_option maxHeartbeats 4000000 in
set_option maxRecDepth 100000 in
theorem lawPrimes_walk (n : Int) (on : Nat) (m : Int) (fr : Nat) (k : Int) (l1 : List (Nat × Nat)) (l2 : List Nat) (w : World) (hst : St w) (h1 : l1.length ≤ 1048576) (h2 : l2.length ≤ 1048576)
    (CF : ∀ W, Hid (Calls Tryd.prog 32 #[.agg #[.int .i64 n, .int .u64 on, .int .i64 m, .int .u64 fr], .int .i64 5] W fun e w' => e = .returned (.bool true) ∧ Below W.heap.size W w'))
    (C1 : ∀ W, St W → Hid (Calls Tryd.prog 33 #[.agg #[.int .i64 n, .int .u64 on, .int .i64 m, .int .u64 fr]] W fun e w' => ∃ v, e = .returned (.tuple #[v, .int .i64 k]) ∧ SeesC w' v l1 ∧ Below W.heap.size W w'))
    (C2 : ∀ W, Hid (Calls Tryd.prog 34 #[.agg #[.int .i64 n, .int .u64 on, .int .i64 m, .int .u64 fr]] W fun e w' => ∃ v, e = .returned (.tuple #[v, .int .i64 k]) ∧ SeesC w' v l1 ∧ Below W.heap.size W w'))
    (C3 : ∀ W, St W → Hid (Calls Tryd.prog 35 #[.agg #[.int .i64 n, .int .u64 on, .int .i64 m, .int .u64 fr]] W fun e w' => ∃ v, e = .returned (.tuple #[v, .int .i64 k]) ∧ Sees .i64 w' v l2 ∧ Below W.heap.size W w'))
    (C4 : ∀ W, Hid (Calls Tryd.prog 36 #[.agg #[.int .i64 n, .int .u64 on, .int .i64 m, .int .u64 fr]] W fun e w' => ∃ v, e = .returned (.tuple #[v, .int .i64 k]) ∧ Sees .i64 w' v l2 ∧ Below W.heap.size W w')) :
    Calls Tryd.prog 7 #[.agg #[.int .i64 n, .int .u64 on, .int .i64 m, .int .u64 fr]] w fun e w' => e = .returned (.bool true) ∧ Below w.heap.size w w' := by
  have HST := Lib.hid hst
  clear hst
  obtain ⟨Q0, L0, z0⟩ := task_new w n on m fr 58
  generalize hX : w.alloc (.cells #[.int .i64 n, .int .u64 (on : Int), .int .i64 m, .int .u64 (fr : Int)] 58) = X at *
  have HB0 := Lib.hid L0
  have P0 := Lib.hid Q0
  obtain ⟨p0, p1, p2, p3, p4⟩ := id Q0
  clear L0 Q0
  go_enter Tryd.func7, Tryd.ntmps7
  go_wp2_with (first | (go_at_call 32; (with_reducible refine ((CF _).out).mono ?_); rintro e w1 ⟨rfl, hb⟩; have HB1 := Lib.hid (below_nxt HB0.out hb); have P1 := Lib.hid (P0.out.step hb); clear hb p1 p2 p3 p4; obtain ⟨p0', p1, p2, p3, p4⟩ := P1.out) | (go_at_call 33; (with_reducible refine ((C1 _ (HST.out.next HB1.out)).out).mono ?_); rintro e w2 ⟨a, rfl, hs, hb⟩; have HB2 := Lib.hid (below_nxt HB1.out hb); have P2 := Lib.hid (P1.out.step hb); have SA2 := Lib.hid hs; clear hs; clear hb p1 p2 p3 p4; obtain ⟨p0', p1, p2, p3, p4⟩ := P2.out) | (go_at_call 34; (with_reducible refine ((C2 _).out).mono ?_); rintro e w3 ⟨b, rfl, hs, hb⟩; have HB3 := Lib.hid (below_nxt HB2.out hb); have P3 := Lib.hid (P2.out.step hb); have SA3 := Lib.hid (SA2.out.step hb); have SB3 := Lib.hid hs; clear hs; clear hb p1 p2 p3 p4; obtain ⟨p0', p1, p2, p3, p4⟩ := P3.out) | (go_at_call 35; (with_reducible refine ((C3 _ (HST.out.next HB3.out)).out).mono ?_); rintro e w4 ⟨c, rfl, hs, hb⟩; have HB4 := Lib.hid (below_nxt HB3.out hb); have P4 := Lib.hid (P3.out.step hb); have SA4 := Lib.hid (SA3.out.step hb); have SB4 := Lib.hid (SB3.out.step hb); have SC4 := Lib.hid hs; clear hs; clear hb p1 p2 p3 p4; obtain ⟨p0', p1, p2, p3, p4⟩ := P4.out) | (go_at_call 36; (with_reducible refine ((C4 _).out).mono ?_); rintro e w5 ⟨d, rfl, hs, hb⟩; have HB5 := Lib.hid (below_nxt HB4.out hb); have P5 := Lib.hid (P4.out.step hb); have SA5 := Lib.hid (SA4.out.step hb); have SB5 := Lib.hid (SB4.out.step hb); have SC5 := Lib.hid (SC4.out.below hb (Nat.le_refl _)); have SD5 := Lib.hid hs; clear hs; clear hb p1 p2 p3 p4; obtain ⟨p0', p1, p2, p3, p4⟩ := P5.out) | (go_at_call 37; (with_reducible refine ((rcSame_any _ _ l1 _ h1 SA5.out SB5.out)).mono ?_); rintro e w6 ⟨rfl, hb⟩; have HB6 := Lib.hid (below_nxt HB5.out hb); have SC6 := Lib.hid (SC5.out.below hb (Nat.le_refl _)); have SD6 := Lib.hid (SD5.out.below hb (Nat.le_refl _)); clear hb) | (go_at_call 38; (with_reducible refine (sEqual_any _ _ l2 _ h2 SC6.out SD6.out).mono ?_); rintro e w7 ⟨rfl, q, rfl⟩; have HB7 := Lib.hid (below_nxt HB6.out (below_drewN (B := w6.heap.size) w6 q))) | (go_at_call 17; (with_reducible refine (awake_any _ (HST.out.next HB7.out)).mono ?_); rintro e w8 ⟨rfl, hb⟩; have HB8 := Lib.hid (below_nxt HB7.out hb); clear hb))
  go_ret
  exact ⟨rfl, HB8.out⟩

set_option linter.unusedSimpArgs false in
set_option maxHeartbeats 4000000 in
set_option maxRecDepth 100000 in
theorem lawPrimes_few (n : Int) (on : Nat) (m : Int) (fr : Nat) (w : World) (hst : St w)
    (CF : ∀ W, Hid (Calls Tryd.prog 32 #[.agg #[.int .i64 n, .int .u64 on, .int .i64 m, .int .u64 fr], .int .i64 5] W fun e w' => e = .returned (.bool false) ∧ Below W.heap.size W w')) :
    Calls Tryd.prog 7 #[.agg #[.int .i64 n, .int .u64 on, .int .i64 m, .int .u64 fr]] w fun e w' => e = .returned (.bool true) ∧ Below w.heap.size w w' := by
  have HST := Lib.hid hst
  clear hst
  obtain ⟨Q0, L0, z0⟩ := task_new w n on m fr 58
  generalize hX : w.alloc (.cells #[.int .i64 n, .int .u64 (on : Int), .int .i64 m, .int .u64 (fr : Int)] 58) = X at *
  have HB0 := Lib.hid L0
  obtain ⟨p0, p1, p2, p3, p4⟩ := id Q0
  clear L0 Q0
  go_enter Tryd.func7, Tryd.ntmps7
  go_wp2_with (first | (go_at_call 32; refine ((CF _).out).mono ?_; rintro e w1 ⟨rfl, hb⟩; have HB1 := Lib.hid (below_nxt HB0.out hb); clear hb) | (go_at_call 17; refine (awake_any _ (HST.out.next HB1.out)).mono ?_; rintro e w8 ⟨rfl, hb⟩; have HB8 := Lib.hid (below_nxt HB1.out hb); clear hb))
  go_ret
  exact ⟨rfl, HB8.out⟩

theorem lawPrimes_any (n : Int) (on : Nat) (m : Int) (fr : Nat) (w : World) (hst : St w) (ho : on < 2 ^ 64) (hf : fr < 2 ^ 64) :
    Calls Tryd.prog 7 #[.agg #[.int .i64 n, .int .u64 on, .int .i64 m, .int .u64 fr]] w fun e w' => e = .returned (.bool true) ∧ Below w.heap.size w w' := by
  have CF := fun W => rcFew_any n on m fr 5 W ho hf
  by_cases hk : Ic.tchk n on m fr = 0
  · obtain ⟨j, rfl, hj, hon⟩ := chk_nat (Ic.tchk_zero.1 hk).1
    by_cases h5 : (j : Int) ≤ 5
    · have e : (Ic.tchk j on m fr != 0 || decide ((j : Int) ≤ 5)) = true := by simp [h5]
      rw [e] at CF
      refine lawPrimes_walk j on m fr 0 (Ic.primesS j on fr) (Ic.essL j on (Ic.primesS j on fr)) w hst (Nat.le_trans (Ic.primesS_len hj) (by omega)) (Nat.le_trans (Tt.pts_len _ _) (Nat.le_trans (Ic.primesS_len hj) (by omega))) (fun W => Lib.hid (CF W)) (fun W h => Lib.hid (iPrimes_ok j on m fr W hj ho hf h hk)) (fun W => Lib.hid ?_) (fun W h => Lib.hid (iEss_ok j on m fr W hj ho hf h hk)) (fun W => Lib.hid ?_)
      · have h := rcPrimes_ok j on m fr W hj ho hf hk
        rw [Ic.primesR_eq] at h
        exact h
      · have h := rcEss_ok j on m fr W hj ho hf hk
        rw [Ic.primesR_eq, Ic.essR_eq hj] at h
        exact h
    · have e : (Ic.tchk j on m fr != 0 || decide ((j : Int) ≤ 5)) = false := by rw [hk]; simpa using h5
      rw [e] at CF
      exact lawPrimes_few j on m fr w hst fun W => Lib.hid (CF W)
  · have e : (Ic.tchk n on m fr != 0 || decide (n ≤ 5)) = true := by simp [hk]
    rw [e] at CF
    refine lawPrimes_walk n on m fr (Ic.tchk n on m fr) [] [] w hst (by simp) (by simp) (fun W => Lib.hid (CF W)) (fun W _ => Lib.hid ?_) (fun W => Lib.hid ?_) (fun W _ => Lib.hid ?_) (fun W => Lib.hid ?_)
    · refine (iPrimes_bad n on m fr W ho hf hk).mono ?_
      rintro e w' ⟨rfl, hb⟩
      exact ⟨_, rfl, .inl ⟨rfl, rfl⟩, hb⟩
    · refine (rcPrimes_bad n on m fr W ho hf hk).mono ?_
      rintro e w' ⟨rfl, hb⟩
      exact ⟨_, rfl, .inl ⟨rfl, rfl⟩, hb⟩
    · refine (iEss_bad n on m fr W ho hf hk).mono ?_
      rintro e w' ⟨rfl, hb⟩
      exact ⟨_, rfl, .inl ⟨rfl, rfl⟩, hb⟩
    · refine (rcEss_bad n on m fr W ho hf hk).mono ?_
      rintro e w' ⟨rfl, hb⟩
      exact ⟨_, rfl, .inl ⟨rfl, rfl⟩, hb⟩
theorem lawPrimes_card (x0 y0 z0 u0 : Int) (W : World) (hst : St W) (_ : -9223372036854775808 ≤ x0) (_ : x0 ≤ 9223372036854775807) (h0 : 0 ≤ y0) (h1 : y0 ≤ 18446744073709551615) (_ : -9223372036854775808 ≤ z0) (_ : z0 ≤ 9223372036854775807) (h2 : 0 ≤ u0) (h3 : u0 ≤ 18446744073709551615) :
    Calls Tryd.prog 7 #[.agg #[.int .i64 x0, .int .u64 y0, .int .i64 z0, .int .u64 u0]] W fun e w' => e = .returned (.bool true) ∧ Below W.heap.size W w' := by
  obtain ⟨on, rfl⟩ := Int.eq_ofNat_of_zero_le h0
  obtain ⟨fr, rfl⟩ := Int.eq_ofNat_of_zero_le h2
  exact lawPrimes_any x0 on z0 fr W hst (by omega) (by omega)
end Go.Proofs.YtabflijfbjdpgaaDoor
