/- Implies of package implicant and of its reference; CheckTask of the reference. -/
import Derived.Test.YtabflijfbjdpgaaDoorIx
namespace Ic
/-- What Implies returns. -/
def impV (n : Int) (on : Nat) (m : Int) (fr c v : Nat) : Bool × Int := if tchk n on m fr ≠ 0 then (false, tchk n on m fr) else if chk n c v ≠ 0 then (false, chk n c v) else (imp n.toNat on fr c v, 0)
def goodP (on fr c v k : Nat) : Bool := !inn c v k || (on.testBit k || fr.testBit k)
def good (n on fr c v : Nat) : Bool := (List.range (2 ^ n)).all (goodP on fr c v)
theorem good_imp {n on fr c v : Nat} (hn : n ≤ 6) (ho : on < 2 ^ 64) (hf : fr < 2 ^ 64) : good n on fr c v = imp n on fr c v := by
  have hor := Nat.or_lt_two_pow ho hf
  rw [Bool.eq_iff_iff]
  unfold good imp
  rw [beq_iff_eq, sub_iff (Tt.w64 hn (tab_lt n c v)) hor, List.all_eq_true]
  constructor
  · intro h k hk
    rw [tab_bit, Bool.and_eq_true, decide_eq_true_iff] at hk
    have h2 := h k (List.mem_range.2 hk.1)
    unfold goodP at h2
    rw [hk.2] at h2
    rw [Nat.testBit_or]
    simpa using h2
  · intro h k hk
    have h2 := h k
    rw [tab_bit, Bool.and_eq_true, decide_eq_true_iff, Nat.testBit_or] at h2
    unfold goodP
    cases hi : inn c v k
    · rfl
    · simpa using h2 ⟨List.mem_range.1 hk, hi⟩
end Ic
namespace Go.Proofs.YtabflijfbjdpgaaDoor
open Go.RowKit Go.Shelf

set_option maxHeartbeats 2000000 in
set_option maxRecDepth 100000 in
theorem rcGood_any (n on : Nat) (m : Int) (fr c v : Nat) (w : World) (hn : n ≤ 6) (ho : on < 2 ^ 64) (hf : fr < 2 ^ 64) (hc : c < 2 ^ 64) :
    Calls Tryd.prog 64 #[.agg #[.int .i64 n, .int .u64 on, .int .i64 m, .int .u64 fr], .agg #[.int .u64 c, .int .u64 v]] w fun e w' => e = .returned (.bool (Ic.good n on fr c v)) ∧ Below w.heap.size w w' := by
  have hN := Tt.size_le hn
  have CS := fun W => Lib.hid (rSize_any n W (by omega) (by omega))
  rw [Int.toNat_natCast] at CS
  have CIn := fun k (hk : k < 64) W => Lib.hid (rcIn_any c v k W hk hc)
  have CO := fun k (hk : k < 64) W => Lib.hid (rAt_any n on k W ho hk)
  have CF := fun k (hk : k < 64) W => Lib.hid (rAt_any m fr k W hf hk)
  have HG := Lib.hid (show Ic.good n on fr c v = (List.range (2 ^ n)).all (Ic.goodP on fr c v) from rfl)
  generalize Ic.good n on fr c v = gd at *
  generalize 2 ^ n = N at *
  obtain ⟨P1, L1, z1⟩ := cub1_new (w.alloc (.cells #[.int .i64 n, .int .u64 (on : Int), .int .i64 m, .int .u64 (fr : Int)] 61)) c v 24
  obtain ⟨P0, L0, z0⟩ := task_new w n on m fr 61
  replace P0 := P0.step L1
  replace L0 := below_nxt L0 L1
  rw [z0] at P1 z1
  clear L1 z0
  generalize hX : (w.alloc (.cells #[.int .i64 n, .int .u64 (on : Int), .int .i64 m, .int .u64 (fr : Int)] 61)).alloc (.cells #[.int .u64 (c : Int), .int .u64 (v : Int)] 24) = X at *
  clear hc ho hf
  go_enter Tryd.func64, Tryd.ntmps64
  go_wp2
  go_loopw [5] (fun s5 wr => ∃ k : Nat, k ≤ N ∧ s5 = .int .i64 k ∧ TaskI wr w.heap.size n on m fr ∧ CubI wr (w.heap.size + 1) c v ∧ Hid (Below w.heap.size w wr) ∧ Hid ((List.range k).all (Ic.goodP on fr c v) = true)) (fun s5 _ => N - (intOf s5).toNat)
  case atStart => exact ⟨0, Nat.zero_le _, rfl, P0, P1, Lib.hid L0, Lib.hid rfl⟩
  case round =>
    clear P0 P1 L0
    obtain ⟨k, hk, rfl, R0, R1, HW, HA⟩ := hrel
    obtain ⟨r0, r1, r2, r3, r4⟩ := id R0
    obtain ⟨s0, s1, s2, s3, s4⟩ := id R1
    have H0 := Lib.hid R0
    have H1 := Lib.hid R1
    clear R0 R1
    by_cases hkN : k < N
    · have CI := CIn k (by omega)
      have CO := CO k (by omega)
      have CF := CF k (by omega)
      have HS := Lib.hid (Ic.all_succ (Ic.goodP on fr c v) k)
      have HP := Lib.hid (show Ic.goodP on fr c v k = (!Ic.inn c v k || (on.testBit k || fr.testBit k)) from rfl)
      have HBAD := Lib.hid (fun h => Ic.all_bad (p := Ic.goodP on fr c v) hkN h)
      generalize Ic.inn c v k = q1 at *
      generalize on.testBit k = q2 at *
      generalize fr.testBit k = q3 at *
      cases q1 with
      | false =>
        go_wp2_with (first | (go_at_call 47; refine ((CS _).out).mono ?_; rintro e w2 ⟨rfl, rfl⟩) | (go_at_call 48; refine ((CI _).out).mono ?_; rintro e w3 ⟨rfl, hbI⟩; obtain ⟨r0, r1, r2, r3, r4⟩ := H0.out.step hbI; obtain ⟨s0, s1, s2, s3, s4⟩ := H1.out.step hbI) | (go_at_call 72; (with_reducible refine ((CO _).out).mono ?_); rintro e w4 ⟨rfl, hbO⟩; obtain ⟨r0, r1, r2, r3, r4⟩ := (H0.out.step hbI).step hbO; obtain ⟨s0, s1, s2, s3, s4⟩ := (H1.out.step hbI).step hbO) | (go_at_call 72; (with_reducible refine ((CF _).out).mono ?_); rintro e w5 ⟨rfl, hbF⟩))
        exact ⟨⟨k + 1, by omega, rfl, H0.out.step hbI, H1.out.step hbI, Lib.hid (below_nxt HW.out hbI), Lib.hid (by rw [HS.out, HA.out, HP.out]; rfl)⟩, by simp [intOf]; omega⟩
      | true =>
        cases q2 with
        | true =>
          go_wp2_with (first | (go_at_call 47; refine ((CS _).out).mono ?_; rintro e w2 ⟨rfl, rfl⟩) | (go_at_call 48; refine ((CI _).out).mono ?_; rintro e w3 ⟨rfl, hbI⟩; obtain ⟨r0, r1, r2, r3, r4⟩ := H0.out.step hbI; obtain ⟨s0, s1, s2, s3, s4⟩ := H1.out.step hbI) | (go_at_call 72; (with_reducible refine ((CO _).out).mono ?_); rintro e w4 ⟨rfl, hbO⟩; obtain ⟨r0, r1, r2, r3, r4⟩ := (H0.out.step hbI).step hbO; obtain ⟨s0, s1, s2, s3, s4⟩ := (H1.out.step hbI).step hbO) | (go_at_call 72; (with_reducible refine ((CF _).out).mono ?_); rintro e w5 ⟨rfl, hbF⟩))
          exact ⟨⟨k + 1, by omega, rfl, (H0.out.step hbI).step hbO, (H1.out.step hbI).step hbO, Lib.hid (below_nxt (below_nxt HW.out hbI) hbO), Lib.hid (by rw [HS.out, HA.out, HP.out]; rfl)⟩, by simp [intOf]; omega⟩
        | false =>
          cases q3 with
          | true =>
            go_wp2_with (first | (go_at_call 47; refine ((CS _).out).mono ?_; rintro e w2 ⟨rfl, rfl⟩) | (go_at_call 48; refine ((CI _).out).mono ?_; rintro e w3 ⟨rfl, hbI⟩; obtain ⟨r0, r1, r2, r3, r4⟩ := H0.out.step hbI; obtain ⟨s0, s1, s2, s3, s4⟩ := H1.out.step hbI) | (go_at_call 72; (with_reducible refine ((CO _).out).mono ?_); rintro e w4 ⟨rfl, hbO⟩; obtain ⟨r0, r1, r2, r3, r4⟩ := (H0.out.step hbI).step hbO; obtain ⟨s0, s1, s2, s3, s4⟩ := (H1.out.step hbI).step hbO) | (go_at_call 72; (with_reducible refine ((CF _).out).mono ?_); rintro e w5 ⟨rfl, hbF⟩))
            exact ⟨⟨k + 1, by omega, rfl, ((H0.out.step hbI).step hbO).step hbF, ((H1.out.step hbI).step hbO).step hbF, Lib.hid (below_nxt (below_nxt (below_nxt HW.out hbI) hbO) hbF), Lib.hid (by rw [HS.out, HA.out, HP.out]; rfl)⟩, by simp [intOf]; omega⟩
          | false =>
            obtain rfl : gd = false := by rw [HG.out]; exact HBAD.out (by rw [HP.out]; rfl)
            go_wp2_with (first | (go_at_call 47; refine ((CS _).out).mono ?_; rintro e w2 ⟨rfl, rfl⟩) | (go_at_call 48; refine ((CI _).out).mono ?_; rintro e w3 ⟨rfl, hbI⟩; obtain ⟨r0, r1, r2, r3, r4⟩ := H0.out.step hbI; obtain ⟨s0, s1, s2, s3, s4⟩ := H1.out.step hbI) | (go_at_call 72; (with_reducible refine ((CO _).out).mono ?_); rintro e w4 ⟨rfl, hbO⟩; obtain ⟨r0, r1, r2, r3, r4⟩ := (H0.out.step hbI).step hbO; obtain ⟨s0, s1, s2, s3, s4⟩ := (H1.out.step hbI).step hbO) | (go_at_call 72; (with_reducible refine ((CF _).out).mono ?_); rintro e w5 ⟨rfl, hbF⟩))
            go_ret
            exact ⟨rfl, below_nxt (below_nxt (below_nxt HW.out hbI) hbO) hbF⟩
    · obtain rfl : k = N := by omega
      obtain rfl : gd = true := by rw [HG.out]; exact HA.out
      go_wp2_with (go_at_call 47; refine ((CS _).out).mono ?_; rintro e w2 ⟨rfl, rfl⟩)
      go_ret
      exact ⟨rfl, HW.out⟩

set_option maxHeartbeats 2000000 in
set_option maxRecDepth 100000 in
theorem rcCheckTask_any (n : Int) (on : Nat) (m : Int) (fr : Nat) (w : World) (ho : on < 2 ^ 64) (hf : fr < 2 ^ 64) :
    Calls Tryd.prog 31 #[.agg #[.int .i64 n, .int .u64 on, .int .i64 m, .int .u64 fr]] w fun e w' => e = .returned (.int .i64 (Ic.tchk n on m fr)) ∧ Below w.heap.size w w' := by
  have CA := fun W => Lib.hid (rCheck_any n on W ho)
  have CB := fun W => Lib.hid (rCheck_any m fr W hf)
  have e1 := u64_and_nat on fr (by simpa using ho) (by simpa using hf)
  obtain ⟨q, hq⟩ : ∃ q, Ic.tchk n on m fr = q := ⟨_, rfl⟩
  rw [hq]
  unfold Ic.tchk Tt.giv at hq
  obtain ⟨P0, L0, z0⟩ := task_new w n on m fr 61
  generalize hX : w.alloc (.cells #[.int .i64 n, .int .u64 (on : Int), .int .i64 m, .int .u64 (fr : Int)] 61) = X at *
  obtain ⟨p0, p1, p2, p3, p4⟩ := id P0
  clear ho hf
  generalize (on &&& fr) = x at *
  generalize Tt.chk n on = a at *
  generalize Tt.chk m fr = b at *
  by_cases ha : a = 0
  · subst ha
    by_cases hb : b = 0
    · subst hb
      by_cases hnm : n = m
      · by_cases hx : x = 0
        · subst hx
          obtain rfl : q = 0 := by simpa [hnm] using hq.symm
          have hnm' : (n != m) = false := by simp [hnm]
          clear hq hnm
          go_enter Tryd.func31, Tryd.ntmps31
          go_wp2_with (first | (go_at_call 66; (with_reducible refine ((CA _).out).mono ?_); rintro e w1 ⟨rfl, hb1⟩; have HB := Lib.hid (below_nxt L0 hb1); have HP := Lib.hid (P0.step hb1); obtain ⟨q0, q1, q2, q3, q4⟩ := HP.out) | (go_at_call 66; (with_reducible refine ((CB _).out).mono ?_); rintro e w2 ⟨rfl, hb2⟩; have HB2 := Lib.hid (below_nxt HB.out hb2); obtain ⟨t0, t1, t2, t3, t4⟩ := HP.out.step hb2))
          go_ret
          exact ⟨rfl, HB2.out⟩
        · have hx' : ((x : Int) != 0) = true := by simp; omega
          obtain rfl : q = 16 := by simpa [hnm, hx] using hq.symm
          have hnm' : (n != m) = false := by simp [hnm]
          clear hq hnm
          go_enter Tryd.func31, Tryd.ntmps31
          go_wp2_with (first | (go_at_call 66; (with_reducible refine ((CA _).out).mono ?_); rintro e w1 ⟨rfl, hb1⟩; have HB := Lib.hid (below_nxt L0 hb1); have HP := Lib.hid (P0.step hb1); obtain ⟨q0, q1, q2, q3, q4⟩ := HP.out) | (go_at_call 66; (with_reducible refine ((CB _).out).mono ?_); rintro e w2 ⟨rfl, hb2⟩; have HB2 := Lib.hid (below_nxt HB.out hb2); obtain ⟨t0, t1, t2, t3, t4⟩ := HP.out.step hb2))
          go_ret
          exact ⟨rfl, HB2.out⟩
      · obtain rfl : q = 8 := by simpa [hnm] using hq.symm
        have hnm' : (n != m) = true := by simp [hnm]
        clear hq
        go_enter Tryd.func31, Tryd.ntmps31
        go_wp2_with (first | (go_at_call 66; (with_reducible refine ((CA _).out).mono ?_); rintro e w1 ⟨rfl, hb1⟩; have HB := Lib.hid (below_nxt L0 hb1); have HP := Lib.hid (P0.step hb1); obtain ⟨q0, q1, q2, q3, q4⟩ := HP.out) | (go_at_call 66; (with_reducible refine ((CB _).out).mono ?_); rintro e w2 ⟨rfl, hb2⟩; have HB2 := Lib.hid (below_nxt HB.out hb2); obtain ⟨t0, t1, t2, t3, t4⟩ := HP.out.step hb2))
        go_ret
        exact ⟨rfl, HB2.out⟩
    · have hb' : (b != 0) = true := by simp [hb]
      obtain rfl : q = b := by simpa [hb] using hq.symm
      clear hq
      go_enter Tryd.func31, Tryd.ntmps31
      go_wp2_with (first | (go_at_call 66; (with_reducible refine ((CA _).out).mono ?_); rintro e w1 ⟨rfl, hb1⟩; have HB := Lib.hid (below_nxt L0 hb1); have HP := Lib.hid (P0.step hb1); obtain ⟨q0, q1, q2, q3, q4⟩ := HP.out) | (go_at_call 66; (with_reducible refine ((CB _).out).mono ?_); rintro e w2 ⟨rfl, hb2⟩; have HB2 := Lib.hid (below_nxt HB.out hb2); obtain ⟨t0, t1, t2, t3, t4⟩ := HP.out.step hb2))
      go_ret
      exact ⟨rfl, HB2.out⟩
  · have ha' : (a != 0) = true := by simp [ha]
    obtain rfl : q = a := by simpa [ha] using hq.symm
    clear hq
    go_enter Tryd.func31, Tryd.ntmps31
    go_wp2_with (first | (go_at_call 66; (with_reducible refine ((CA _).out).mono ?_); rintro e w1 ⟨rfl, hb1⟩; have HB := Lib.hid (below_nxt L0 hb1); have HP := Lib.hid (P0.step hb1); obtain ⟨q0, q1, q2, q3, q4⟩ := HP.out) | (go_at_call 66; (with_reducible refine ((CB _).out).mono ?_); rintro e w2 ⟨rfl, hb2⟩; have HB2 := Lib.hid (below_nxt HB.out hb2); obtain ⟨t0, t1, t2, t3, t4⟩ := HP.out.step hb2))
    go_ret
    exact ⟨rfl, HB.out⟩

set_option maxHeartbeats 2000000 in
set_option maxRecDepth 100000 in
theorem rcImplies_any (n : Int) (on : Nat) (m : Int) (fr c v : Nat) (w : World) (ho : on < 2 ^ 64) (hf : fr < 2 ^ 64) (hc : c < 2 ^ 64) (hv : v < 2 ^ 64) :
    Calls Tryd.prog 29 #[.agg #[.int .i64 n, .int .u64 on, .int .i64 m, .int .u64 fr], .agg #[.int .u64 c, .int .u64 v]] w fun e w' => e = .returned (.tuple #[.bool (Ic.impV n on m fr c v).1, .int .i64 (Ic.impV n on m fr c v).2]) ∧ Below w.heap.size w w' := by
  have CT := fun W => Lib.hid (rcCheckTask_any n on m fr W ho hf)
  have CK := fun W => Lib.hid (rcCheck_any n c v W hc hv)
  skip
  obtain ⟨P0, L0, z0⟩ := task_new w n on m fr 61
  obtain ⟨P1, L1, z1⟩ := cub1_new (w.alloc (.cells #[.int .i64 n, .int .u64 (on : Int), .int .i64 m, .int .u64 (fr : Int)] 61)) c v 24
  replace P0 := P0.step L1
  replace L0 := below_nxt L0 L1
  rw [z0] at P1 z1
  clear L1 z0
  generalize hX : (w.alloc (.cells #[.int .i64 n, .int .u64 (on : Int), .int .i64 m, .int .u64 (fr : Int)] 61)).alloc (.cells #[.int .u64 (c : Int), .int .u64 (v : Int)] 24) = X at *
  have HL := Lib.hid L0
  have HP0 := Lib.hid P0
  have HP1 := Lib.hid P1
  obtain ⟨p0, p1, p2, p3, p4⟩ := P0
  obtain ⟨q0, q1, q2, q3, q4⟩ := P1
  obtain ⟨r, hr⟩ : ∃ r, Ic.impV n on m fr c v = r := ⟨_, rfl⟩
  rw [hr]
  unfold Ic.impV at hr
  by_cases ht : Ic.tchk n on m fr = 0
  · rw [ht] at CT
    by_cases hk : Ic.chk n c v = 0
    · obtain ⟨j, rfl, hj, hcj, hs⟩ := Ic.chk_nat hv hk
      have CG := fun W => Lib.hid (rcGood_any j on m fr c v W hj ho hf hc)
      rw [Ic.good_imp hj ho hf] at CG
      rw [if_neg (by simp [ht]), if_neg (by simp [hk]), Int.toNat_natCast] at hr
      rw [hk] at CK
      subst hr
      generalize Ic.imp j on fr c v = b at *
      clear ht hk ho hf hc hv hcj hs L0
      go_enter Tryd.func29, Tryd.ntmps29
      go_wp2_with (first | (go_at_call 31; (with_reducible refine ((CT _).out).mono ?_); rintro e w1 ⟨rfl, hb1⟩; have HB1 := Lib.hid (below_nxt HL.out hb1); have V1 := Lib.hid (HP0.out.step hb1); have U1 := Lib.hid (HP1.out.step hb1); obtain ⟨p0, p1, p2, p3, p4⟩ := V1.out; obtain ⟨q0, q1, q2, q3, q4⟩ := U1.out) | (go_at_call 16; (with_reducible refine ((CK _).out).mono ?_); rintro e w2 ⟨rfl, hb2⟩; have HB2 := Lib.hid (below_nxt HB1.out hb2); obtain ⟨p0, p1, p2, p3, p4⟩ := V1.out.step hb2; obtain ⟨q0, q1, q2, q3, q4⟩ := U1.out.step hb2) | (go_at_call 64; (with_reducible refine ((CG _).out).mono ?_); rintro e w3 ⟨rfl, hb3⟩; have HB3 := Lib.hid (below_nxt HB2.out hb3)))
      exact bodyPost_ret (v := .tuple #[.bool b, .int .i64 0]) (by simp [results, Tryd.results29, go_sem]) rfl ⟨rfl, HB3.out⟩
    · have hk' : (Ic.chk n c v != 0) = true := by simp [hk]
      rw [if_neg (by simp [ht]), if_pos hk] at hr
      subst hr
      generalize Ic.chk n c v = k at *
      clear ht ho hf hc hv L0
      go_enter Tryd.func29, Tryd.ntmps29
      go_wp2_with (first | (go_at_call 31; (with_reducible refine ((CT _).out).mono ?_); rintro e w1 ⟨rfl, hb1⟩; have HB1 := Lib.hid (below_nxt HL.out hb1); have V1 := Lib.hid (HP0.out.step hb1); have U1 := Lib.hid (HP1.out.step hb1); obtain ⟨p0, p1, p2, p3, p4⟩ := V1.out; obtain ⟨q0, q1, q2, q3, q4⟩ := U1.out) | (go_at_call 16; (with_reducible refine ((CK _).out).mono ?_); rintro e w2 ⟨rfl, hb2⟩; have HB2 := Lib.hid (below_nxt HB1.out hb2); obtain ⟨p0, p1, p2, p3, p4⟩ := V1.out.step hb2; obtain ⟨q0, q1, q2, q3, q4⟩ := U1.out.step hb2) | (go_at_call 64; (with_reducible refine ((CG _).out).mono ?_); rintro e w3 ⟨rfl, hb3⟩; have HB3 := Lib.hid (below_nxt HB2.out hb3)))
      exact bodyPost_ret (v := .tuple #[.bool false, .int .i64 k]) (by simp [results, Tryd.results29, go_sem]) rfl ⟨rfl, HB2.out⟩
  · have ht' : (Ic.tchk n on m fr != 0) = true := by simp [ht]
    rw [if_pos ht] at hr
    subst hr
    generalize Ic.tchk n on m fr = k at *
    clear ho hf hc hv L0
    go_enter Tryd.func29, Tryd.ntmps29
    go_wp2_with (first | (go_at_call 31; (with_reducible refine ((CT _).out).mono ?_); rintro e w1 ⟨rfl, hb1⟩; have HB1 := Lib.hid (below_nxt HL.out hb1); have V1 := Lib.hid (HP0.out.step hb1); have U1 := Lib.hid (HP1.out.step hb1); obtain ⟨p0, p1, p2, p3, p4⟩ := V1.out; obtain ⟨q0, q1, q2, q3, q4⟩ := U1.out) | (go_at_call 16; (with_reducible refine ((CK _).out).mono ?_); rintro e w2 ⟨rfl, hb2⟩; have HB2 := Lib.hid (below_nxt HB1.out hb2); obtain ⟨p0, p1, p2, p3, p4⟩ := V1.out.step hb2; obtain ⟨q0, q1, q2, q3, q4⟩ := U1.out.step hb2) | (go_at_call 64; (with_reducible refine ((CG _).out).mono ?_); rintro e w3 ⟨rfl, hb3⟩; have HB3 := Lib.hid (below_nxt HB2.out hb3)))
    exact bodyPost_ret (v := .tuple #[.bool false, .int .i64 k]) (by simp [results, Tryd.results29, go_sem]) rfl ⟨rfl, HB1.out⟩

set_option maxHeartbeats 2000000 in
set_option maxRecDepth 100000 in
theorem iImplies_any (n : Int) (on : Nat) (m : Int) (fr c v : Nat) (w : World) (ho : on < 2 ^ 64) (hf : fr < 2 ^ 64) (hc : c < 2 ^ 64) (hv : v < 2 ^ 64) (hst : St w) :
    Calls Tryd.prog 28 #[.agg #[.int .i64 n, .int .u64 on, .int .i64 m, .int .u64 fr], .agg #[.int .u64 c, .int .u64 v]] w fun e w' => e = .returned (.tuple #[.bool (Ic.impV n on m fr c v).1, .int .i64 (Ic.impV n on m fr c v).2]) ∧ Below w.heap.size w w' := by
  have CT := fun W => Lib.hid (iCheckTask_any n on m fr W ho hf)
  have CK := fun W => Lib.hid (iCheck_any n c v W hc hv)
  have HST := Lib.hid hst
  obtain ⟨P0, L0, z0⟩ := task_new w n on m fr 58
  obtain ⟨P1, L1, z1⟩ := cub1_new (w.alloc (.cells #[.int .i64 n, .int .u64 (on : Int), .int .i64 m, .int .u64 (fr : Int)] 58)) c v 24
  replace P0 := P0.step L1
  replace L0 := below_nxt L0 L1
  rw [z0] at P1 z1
  clear L1 z0
  generalize hX : (w.alloc (.cells #[.int .i64 n, .int .u64 (on : Int), .int .i64 m, .int .u64 (fr : Int)] 58)).alloc (.cells #[.int .u64 (c : Int), .int .u64 (v : Int)] 24) = X at *
  have HL := Lib.hid L0
  have HP0 := Lib.hid P0
  have HP1 := Lib.hid P1
  obtain ⟨p0, p1, p2, p3, p4⟩ := P0
  obtain ⟨q0, q1, q2, q3, q4⟩ := P1
  obtain ⟨r, hr⟩ : ∃ r, Ic.impV n on m fr c v = r := ⟨_, rfl⟩
  rw [hr]
  unfold Ic.impV at hr
  by_cases ht : Ic.tchk n on m fr = 0
  · rw [ht] at CT
    by_cases hk : Ic.chk n c v = 0
    · obtain ⟨j, rfl, hj, hcj, hs⟩ := Ic.chk_nat hv hk
      have CG := fun W h => Lib.hid (iImp_any j on m fr c v W hj ho hf hcj hs h)
      rw [if_neg (by simp [ht]), if_neg (by simp [hk]), Int.toNat_natCast] at hr
      rw [hk] at CK
      subst hr
      generalize Ic.imp j on fr c v = b at *
      clear ht hk ho hf hc hv hcj hs L0
      go_enter Tryd.func28, Tryd.ntmps28
      go_wp2_with (first | (go_at_call 30; (with_reducible refine ((CT _).out).mono ?_); rintro e w1 ⟨rfl, hb1⟩; have HB1 := Lib.hid (below_nxt HL.out hb1); have V1 := Lib.hid (HP0.out.step hb1); have U1 := Lib.hid (HP1.out.step hb1); obtain ⟨p0, p1, p2, p3, p4⟩ := V1.out; obtain ⟨q0, q1, q2, q3, q4⟩ := U1.out) | (go_at_call 15; (with_reducible refine ((CK _).out).mono ?_); rintro e w2 ⟨rfl, hb2⟩; have HB2 := Lib.hid (below_nxt HB1.out hb2); obtain ⟨p0, p1, p2, p3, p4⟩ := V1.out.step hb2; obtain ⟨q0, q1, q2, q3, q4⟩ := U1.out.step hb2) | (go_at_call 63; (with_reducible refine ((CG _ (HST.out.next HB2.out)).out).mono ?_); rintro e w3 ⟨rfl, hb3⟩; have HB3 := Lib.hid (below_nxt HB2.out hb3)))
      exact bodyPost_ret (v := .tuple #[.bool b, .int .i64 0]) (by simp [results, Tryd.results28, go_sem]) rfl ⟨rfl, HB3.out⟩
    · have hk' : (Ic.chk n c v != 0) = true := by simp [hk]
      rw [if_neg (by simp [ht]), if_pos hk] at hr
      subst hr
      generalize Ic.chk n c v = k at *
      clear ht ho hf hc hv L0
      go_enter Tryd.func28, Tryd.ntmps28
      go_wp2_with (first | (go_at_call 30; (with_reducible refine ((CT _).out).mono ?_); rintro e w1 ⟨rfl, hb1⟩; have HB1 := Lib.hid (below_nxt HL.out hb1); have V1 := Lib.hid (HP0.out.step hb1); have U1 := Lib.hid (HP1.out.step hb1); obtain ⟨p0, p1, p2, p3, p4⟩ := V1.out; obtain ⟨q0, q1, q2, q3, q4⟩ := U1.out) | (go_at_call 15; (with_reducible refine ((CK _).out).mono ?_); rintro e w2 ⟨rfl, hb2⟩; have HB2 := Lib.hid (below_nxt HB1.out hb2); obtain ⟨p0, p1, p2, p3, p4⟩ := V1.out.step hb2; obtain ⟨q0, q1, q2, q3, q4⟩ := U1.out.step hb2) | (go_at_call 63; (with_reducible refine ((CG _ (HST.out.next HB2.out)).out).mono ?_); rintro e w3 ⟨rfl, hb3⟩; have HB3 := Lib.hid (below_nxt HB2.out hb3)))
      exact bodyPost_ret (v := .tuple #[.bool false, .int .i64 k]) (by simp [results, Tryd.results28, go_sem]) rfl ⟨rfl, HB2.out⟩
  · have ht' : (Ic.tchk n on m fr != 0) = true := by simp [ht]
    rw [if_pos ht] at hr
    subst hr
    generalize Ic.tchk n on m fr = k at *
    clear ho hf hc hv L0
    go_enter Tryd.func28, Tryd.ntmps28
    go_wp2_with (first | (go_at_call 30; (with_reducible refine ((CT _).out).mono ?_); rintro e w1 ⟨rfl, hb1⟩; have HB1 := Lib.hid (below_nxt HL.out hb1); have V1 := Lib.hid (HP0.out.step hb1); have U1 := Lib.hid (HP1.out.step hb1); obtain ⟨p0, p1, p2, p3, p4⟩ := V1.out; obtain ⟨q0, q1, q2, q3, q4⟩ := U1.out) | (go_at_call 15; (with_reducible refine ((CK _).out).mono ?_); rintro e w2 ⟨rfl, hb2⟩; have HB2 := Lib.hid (below_nxt HB1.out hb2); obtain ⟨p0, p1, p2, p3, p4⟩ := V1.out.step hb2; obtain ⟨q0, q1, q2, q3, q4⟩ := U1.out.step hb2) | (go_at_call 63; (with_reducible refine ((CG _ (HST.out.next HB2.out)).out).mono ?_); rintro e w3 ⟨rfl, hb3⟩; have HB3 := Lib.hid (below_nxt HB2.out hb3)))
    exact bodyPost_ret (v := .tuple #[.bool false, .int .i64 k]) (by simp [results, Tryd.results28, go_sem]) rfl ⟨rfl, HB1.out⟩
end Go.Proofs.YtabflijfbjdpgaaDoor
