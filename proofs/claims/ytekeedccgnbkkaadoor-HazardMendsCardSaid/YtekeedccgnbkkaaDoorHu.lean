/- The law HazardNotices. -/
import Derived.Test.YtekeedccgnbkkaaDoorHq
import Derived.Test.YtekeedccgnbkkaaDoorHA
import Derived.Test.YtekeedccgnbkkaaDoorHs
import Derived.Test.YtekeedccgnbkkaaDoorHF
namespace Hz
theorem rgt_iff {n : Int} {l : List (Nat × Nat)} : rgt n l = true ↔ few l = true ∧ n ≤ 5 ∧ chk n l = 0 := by unfold rgt; simp
theorem rgt_nat {n : Int} {l : List (Nat × Nat)} (hw : W64 l) (h : rgt n l = true) : ∃ m : Nat, n = m ∧ m ≤ 5 ∧ l.length ≤ 30 ∧ Ok m l := by
  obtain ⟨h1, h2, h3⟩ := rgt_iff.1 h
  obtain ⟨m, rfl, hm, hl, ho⟩ := chk_ok (fun p hp => (hw p hp).2) h3
  refine ⟨m, rfl, by omega, ?_, ho⟩
  unfold few at h1
  simp at h1
  omega
theorem xor_or {z k : Nat} (h : z.testBit k = false) : z ^^^ 2 ^ k = z ||| 2 ^ k := Nat.eq_of_testBit_eq fun i => by
  rw [Nat.testBit_xor, Nat.testBit_or, Nat.testBit_two_pow]
  by_cases e : k = i
  · rw [← e, h]; simp
  · simp [e]
theorem or_gt {z k : Nat} (h : z.testBit k = false) : z < z ||| 2 ^ k := by
  refine Nat.lt_of_le_of_ne Nat.left_le_or fun e => ?_
  have : (z ||| 2 ^ k).testBit k = true := by rw [Nat.testBit_or, Nat.testBit_two_pow]; simp
  rw [← e, h] at this; cases this
theorem bad_pair {n z k : Nat} {l : List (Nat × Nat)} (hz : z < 2 ^ n) (hk : k < n) (h : z.testBit k = false) : (bad n l).any (fun y => y == (z, z ||| 2 ^ k)) = true ↔ cv l z = true ∧ cv l (z ||| 2 ^ k) = true ∧ tog l (z, z ||| 2 ^ k) = false := by
  have hy : z ||| 2 ^ k < 2 ^ n := Nat.or_lt_two_pow hz (Nat.pow_lt_pow_right (by omega) hk)
  have : (bad n l).any (fun y => y == (z, z ||| 2 ^ k)) = true ↔ (z, z ||| 2 ^ k) ∈ bad n l := by
    rw [List.any_eq_true]
    exact ⟨fun ⟨y, hy, e⟩ => by rw [← beq_iff_eq.1 e]; exact hy, fun h => ⟨_, h, by simp⟩⟩
  rw [this, bad_mem, nbrs_mem]
  constructor
  · rintro ⟨⟨h1, h2, k', h3, h4, h5, h6⟩, h7⟩
    rw [made_bit hz] at h2
    refine ⟨h2, ?_, h7⟩
    have h8 : (z ||| 2 ^ k) = z ||| 2 ^ k' := h6
    have h9 : (made n l).testBit (z ||| 2 ^ k') = true := h5
    rw [← h8, made_bit hy] at h9
    exact h9
  · rintro ⟨h1, h2, h3⟩
    refine ⟨⟨hz, by rw [made_bit hz]; exact h1, k, hk, ?_, by rw [made_bit hy]; exact h2, rfl⟩, h3⟩
    exact Nat.ne_of_gt (or_gt h)
theorem tog_comm (l : List (Nat × Nat)) (a b : Nat) : tog l (a, b) = tog l (b, a) := by
  unfold tog jn
  congr 1
  funext c
  exact Bool.and_comm _ _
end Hz
namespace Go.Proofs.YtekeedccgnbkkaaDoor
open Go.RowKit Go.Shelf

/-- The cells of two bytes. -/
def ByI (W : World) (g x y : Nat) : Prop := g < W.heap.size ∧ W.cell? ⟨g, 0, none⟩ = some (.int .u8 (x : Int)) ∧ W.cell? ⟨g, 1, none⟩ = some (.int .u8 (y : Int))
theorem ByI.step {W W' : World} {g x y : Nat} (h : ByI W g x y) (hb : Below W.heap.size W W') : ByI W' g x y :=
  ⟨Nat.lt_of_lt_of_le h.1 hb.size, (hb.cell (p := ⟨g, 0, none⟩) h.1).trans h.2.1, (hb.cell (p := ⟨g, 1, none⟩) h.1).trans h.2.2⟩
theorem byI_new (w : World) (x y : Nat) (T : TypeId) : ByI (w.alloc (.cells #[.int .u8 (x : Int), .int .u8 (y : Int)] T)) w.heap.size x y ∧ Below w.heap.size w (w.alloc (.cells #[.int .u8 (x : Int), .int .u8 (y : Int)] T)) :=
  ⟨by unfold ByI; simp, (Below.refl _ w).alloc (Nat.le_refl _) _⟩

theorem xor_small : ∀ a, a < 64 → ∀ k, k < 6 → bits .xor .i64 ((a : Nat) : Int) (wrap64 ((2 : Int) ^ k)) = ((a ^^^ 2 ^ k : Nat) : Int) := by decide +kernel

set_option maxHeartbeats 4000000 in
set_option maxRecDepth 100000 in
theorem notices_any (n : Int) (l : List (Nat × Nat)) (v : Value) (x y : Nat) (w : World) (hx : x < 256) (hy : y < 256) (hw : Hz.W64 l) (hs : SeesO w v l) (ha : Al w) :
    Calls Tryd.prog 5 #[.int .i64 n, v, .agg #[.int .u8 x, .int .u8 y]] w fun e w' => e = .returned (.bool true) ∧ Below w.heap.size w w' := by
  have CR := fun W h => Lib.hid (right_any n l v W hw h)
  have HSE := Lib.hid hs
  have HA := Lib.hid ha
  obtain ⟨P0, L0⟩ := byI_new w x y 49
  have HL := Lib.hid L0
  have HP := Lib.hid P0
  clear L0 P0
  cases hr : Hz.rgt n l
  · rw [hr] at CR
    clear hs ha hr
    go_enter Tryd.func5, Tryd.ntmps5
    go_wp2_with (first | (go_at_call 6; (with_reducible refine ((CR _ (HSE.out.step HL.out)).out).mono ?_); rintro e w1 ⟨rfl, hb⟩; have HB1 := Lib.hid (below_nxt HL.out hb)) | (go_at_call 7; (with_reducible refine (awake_any _ (HA.out.next HB1.out)).mono ?_); rintro e w2 ⟨rfl, hb2⟩))
    go_ret
    exact ⟨rfl, below_nxt HB1.out hb2⟩
  · obtain ⟨m, rfl, hm, hlen, ho⟩ := Hz.rgt_nat hw hr
    rw [hr] at CR
    clear hs ha hr
    by_cases hm0 : m = 0
    · subst hm0
      go_enter Tryd.func5, Tryd.ntmps5
      go_wp2_with (first | (go_at_call 6; refine ((CR _ (HSE.out.step HL.out)).out).mono ?_; rintro e w1 ⟨rfl, hb⟩; have HB1 := Lib.hid (below_nxt HL.out hb)) | (go_at_call 7; (with_reducible refine (awake_any _ (HA.out.next HB1.out)).mono ?_); rintro e w2 ⟨rfl, hb2⟩))
      go_ret
      exact ⟨rfl, below_nxt HB1.out hb2⟩
    · have CS : ∀ W, Calls Tryd.prog 8 #[.int .i64 m] W fun e w' => e = .returned (.int .i64 ((2 ^ m : Nat) : Int)) ∧ w' = W := fun W => (rSize_any m W (by omega) (by omega)).mono fun e w' h => ⟨by rw [h.1, Int.toNat_natCast], h.2.symm⟩
      have CT := fun W h h' => Lib.hid (hTable_ok m l v W (by omega) (by omega) ho hw h h')
      have CH := fun W h h1 h2 => Lib.hid (hHaz_ok m l v W (by omega) (by omega) ho hw h h1 h2)
      go_enter Tryd.func5, Tryd.ntmps5
      go_wp2_with fail
      refine ((CR _ (HSE.out.step HL.out)).out).mono ?_
      rintro e w1 ⟨rfl, hb⟩
      have HB1 := Lib.hid (below_nxt HL.out hb)
      obtain ⟨p0, p1, p2⟩ := HP.out.step hb
      clear hb
      have hm0' : ¬ ((m : Int) = 0) := by omega
      have h32 : 2 ^ m ≤ 32 := Nat.pow_le_pow_right (n := 2) (by omega) hm
      have hNp : 0 < 2 ^ m := Nat.pow_pos (by omega)
      obtain ⟨N, hN⟩ : ∃ N, 2 ^ m = N := ⟨_, rfl⟩
      rw [hN] at CS h32 hNp
      have HN := Lib.hid hN
      clear hN
      obtain ⟨a, hxa⟩ : ∃ a, x % N = a := ⟨_, rfl⟩
      have han : a < N := by rw [← hxa]; exact Nat.mod_lt _ hNp
      have e1 : (x : Int) % (N : Int) = (a : Int) := by rw [← hxa]; simp
      obtain ⟨k, hyk⟩ : ∃ k, y % m = k := ⟨_, rfl⟩
      have hkm : k < m := by rw [← hyk]; exact Nat.mod_lt _ (by omega)
      have e2 : (y : Int) % (m : Int) = (k : Int) := by rw [← hyk]; simp
      have e3 : bits .xor .i64 (a : Int) (wrap64 ((2 : Int) ^ k)) = ((a ^^^ 2 ^ k : Nat) : Int) := xor_small a (by omega) k (by omega)
      obtain ⟨b, hb⟩ : ∃ b, a ^^^ 2 ^ k = b := ⟨_, rfl⟩
      rw [hb] at e3
      have HBI := Lib.hid hb
      clear hxa hyk hb
      have hN0 : ¬ ((N : Int) = 0) := by omega
      have hmix : Tryd.prog.follows .mixedOrders = true := by kernel_rfl
      go_wp2_with fail
      go_quiet (first | (go_at_call 8; exact Calls.quiet_of_same (CS _)))
      simp only [e1]
      have HB2 := Lib.hid (HB1.out.trans (below_drewN w1 nq))
      rw [← HN.out] at han
      have hbn : b < 2 ^ m := by rw [← HBI.out]; exact Nat.xor_lt_two_pow han (Nat.pow_lt_pow_right (by omega) hkm)
      have hab : ∀ j, b.testBit j = (a.testBit j != decide (k = j)) := fun j => by rw [← HBI.out, Nat.testBit_xor, Nat.testBit_two_pow]
      have CL : ∀ W, SeesO W v l → Al W → Hid (Calls Tryd.prog 15 #[.int .i64 m, v, .agg #[.int .i64 a, .int .i64 b]] W fun e w' => e = .returned (.tuple #[.bool (Hz.logB m l a b), .int .i64 0]) ∧ Below W.heap.size W w') := fun W h h2 => by
        have hc := hLog_any m l v a b W hw h h2.st h2.ta
        have hz : Hz.chg m l a b = 0 := by
          have e : ((2 : Int) ^ m) = ((2 ^ m : Nat) : Int) := by simp
          unfold Hz.chg
          rw [Hz.ok_chk (by omega) (by omega) ho, if_neg (by simp), Int.toNat_natCast, if_neg (by rw [e]; omega)]
        have hv : Hz.logV m l a b = (Hz.logB m l a b, 0) := by unfold Hz.logV; rw [if_pos hz]; simp
        rw [hv] at hc
        exact Lib.hid hc
      have hnot := Hz.notices (by omega) han hbn hkm ho hab
      have hbit : ∀ j, j < 2 ^ m → (Hz.made m l).testBit j = Hz.cv l j := fun j hj => Hz.made_bit hj
      go_wp2_with fail
      refine ((CT _ (HSE.out.step HB2.out) (HA.out.next HB2.out).st).out).mono ?_
      rintro e w3 ⟨rfl, hb⟩
      have HB3 := Lib.hid (below_nxt HB2.out hb)
      clear hb
      have hBL := (Below.refl w3.heap.size w3).alloc (Nat.le_refl _) (.cells #[.int .i64 (m : Int), .int .u64 ((Hz.made m l : Nat) : Int)] 29)
      obtain ⟨TB, -, -⟩ := tab1_new w3 m (Hz.made m l) 29
      have HB4 := Lib.hid (below_nxt HB3.out hBL)
      have HTB := Lib.hid TB
      clear hBL TB
      have hmd : (Hz.made m l).testBit a = Hz.cv l a := hbit a han
      have HCON : Hid (∃ p : Nat × Nat, min (a : Int) (b : Int) = (p.1 : Nat) ∧ max (a : Int) (b : Int) = (p.2 : Nat) ∧ (Hz.bad m l).any (fun y => y == p) = Hz.logB m l a b) := by
        refine Lib.hid ?_
        cases hak : a.testBit k
        · have hbo : b = a ||| 2 ^ k := by rw [← HBI.out, Hz.xor_or hak]
          have hlt := Hz.or_gt hak
          rw [← hbo] at hlt
          refine ⟨(a, b), by simp only; omega, by simp only; omega, ?_⟩
          rw [Bool.eq_iff_iff, hnot, hbo]
          exact Hz.bad_pair han hkm hak
        · have hbk : b.testBit k = false := by rw [hab k, hak]; simp
          have hao : a = b ||| 2 ^ k := by
            rw [← Hz.xor_or hbk, ← HBI.out, Nat.xor_assoc, Nat.xor_self, Nat.xor_zero]
          have hlt := Hz.or_gt hbk
          rw [← hao] at hlt
          refine ⟨(b, a), by simp only; omega, by simp only; omega, ?_⟩
          rw [Bool.eq_iff_iff, hnot, Hz.tog_comm l a b]
          have := Hz.bad_pair (l := l) hbn hkm hbk
          rw [← hao] at this
          rw [this]
          exact ⟨fun ⟨h1, h2, h3⟩ => ⟨h2, h1, h3⟩, fun ⟨h1, h2, h3⟩ => ⟨h2, h1, h3⟩⟩
      have HSEEN : Hid (Hz.logB m l a b = true → Hz.cv l a = true) := Lib.hid (fun h => (hnot.1 h).1)
      clear hnot hbit hab
      have hml : Hz.made m l < 18446744073709551616 := by have := Tt.w64 (show m ≤ 6 by omega) (Hz.made_lt m l); simpa using this
      generalize Hz.made m l = md at *
      go_wp2_with fail
      refine ((CH _ (HSE.out.step HB4.out) (HA.out.next HB4.out).st (HA.out.next HB4.out).sz).out).mono ?_
      rintro e w5 ⟨bv, rfl, hbv, hb⟩
      have HB5 := Lib.hid (below_nxt HB4.out hb)
      have HT5 := Lib.hid (HTB.out.step hb)
      have HBV := Lib.hid hbv
      clear hb hbv
      go_wp2_with fail
      refine ((CL _ (HSE.out.step HB5.out) (HA.out.next HB5.out)).out).mono ?_
      rintro e w6 ⟨rfl, hb⟩
      have HB6 := Lib.hid (below_nxt HB5.out hb)
      have HT6 := HT5.out.step hb
      have HBV6 := Lib.hid (HBV.out.step hb)
      obtain ⟨t0, t1, t2, t3, t4⟩ := HT6
      clear hb
      have ha64 : a < 64 := by have h := han; rw [HN.out] at h; omega
      go_wp2_with fail
      obtain ⟨p, hp1, hp2, hcon⟩ := HCON.out
      rw [hp1, hp2]
      refine (sContP_any bv (Hz.bad m l) p w6 HBV6.out).mono ?_
      rintro e w7 ⟨rfl, hb⟩
      have HB7 := Lib.hid (below_nxt HB6.out hb)
      obtain ⟨t0', t1, t2, t3, t4⟩ := (show TabI w6 w3.heap.size m md from ⟨t0, t1, t2, t3, t4⟩).step hb
      rw [hcon]
      have hb1 : (bits .and .u64 ((md : Int) / 2 ^ a) 1 == 1) = md.testBit a := by
        rw [bit_andI a (b := md) (by simpa using hml)]; cases md.testBit a <;> rfl
      rw [hmd] at hb1
      clear hb hp1 hp2 hcon hmd
      generalize Hz.logB m l a b = sn at *
      cases sn
      · go_wp2_with (go_at_call 7; (with_reducible refine (awake_any _ (HA.out.next HB7.out)).mono ?_); rintro e w8 ⟨rfl, hb8⟩)
        go_ret
        exact ⟨rfl, below_nxt HB7.out hb8⟩
      · rw [HSEEN.out rfl] at hb1
        go_wp2_with (go_at_call 7; (with_reducible refine (awake_any _ (HA.out.next HB7.out)).mono ?_); rintro e w8 ⟨rfl, hb8⟩)
        go_ret
        exact ⟨rfl, below_nxt HB7.out hb8⟩
end Go.Proofs.YtekeedccgnbkkaaDoor
