/- The law HazardSteady. -/
import Derived.Test.YtekeedccgnbkkaaDoorHu
namespace Go.Proofs.YtekeedccgnbkkaaDoor
open Go.RowKit Go.Shelf
theorem andNot_small64 : ∀ a, a < 64 → ∀ z, z < 64 → bits .andNot .i64 ((a : Nat) : Int) ((z : Nat) : Int) = ((a &&& (18446744073709551615 - z) : Nat) : Int) := by decide +kernel
theorem and_small256 : ∀ c, c < 256 → ∀ z, z < 64 → bits .and .i64 ((c : Nat) : Int) ((z : Nat) : Int) = ((c &&& z : Nat) : Int) := by decide +kernel
theorem or_small64 : ∀ a, a < 64 → ∀ z, z < 64 → bits .or .i64 ((a : Nat) : Int) ((z : Nat) : Int) = ((a ||| z : Nat) : Int) := by decide +kernel
/-- The cells of three bytes. -/
def By3 (W : World) (g x y z : Nat) : Prop := g < W.heap.size ∧ W.cell? ⟨g, 0, none⟩ = some (.int .u8 (x : Int)) ∧ W.cell? ⟨g, 1, none⟩ = some (.int .u8 (y : Int)) ∧ W.cell? ⟨g, 2, none⟩ = some (.int .u8 (z : Int))
theorem By3.step {W W' : World} {g x y z : Nat} (h : By3 W g x y z) (hb : Below W.heap.size W W') : By3 W' g x y z :=
  ⟨Nat.lt_of_lt_of_le h.1 hb.size, (hb.cell (p := ⟨g, 0, none⟩) h.1).trans h.2.1, (hb.cell (p := ⟨g, 1, none⟩) h.1).trans h.2.2.1, (hb.cell (p := ⟨g, 2, none⟩) h.1).trans h.2.2.2⟩
theorem by3_new (w : World) (x y z : Nat) (T : TypeId) : By3 (w.alloc (.cells #[.int .u8 (x : Int), .int .u8 (y : Int), .int .u8 (z : Int)] T)) w.heap.size x y z ∧ Below w.heap.size w (w.alloc (.cells #[.int .u8 (x : Int), .int .u8 (y : Int), .int .u8 (z : Int)] T)) :=
  ⟨by unfold By3; simp, (Below.refl _ w).alloc (Nat.le_refl _) _⟩

set_option maxHeartbeats 4000000 in
set_option maxRecDepth 100000 in
theorem steady_any (n : Int) (l : List (Nat × Nat)) (v : Value) (x y z : Nat) (w : World) (hx : x < 256) (hy : y < 256) (hz : z < 256) (hw : Hz.W64 l) (hs : SeesO w v l) (ha : Al w) :
    Calls Tryd.prog 3 #[.int .i64 n, v, .agg #[.int .u8 x, .int .u8 y, .int .u8 z]] w fun e w' => e = .returned (.bool true) ∧ Below w.heap.size w w' := by
  have CR := fun W h => Lib.hid (right_any n l v W hw h)
  have HSE := Lib.hid hs
  have HA := Lib.hid ha
  obtain ⟨P0, L0⟩ := by3_new w x y z 23
  have HL := Lib.hid L0
  have HP := Lib.hid P0
  clear L0 P0
  cases hr : Hz.rgt n l
  · rw [hr] at CR
    clear hs ha hr
    go_enter Tryd.func3, Tryd.ntmps3
    go_wp2_with (first | (go_at_call 6; (with_reducible refine ((CR _ (HSE.out.step HL.out)).out).mono ?_); rintro e w1 ⟨rfl, hb⟩; have HB1 := Lib.hid (below_nxt HL.out hb)) | (go_at_call 7; (with_reducible refine (awake_any _ (HA.out.next HB1.out)).mono ?_); rintro e w2 ⟨rfl, hb2⟩))
    go_ret
    exact ⟨rfl, below_nxt HB1.out hb2⟩
  · obtain ⟨m, rfl, hm, hlen, ho⟩ := Hz.rgt_nat hw hr
    rw [hr] at CR
    clear hs ha hr
    have CS : ∀ W, Calls Tryd.prog 8 #[.int .i64 m] W fun e w' => e = .returned (.int .i64 ((2 ^ m : Nat) : Int)) ∧ w' = W := fun W => (rSize_any m W (by omega) (by omega)).mono fun e w' h => ⟨by rw [h.1, Int.toNat_natCast], h.2.symm⟩
    have CT := fun W h h' => Lib.hid (hTable_ok m l v W (by omega) (by omega) ho hw h h')
    have CB : ∀ p q : Nat, p < 2 ^ m → q < 2 ^ m → ∀ W, SeesO W v l → Tabs W → Hid (Calls Tryd.prog 10 #[.int .i64 m, v, .agg #[.int .i64 p, .int .i64 q]] W fun e w' => e = .returned (.tuple #[.int .i64 ((Hz.sm m p q l : Nat) : Int), .int .i64 0]) ∧ Below W.heap.size W w') := fun p q hp hq W h ht => by
      have hc := hBet_any m l v p q W hw h ht
      have hzz : Hz.chg m l p q = 0 := by
        have e : ((2 : Int) ^ m) = ((2 ^ m : Nat) : Int) := by simp
        unfold Hz.chg
        rw [Hz.ok_chk (by omega) (by omega) ho, if_neg (by simp), Int.toNat_natCast, if_neg (by rw [e]; omega)]
      have hv : Hz.betV m l p q = (Hz.sm m p q l, 0) := by unfold Hz.betV; rw [if_pos hzz]; simp
      rw [hv] at hc
      exact Lib.hid hc
    have h32 : 2 ^ m ≤ 32 := Nat.pow_le_pow_right (n := 2) (by omega) hm
    have hNp : 0 < 2 ^ m := Nat.pow_pos (by omega)
    obtain ⟨a, hxa⟩ : ∃ a, x % 2 ^ m = a := ⟨_, rfl⟩
    obtain ⟨b, hyb⟩ : ∃ b, y % 2 ^ m = b := ⟨_, rfl⟩
    have han : a < 2 ^ m := by rw [← hxa]; exact Nat.mod_lt _ hNp
    have hbn : b < 2 ^ m := by rw [← hyb]; exact Nat.mod_lt _ hNp
    have e1 : (x : Int) % ((2 ^ m : Nat) : Int) = (a : Int) := by rw [← hxa]; simp
    have e2 : (y : Int) % ((2 ^ m : Nat) : Int) = (b : Int) := by rw [← hyb]; simp
    have ha64 : a < 64 := by omega
    have hb64 : b < 64 := by omega
    obtain ⟨q, hq⟩ : ∃ q, a ^^^ b = q := ⟨_, rfl⟩
    have hq64 : q < 64 := by rw [← hq]; exact Nat.xor_lt_two_pow (n := 6) ha64 hb64
    have e3 : bits .xor .i64 (a : Int) (b : Int) = (q : Int) := by rw [← hq]; exact i64_xor_small a ha64 b hb64
    obtain ⟨d, hd⟩ : ∃ d, a &&& (18446744073709551615 - q) = d := ⟨_, rfl⟩
    have hd64 : d < 64 := by rw [← hd]; exact Nat.lt_of_le_of_lt Nat.and_le_left ha64
    have e4 : bits .andNot .i64 (a : Int) (q : Int) = (d : Int) := by rw [← hd]; exact andNot_small64 a ha64 q hq64
    obtain ⟨f, hf⟩ : ∃ f, z &&& q = f := ⟨_, rfl⟩
    have hf64 : f < 64 := by rw [← hf]; exact Nat.lt_of_le_of_lt Nat.and_le_right hq64
    have e5 : bits .and .i64 (z : Int) (q : Int) = (f : Int) := by rw [← hf]; exact and_small256 z hz q hq64
    obtain ⟨mm, hmm⟩ : ∃ mm, d ||| f = mm := ⟨_, rfl⟩
    have e6 : bits .or .i64 (d : Int) (f : Int) = (mm : Int) := by rw [← hmm]; exact or_small64 d hd64 f hf64
    have hmid : mm = Hz.mid a b z := by rw [← hmm, ← hd, ← hf, ← hq]; rfl
    have hmn : mm < 2 ^ m := by rw [hmid]; exact Hz.mid_lt' (by omega) han hbn
    have CV := fun W => Lib.hid (tValue_ok m (Hz.made m l) mm W (by omega) (Tt.w64 (show m ≤ 6 by omega) (Hz.made_lt m l)) (Hz.made_chk (by omega) l) hmn)
    rw [Hz.made_bit hmn] at CV
    have C1 := fun W h h' => CB a b han hbn W h h'
    have C2 := fun W h h' => CB mm mm hmn hmn W h h'
    have C3 := fun W h h' => CB a mm han hmn W h h'
    have hself := Hz.sm_self (show m ≤ 6 by omega) hmn ho
    rw [hself] at C2
    have HST : Hid (Hz.sm m a b l ≠ 2 → Hz.sm m a b l = (if Hz.cv l mm then 1 else 0) ∧ Hz.sm m a mm l = Hz.sm m a b l) := Lib.hid (fun h => by rw [hmid]; exact Hz.steady (show m ≤ 6 by omega) han hbn ho h)
    generalize Hz.sm m a b l = s1 at *
    generalize Hz.sm m a mm l = s3 at *
    generalize Hz.cv l mm = vv at *
    generalize Hz.made m l = md at *
    obtain ⟨N, hN⟩ : ∃ N, 2 ^ m = N := ⟨_, rfl⟩
    rw [hN] at CS e1 e2 h32 hNp
    have hN0 : ¬ ((N : Int) = 0) := by omega
    have hmix : Tryd.prog.follows .mixedOrders = true := by kernel_rfl
    clear hN hmid hxa hyb hq hd hf hmm hself CB
    cases vv
    all_goals
      simp only [Bool.false_eq_true, if_false, if_true] at C2 HST
      go_enter Tryd.func3, Tryd.ntmps3
      go_wp2_with fail
      refine ((CR _ (HSE.out.step HL.out)).out).mono ?_
      rintro e w1 ⟨rfl, hb⟩
      have HB1 := Lib.hid (below_nxt HL.out hb)
      obtain ⟨p0, p1, p2, p3⟩ := HP.out.step hb
      clear hb
      go_wp2_with fail
      go_quiet (first | (go_at_call 8; exact Calls.quiet_of_same (CS _)))
      simp only [e1, e2]
      have HB2 := Lib.hid (HB1.out.trans (below_drewN w1 nq))
      go_wp2_with fail
      refine ((CT _ (HSE.out.step HB2.out) (HA.out.next HB2.out).st).out).mono ?_
      rintro e w3 ⟨rfl, hb⟩
      have HB3 := Lib.hid (below_nxt HB2.out hb)
      clear hb
      have hBL := (Below.refl w3.heap.size w3).alloc (Nat.le_refl _) (.cells #[.int .i64 (m : Int), .int .u64 ((md : Nat) : Int)] 29)
      obtain ⟨TB, -, -⟩ := tab1_new w3 m md 29
      have HB4 := Lib.hid (below_nxt HB3.out hBL)
      have HTB := Lib.hid TB
      clear hBL TB
      go_wp2_with fail
      refine ((C1 _ (HSE.out.step HB4.out) (HA.out.next HB4.out).ta).out).mono ?_
      rintro e w5 ⟨rfl, hb⟩
      have HB5 := Lib.hid (below_nxt HB4.out hb)
      have HT5 := HTB.out.step hb
      have HTX := Lib.hid HT5
      obtain ⟨t0, t1, t2, t3, t4⟩ := HT5
      clear hb
      go_wp2_with fail
      refine ((CV _).out).mono ?_
      rintro e w6 ⟨rfl, hb⟩
      have HB6 := Lib.hid (below_nxt HB5.out hb)
      clear hb
      go_wp2_with fail
      refine ((C2 _ (HSE.out.step HB6.out) (HA.out.next HB6.out).ta).out).mono ?_
      rintro e w7 ⟨rfl, hb⟩
      have HB7 := Lib.hid (below_nxt HB6.out hb)
      clear hb
      go_wp2_with fail
      refine ((C3 _ (HSE.out.step HB7.out) (HA.out.next HB7.out).ta).out).mono ?_
      rintro e w8 ⟨rfl, hb⟩
      have HB8 := Lib.hid (below_nxt HB7.out hb)
      clear hb
      by_cases h2 : s1 = 2
      · subst h2
        clear HST
        go_wp2_with (go_at_call 7; (with_reducible refine (awake_any _ (HA.out.next HB8.out)).mono ?_); rintro e w9 ⟨rfl, hb9⟩)
        go_ret
        exact ⟨rfl, below_nxt HB8.out hb9⟩
      · obtain ⟨k1, k2⟩ := HST.out h2
        clear HST h2
        subst k2
        subst k1
        go_wp2_with (go_at_call 7; (with_reducible refine (awake_any _ (HA.out.next HB8.out)).mono ?_); rintro e w9 ⟨rfl, hb9⟩)
        go_ret
        exact ⟨rfl, below_nxt HB8.out hb9⟩
end Go.Proofs.YtekeedccgnbkkaaDoor
