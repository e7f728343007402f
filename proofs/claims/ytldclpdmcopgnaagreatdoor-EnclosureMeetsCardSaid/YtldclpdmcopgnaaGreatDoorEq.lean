/- The contract of the order of two products of package enclosure. -/
import Derived.Test.YtldclpdmcopgnaaGreatDoorEp
import Derived.Deep.RegionHeld3
namespace Fr
theorem cmp_num (s : Bool) (m n k l : Nat) (hn : 0 < n) (hl : 0 < l) : cmpQ (num s m n) (num s k l) = (if s then -1 else 1) * Limb.cmpN (m * l) (k * n) := by
  have hnl : 0 < n * l := Nat.mul_pos hn hl
  rw [← cmpQ_sub, Rat.sub_eq_add_neg, ← num_neg]
  rcases Nat.lt_trichotomy (m * l) (k * n) with h | h | h
  · rw [← num_add_less s (!s) m n k l hn hl (by cases s <;> decide) (by omega), sgnQ_num _ _ _ hnl, if_neg (by omega), Limb.cmp_lt h]
    cases s <;> rfl
  · rw [← num_add_more s (!s) m n k l hn hl (by cases s <;> decide) (by omega), sgnQ_num _ _ _ hnl, if_pos (by omega), Limb.cmp_eq h]
    simp
  · rw [← num_add_more s (!s) m n k l hn hl (by cases s <;> decide) (by omega), sgnQ_num _ _ _ hnl, if_neg (by omega), Limb.cmp_gt h]
    cases s <;> rfl
theorem sgn_mul (p q : Bool) (m n k l : Nat) (hn : 0 < n) (hl : 0 < l) : sgnQ (num p m n) * sgnQ (num q k l) = sgnQ (num p m n * num q k l) := by
  rw [← num_mul, sgnQ_num _ _ _ hn, sgnQ_num _ _ _ hl, sgnQ_num _ _ _ (Nat.mul_pos hn hl)]
  rcases Nat.eq_zero_or_pos m with rfl | hm
  · simp
  · rcases Nat.eq_zero_or_pos k with rfl | hk
    · simp
    · have : m * k ≠ 0 := Nat.ne_of_gt (Nat.mul_pos hm hk)
      rw [if_neg (show ¬ m = 0 by omega), if_neg (show ¬ k = 0 by omega), if_neg this]
      cases p <;> cases q <;> rfl
theorem cmp_sgn (p q : Rat) (h : sgnQ p ≠ sgnQ q) : (if sgnQ p < sgnQ q then (-1 : Int) else if sgnQ q < sgnQ p then 1 else 0) = cmpQ p q := by
  unfold cmpQ
  unfold sgnQ at *
  by_cases h1 : p < 0 <;> by_cases h2 : q < 0 <;> by_cases h3 : p = 0 <;> by_cases h4 : q = 0 <;> by_cases h5 : p < q <;> by_cases h6 : p = q <;> simp [h1, h2, h3, h4, h5, h6] at h ⊢ <;> grind
theorem cmp_same (s t : Bool) (m n k l : Nat) (hn : 0 < n) (hl : 0 < l) (h : sgnQ (num s m n) = sgnQ (num t k l)) : sgnQ (num s m n) * Limb.cmpN (m * l) (k * n) = cmpQ (num s m n) (num t k l) := by
  have h1 := sgnQ_num s m n hn
  have h2 := sgnQ_num t k l hl
  rw [h1, h2] at h
  rcases Nat.eq_zero_or_pos m with rfl | hm
  · rcases Nat.eq_zero_or_pos k with rfl | hk
    · have e1 := (num_eq_zero s 0 n hn).2 rfl
      have e2 := (num_eq_zero t 0 l hl).2 rfl
      rw [h1, if_pos rfl, e1, e2, Int.zero_mul]
      rfl
    · rw [if_pos rfl, if_neg (show ¬ k = 0 by omega)] at h
      cases t <;> simp at h
  · rcases Nat.eq_zero_or_pos k with rfl | hk
    · rw [if_neg (show ¬ m = 0 by omega), if_pos rfl] at h
      cases s <;> simp at h
    · rw [if_neg (show ¬ m = 0 by omega), if_neg (show ¬ k = 0 by omega)] at h
      have e : s = t := by cases s <;> cases t <;> simp at h ⊢
      subst e
      rw [cmp_num s m n k l hn hl, h1, if_neg (by omega)]
/-- The order of two products by their signs and digits. -/
theorem prod_order {a b c d : ByteArray} (ka : chk a.data.toList = 0) (kb : chk b.data.toList = 0) (kc : chk c.data.toList = 0) (kd : chk d.data.toList = 0) {s t : Int} (hs : s = sgnQ (rat a.data.toList) * sgnQ (rat b.data.toList)) (ht : t = sgnQ (rat c.data.toList) * sgnQ (rat d.data.toList)) :
    (s ≠ t → (if s < t then (-1 : Int) else if t < s then 1 else 0) = cmpQ (rat a.data.toList * rat b.data.toList) (rat c.data.toList * rat d.data.toList)) ∧
    (s = t → s * Limb.cmpN (absN a * absN b * (denN c * denN d)) (absN c * absN d * (denN a * denN b)) = cmpQ (rat a.data.toList * rat b.data.toList) (rat c.data.toList * rat d.data.toList)) := by
  have ea := rat_absN ka
  have eb := rat_absN kb
  have ec := rat_absN kc
  have ed := rat_absN kd
  have pa : 0 < denN a := (parts_fact ka).2.2.2.2
  have pb : 0 < denN b := (parts_fact kb).2.2.2.2
  have pc : 0 < denN c := (parts_fact kc).2.2.2.2
  have pd : 0 < denN d := (parts_fact kd).2.2.2.2
  rw [ea, eb, sgn_mul _ _ _ _ _ _ pa pb] at hs
  rw [ec, ed, sgn_mul _ _ _ _ _ _ pc pd] at ht
  rw [ea, eb, ec, ed]
  subst hs ht
  refine ⟨fun h => cmp_sgn _ _ h, fun h => ?_⟩
  rw [← num_mul, ← num_mul] at h ⊢
  exact cmp_same _ _ _ _ _ _ (Nat.mul_pos pa pb) (Nat.mul_pos pc pd) h
end Fr
namespace Go.Proofs.YtldclpdmcopgnaaGreatDoor
open Go.RowKit
theorem dOrderN (u v : Value) (m n : Nat) (c : Int) (p q : Nat) (w : World) (hc : Hid (Limb.cmpN m n = c)) (hu : IsNat .i64 10 w u m p) (hv : IsNat .i64 10 w v n q) :
    Calls Tryz.prog 133 #[u, v] w fun e w' => e = .returned (.int .i64 c) ∧ Below w.heap.size w w' := by
  obtain ⟨a, sa, na, rfl, la⟩ := hu
  obtain ⟨b, sb, nb, rfl, lb⟩ := hv
  refine (dOrder_any u v a b w sa sb na nb).mono fun e w' ⟨h1, k, h2⟩ => ⟨by rw [h1, hc.out], by rw [h2]; exact below_drewN w k⟩
set_option maxRecDepth 100000 in
set_option maxHeartbeats 4000000 in
theorem pOrder_any (u v : Value) (a b c d : ByteArray) (w : World) (hu : PrV w u a b) (hv : PrV w v c d) (ka : Fr.chk a.data.toList = 0) (kb : Fr.chk b.data.toList = 0) (kc : Fr.chk c.data.toList = 0) (kd : Fr.chk d.data.toList = 0) :
    Calls Tryz.prog 103 #[u, v] w fun e w' => e = .returned (.int .i64 (Fr.cmpQ (Fr.rat a.data.toList * Fr.rat b.data.toList) (Fr.rat c.data.toList * Fr.rat d.data.toList))) ∧ Below w.heap.size w w' := by
  obtain ⟨nu, de, rfl, hn, hd⟩ := hu
  obtain ⟨nv, ee, rfl, hm, he⟩ := hv
  obtain ⟨m1, m2⟩ := Fr.prod_order ka kb kc kd rfl rfl
  obtain ⟨s, hs⟩ : ∃ s, s = Fr.sgnQ (Fr.rat a.data.toList) * Fr.sgnQ (Fr.rat b.data.toList) := ⟨_, rfl⟩
  obtain ⟨t, ht⟩ : ∃ t, t = Fr.sgnQ (Fr.rat c.data.toList) * Fr.sgnQ (Fr.rat d.data.toList) := ⟨_, rfl⟩
  have hs1 : -1 ≤ s ∧ s ≤ 1 := by rw [hs]; exact Fr.sI_rng a b 2
  have ht1 : -1 ≤ t ∧ t ≤ 1 := by rw [ht]; exact Fr.sI_rng c d 2
  rw [← hs, ← ht] at m1 m2 ⊢
  clear hs ht ka kb kc kd
  obtain ⟨an, ln, cn, rfl⟩ := isnat_form hn
  obtain ⟨ad, ld, cd, rfl⟩ := isnat_form hd
  obtain ⟨am, lm, cm, rfl⟩ := isnat_form hm
  obtain ⟨ae, le, ce, rfl⟩ := isnat_form he
  have HN := Lib.hid hn
  have HD := Lib.hid hd
  have HM := Lib.hid hm
  have HE := Lib.hid he
  clear hn hd hm he
  generalize Fr.cmpQ (Fr.rat a.data.toList * Fr.rat b.data.toList) (Fr.rat c.data.toList * Fr.rat d.data.toList) = R at *
  by_cases hst : s = t
  · have hR := m2 hst
    have HR := Lib.hid hR
    subst hst
    clear m1 m2 hR ht1
    have hc : -1 ≤ s * Limb.cmpN (Fr.absN a * Fr.absN b * (Fr.denN c * Fr.denN d)) (Fr.absN c * Fr.absN d * (Fr.denN a * Fr.denN b)) ∧ s * Limb.cmpN (Fr.absN a * Fr.absN b * (Fr.denN c * Fr.denN d)) (Fr.absN c * Fr.absN d * (Fr.denN a * Fr.denN b)) ≤ 1 := by
      have h1 : s = -1 ∨ s = 0 ∨ s = 1 := by omega
      unfold Limb.cmpN
      rcases h1 with rfl | rfl | rfl <;> split <;> (try split) <;> decide
    generalize Fr.absN a * Fr.absN b = N1 at *
    generalize Fr.denN a * Fr.denN b = D1 at *
    generalize Fr.absN c * Fr.absN d = N2 at *
    generalize Fr.denN c * Fr.denN d = D2 at *
    obtain ⟨hc1, hc2⟩ := hc
    generalize hC : Limb.cmpN (N1 * D2) (N2 * D1) = C at *
    have HC := Lib.hid hC
    have hwr : IntKind.i64.wrap (s * C) = s * C := IntWalk.i64_in _ (by omega)
    clear hC hs1 hc1 hc2
    go_enter Tryz.func103, Tryz.ntmps103
    go_wp2_with fail
    obtain ⟨W, hW⟩ : ∃ W, W = (w.alloc (.cells #[.string a, .string b, .int .i64 s, .slice an ln cn, .slice ad ld cd] 94)).alloc (.cells #[.string c, .string d, .int .i64 s, .slice am lm cm, .slice ae le ce] 94) := ⟨_, rfl⟩
    have HB := Lib.hid (show Below w.heap.size w W by rw [hW]; exact ((Below.refl _ _).alloc (Nat.le_refl _) _).alloc (by simp) _)
    have P1 := prod_new w a b s (.slice an ln cn) (.slice ad ld cd) 94
    have P1 := P1.step ((Below.refl _ _).alloc (Nat.le_refl _) (.cells #[.string c, .string d, .int .i64 s, .slice am lm cm, .slice ae le ce] 94))
    have P2 := prod_new (w.alloc (.cells #[.string a, .string b, .int .i64 s, .slice an ln cn, .slice ad ld cd] 94)) c d s (.slice am lm cm) (.slice ae le ce) 94
    rw [← hW] at P1 P2 ⊢
    have e1 : (w.alloc (.cells #[.string a, .string b, .int .i64 s, .slice an ln cn, .slice ad ld cd] 94)).heap.size = w.heap.size + 1 := by simp
    rw [e1] at P2
    clear hW e1
    have HB1 := Lib.hid (below_nx HB.out (Below.refl W.heap.size W).drew)
    have HP1 := Lib.hid (P1.step (Below.refl W.heap.size W).drew)
    have HP2 := Lib.hid (P2.step (Below.refl W.heap.size W).drew)
    clear P1 P2 HB
    have HB := HB1
    clear HB1
    obtain ⟨-, -, -, p2, p3, p4, -, -, -, -, -⟩ := HP1.out
    obtain ⟨-, -, -, q2, q3, q4, -, -, -, -, -⟩ := HP2.out
    go_region_held3 (fun X => X.cell? ⟨w.heap.size, 2, none⟩ = some (.int .i64 s) ∧ X.cell? ⟨w.heap.size, 3, none⟩ = some (.slice an ln cn) ∧ X.cell? ⟨w.heap.size, 4, none⟩ = some (.slice ad ld cd) ∧ X.cell? ⟨w.heap.size + 1, 3, none⟩ = some (.slice am lm cm) ∧ X.cell? ⟨w.heap.size + 1, 4, none⟩ = some (.slice ae le ce))
      (first | (refine ⟨?_, ?_, ?_, ?_, ?_⟩ <;> with_reducible assumption) | (go_split_ands; refine ⟨?_, ?_, ?_, ?_, ?_⟩ <;> with_reducible assumption))
      (first
        | (go_at_call 129; (with_reducible refine (dTimesN (.slice an ln cn) (.slice ae le ce) N1 D2 200 200 _ (HN.out.below HB.out (Nat.le_refl _)) (HE.out.below HB.out (Nat.le_refl _)) (by omega) (by omega)).mono ?_); rintro e wn ⟨r1, rfl, hb, hq, -⟩; have HQ1 := Lib.hid hq; have HBq := Lib.hid (below_nx HB.out hb); have HP1q := Lib.hid (HP1.out.step hb); have HP2q := Lib.hid (HP2.out.step hb); clear HB HP1 HP2 p2 p3 p4 q2 q3 q4 hb hq; have HB := HBq; have HP1 := HP1q; have HP2 := HP2q; clear HBq HP1q HP2q; obtain ⟨-, -, -, p2, p3, p4, -, -, -, -, -⟩ := HP1.out; obtain ⟨-, -, -, q2, q3, q4, -, -, -, -, -⟩ := HP2.out)
        | (go_at_call 129; (with_reducible refine (dTimesN (.slice am lm cm) (.slice ad ld cd) N2 D1 200 200 _ (HM.out.below HB.out (Nat.le_refl _)) (HD.out.below HB.out (Nat.le_refl _)) (by omega) (by omega)).mono ?_); rintro e wn ⟨r2, rfl, hb, hq, -⟩; have HQ2 := Lib.hid hq; have HQ1q := Lib.hid (HQ1.out.below hb (Nat.le_refl _)); have HBq := Lib.hid (below_nx HB.out hb); have HP1q := Lib.hid (HP1.out.step hb); have HP2q := Lib.hid (HP2.out.step hb); clear HB HP1 HP2 HQ1 p2 p3 p4 q2 q3 q4 hb hq; have HB := HBq; have HP1 := HP1q; have HP2 := HP2q; have HQ1 := HQ1q; clear HBq HP1q HP2q HQ1q; obtain ⟨-, -, -, p2, p3, p4, -, -, -, -, -⟩ := HP1.out; obtain ⟨-, -, -, q2, q3, q4, -, -, -, -, -⟩ := HP2.out)
        | (go_at_call 133; (with_reducible refine (dOrderN _ _ (N1 * D2) (N2 * D1) C 400 400 _ HC HQ1.out HQ2.out).mono ?_); rintro e wn ⟨rfl, hb⟩; have HBq := Lib.hid (below_nx HB.out hb); have HP1q := Lib.hid (HP1.out.step hb); have HP2q := Lib.hid (HP2.out.step hb); clear HB HP1 HP2 HQ1 HQ2 p2 p3 p4 q2 q3 q4 hb; have HB := HBq; have HP1 := HP1q; have HP2 := HP2q; clear HBq HP1q HP2q; obtain ⟨-, -, -, p2, p3, p4, -, -, -, -, -⟩ := HP1.out; obtain ⟨-, -, -, q2, q3, q4, -, -, -, -, -⟩ := HP2.out))
    all_goals (go_wp2; go_ret; exact ⟨congrArg (fun x => Ending.returned (Value.int .i64 x)) HR.out, HB.out⟩)
  · have hR := m1 hst
    have CC := fun W => Lib.hid (cmp_int_of s t R (Lib.hid hR.symm) W)
    have hne : (s != t) = true := by simpa using hst
    have HS := Lib.hid hst
    clear m1 m2 hR hst
    go_enter Tryz.func103, Tryz.ntmps103
    go_wp2_with fail
    refine ((CC _).out).mono ?_
    rintro e w1 ⟨rfl, rfl⟩
    go_wp2
    go_ret
    exact ⟨rfl, ((Below.refl _ _).alloc (Nat.le_refl _) _).alloc (by simp) _⟩
end Go.Proofs.YtldclpdmcopgnaaGreatDoor
