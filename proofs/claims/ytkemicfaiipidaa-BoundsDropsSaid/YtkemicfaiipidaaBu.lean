/- close of package bounds. -/
import Derived.Test.YtkemicfaiipidaaBh
import Derived.Test.YtkemicfaiipidaaBd
import Derived.StillTailTactics
namespace Bn
/-- Has a diagonal element before the pair i, j become negative? -/
def neg (n : Nat) (F : Mx) (i j : Nat) : Bool := (List.range (n + 1)).any fun a => (decide (a < i) || (decide (a = i) && decide (a < j))) && decide (F a a < 0)
theorem neg_iff {n : Nat} {F : Mx} {i j : Nat} : neg n F i j = true ↔ ∃ a, a ≤ n ∧ (a < i ∨ (a = i ∧ a < j)) ∧ F a a < 0 := by
  unfold neg
  rw [List.any_eq_true]
  constructor
  · rintro ⟨a, h1, h2⟩
    have := List.mem_range.1 h1
    simp only [Bool.and_eq_true, Bool.or_eq_true, decide_eq_true_eq] at h2
    exact ⟨a, by omega, h2.1, h2.2⟩
  · rintro ⟨a, h1, h2, h3⟩
    refine ⟨a, List.mem_range.2 (by omega), ?_⟩
    simp only [Bool.and_eq_true, Bool.or_eq_true, decide_eq_true_eq]
    exact ⟨h2, h3⟩
theorem neg_zero (n : Nat) (F : Mx) : neg n F 0 0 = false := by
  cases h : neg n F 0 0
  · rfl
  · obtain ⟨a, _, h2, _⟩ := neg_iff.1 h; omega
theorem bool_eq {a b : Bool} (h : a = true ↔ b = true) : a = b := by cases a <;> cases b <;> simp_all
theorem neg_next {n : Nat} {F : Mx} {i j : Nat} (hi : i ≤ n) : neg n F i (j + 1) = (neg n F i j || (decide (i = j) && decide (F i i < 0))) := by
  apply bool_eq
  rw [Bool.or_eq_true, neg_iff, neg_iff, Bool.and_eq_true, decide_eq_true_eq, decide_eq_true_eq]
  constructor
  · rintro ⟨a, h1, h2, h3⟩
    by_cases e : a = i ∧ a = j
    · obtain ⟨rfl, rfl⟩ := e; exact .inr ⟨rfl, h3⟩
    · exact .inl ⟨a, h1, by omega, h3⟩
  · rintro (⟨a, h1, h2, h3⟩ | ⟨rfl, h3⟩)
    · exact ⟨a, h1, by omega, h3⟩
    · exact ⟨i, hi, by omega, h3⟩
theorem neg_row {n : Nat} {F : Mx} {i : Nat} : neg n F i (n + 1) = neg n F (i + 1) 0 := by
  apply bool_eq
  rw [neg_iff, neg_iff]
  exact ⟨fun ⟨a, h1, h2, h3⟩ => ⟨a, h1, by omega, h3⟩, fun ⟨a, h1, h2, h3⟩ => ⟨a, h1, by omega, h3⟩⟩
theorem neg_end {n : Nat} {F : Mx} : neg n F (n + 1) 0 = bad n F := by
  apply bool_eq
  rw [neg_iff, bad_iff]
  exact ⟨fun ⟨a, h1, h2, h3⟩ => ⟨a, h1, h3⟩, fun ⟨a, h1, h3⟩ => ⟨a, h1, by omega, h3⟩⟩
theorem mn_sm_r {a : Int} : mn a (sm a 0) = a := by unfold mn sm; grind
theorem mn_sm_l {a : Int} : mn a (sm 0 a) = a := by unfold mn sm; grind
/-- In place: the row and the column of k stay as they are. -/
theorem fil_k1 {m : Mx} {k i j : Nat} (hd : m k k = 0) (a : Nat) : fil (stp k m) m i j a k = m a k := by
  unfold fil stp; rw [hd, mn_sm_r]; split <;> rfl
theorem fil_k2 {m : Mx} {k i j : Nat} (hd : m k k = 0) (b : Nat) : fil (stp k m) m i j k b = m k b := by
  unfold fil stp; rw [hd, mn_sm_l]; split <;> rfl
theorem fil_rowN' {F G : Mx} {n i a b : Nat} (hb : b ≤ n) : fil F G i (n + 1) a b = fil F G (i + 1) 0 a b := by unfold fil; grind
theorem fil_endN' {F G : Mx} {n a b : Nat} (ha : a ≤ n) : fil F G (n + 1) 0 a b = F a b := by unfold fil; grind
theorem fil_ij {F G : Mx} {i j : Nat} : fil F G i j i j = G i j := by unfold fil; grind
/-- The rounds before k have found no contradiction. -/
def okTo (n : Nat) (b : Mx) (k : Nat) : Prop := ∀ q, q < k → bad n (fw b (q + 1)) = false
theorem ok_all {n : Nat} {b : Mx} (h : okTo n b (n + 1)) : ok n b = true := by
  unfold ok
  rw [List.all_eq_true]
  intro q hq
  rw [h q (List.mem_range.1 hq)]; rfl
theorem ok_bad {n : Nat} {b : Mx} {k : Nat} (hk : k ≤ n) (h : bad n (fw b (k + 1)) = true) : ok n b = false := by
  cases e : ok n b
  · rfl
  · rw [ok_at e hk] at h; cases h
end Bn
namespace Go.Proofs.Ytkemicfaiipidaa
open Go.RowKit

theorem grown_set2 {w w1 : World} {r : Option Nat} {A i : Nat} {v : Value} (h : w.grownBy w1 r) (hA : w.heap.size ≤ A) : w.grownBy (w1.setCell ⟨A, i, none⟩ v) r :=
  ⟨h.os, h.tape, h.output, by simpa [World.setCell] using h.size, fun k hk hne => by
    rw [Below.heap_setCell _ _ _ _ (fun e => by simp at e; omega)]; exact h.block k hk hne⟩
theorem grown_alloc {w w1 : World} {r : Option Nat} (h : w.grownBy w1 r) (o : Obj) : w.grownBy (w1.alloc o) r :=
  grown_then h (((Below.refl w1.heap.size w1).alloc (Nat.le_refl _) o).mono h.size)
theorem MtxI.drew {W : World} {g : Nat} {n : Int} {m : Bn.Mx} (h : MtxI W g n m) : MtxI W.drew g n m := h

set_option maxHeartbeats 4000000 in
set_option maxRecDepth 100000 in
/-- close's closure. -/
theorem bClose1_any (i j k g mb kb cb : Nat) (n x y z : Int) (c : Bool) (u : Bn.Mx) (W : World) (hi : i < 13) (hj : j < 13) (hk : k < 13) (hM : MtxI W g n u) (hm : BoxV W mb (.pointer (some ⟨g, 0, none⟩))) (hK : BoxV W kb (.int .i64 k)) (hC : BoxW W cb (.bool c))
    (hmg : mb ≠ g) (hkg : kb ≠ g) (hcg : cb ≠ g) (hcm : mb ≠ cb) (hck : kb ≠ cb) (hx : u i j = x) (hy : u i k = y) (hz : u k j = z) (by' : -4000000000000 ≤ y ∧ y ≤ 4000000000000) (bz : -4000000000000 ≤ z ∧ z ≤ 4000000000000) :
    Calls Try.prog 72 #[.int .i64 i, .int .i64 j, .pointer (some ⟨mb, 0, none⟩), .pointer (some ⟨kb, 0, none⟩), .pointer (some ⟨cb, 0, none⟩)] W fun e w' => e = .returned (.tuple #[]) ∧
      MtxI w' g n (Bn.up u i j (Bn.mn x (Bn.sm y z))) ∧ BoxV w' mb (.pointer (some ⟨g, 0, none⟩)) ∧ BoxV w' kb (.int .i64 k) ∧ BoxW w' cb (.bool (c || (decide (i = j) && decide (Bn.mn x (Bn.sm y z) < 0)))) ∧ (∀ w0 : World, w0.grownBy W (some g) → w0.heap.size ≤ cb → w0.grownBy w' (some g)) := by
  have HM := Lib.hid hM
  have HV := Lib.hid hm
  have HK := Lib.hid hK
  have HC := Lib.hid hC
  have CS := fun W => Lib.hid (bSum_any y z W by' bz)
  have CL := fun W (h : MtxI W g n u) => Lib.hid (bLower_any g i j n (Bn.sm y z) u W hi hj h)
  rw [hx] at CL
  generalize Bn.sm y z = t at *
  have hv : Bn.up u i j (Bn.mn x t) i j = Bn.mn x t := if_pos ⟨rfl, rfl⟩
  have HQ := Lib.hid hv
  clear hv by' bz
  generalize hQ : Bn.up u i j (Bn.mn x t) = Q at *
  generalize Bn.mn x t = q at *
  clear hQ hx
  obtain ⟨m0, m1, m2⟩ := hM
  obtain ⟨m3, m4⟩ := m2 i k hi hk
  obtain ⟨m5, m6⟩ := m2 k j hk hj
  rw [hy] at m3
  rw [hz] at m5
  clear m2 hy hz
  obtain ⟨v0, v1⟩ := hm
  obtain ⟨k0, k1⟩ := hK
  obtain ⟨c0, c1, c2⟩ := hC
  have zi : (i : Int) < 13 := by omega
  have zj : (j : Int) < 13 := by omega
  have zk : (k : Int) < 13 := by omega
  cases c
  · by_cases hij : i = j
    · subst hij
      go_enter Try.func72, Try.ntmps72
      go_wp2
      refine wp_region_still_tail 20 (by kernel_rfl) (by kernel_rfl) ?_
      simp only [List.take_succ_cons, List.take_zero, List.drop_succ_cons, List.drop_zero]
      repeat still_step
      still_call ((CS W.drew).out)
      repeat still_step
      change wpList _ _ _ _ _ W.drew
      go_wp2_with (go_at_call 39; refine ((CL W.drew HM.out.drew).out).mono ?_; rintro e w1 ⟨rfl, hg1, hm1⟩; have HG1 := Lib.hid hg1; have HM1 := Lib.hid hm1; have HV1 := Lib.hid (BoxV.grown (W := W.drew) HV.out hg1 hmg); have HK1 := Lib.hid (BoxV.grown (W := W.drew) HK.out hg1 hkg); have HC1 := Lib.hid (BoxW.grown (W := W.drew) HC.out hg1 hcg); have q1 := (hm1.2.2 i i hi hi).1; have q2 := hm1.1; obtain ⟨v0', v1'⟩ := HV1.out; obtain ⟨c0', c1', c2'⟩ := HC1.out; clear hg1 hm1)
      go_end0
      have GS := fun (v : Value) => grown_set (i := 0) (v := v) (grown_refl w1 (some cb))
      refine ⟨rfl, HM1.out.grown (GS _) (fun e => hcg e.symm), HV1.out.grown (GS _) hcm, HK1.out.grown (GS _) hck, ?_, fun w0 h1 h2 => grown_set2 (grown_trans h1 (grown_drew0 HG1.out)) h2⟩
      (have hh := HC1.out.put (.bool (decide (Q i i < 0))); rw [HQ.out] at hh ⊢; simpa using hh)
    · have hij' : ¬ ((i : Int) = (j : Int)) := by omega
      go_enter Try.func72, Try.ntmps72
      go_wp2
      refine wp_region_still_tail 20 (by kernel_rfl) (by kernel_rfl) ?_
      simp only [List.take_succ_cons, List.take_zero, List.drop_succ_cons, List.drop_zero]
      repeat still_step
      still_call ((CS W.drew).out)
      repeat still_step
      change wpList _ _ _ _ _ W.drew
      go_wp2_with (go_at_call 39; refine ((CL W.drew HM.out.drew).out).mono ?_; rintro e w1 ⟨rfl, hg1, hm1⟩; have HG1 := Lib.hid hg1; have HM1 := Lib.hid hm1; have HV1 := Lib.hid (BoxV.grown (W := W.drew) HV.out hg1 hmg); have HK1 := Lib.hid (BoxV.grown (W := W.drew) HK.out hg1 hkg); have HC1 := Lib.hid (BoxW.grown (W := W.drew) HC.out hg1 hcg); have q1 := (hm1.2.2 i i hi hi).1; have q2 := hm1.1; obtain ⟨v0', v1'⟩ := HV1.out; obtain ⟨c0', c1', c2'⟩ := HC1.out; clear hg1 hm1)
      go_end0
      have GS := fun (v : Value) => grown_set (i := 0) (v := v) (grown_refl w1 (some cb))
      refine ⟨rfl, HM1.out.grown (GS _) (fun e => hcg e.symm), HV1.out.grown (GS _) hcm, HK1.out.grown (GS _) hck, ?_, fun w0 h1 h2 => grown_set2 (grown_trans h1 (grown_drew0 HG1.out)) h2⟩
      (have hh := HC1.out.put (.bool false); simpa [hij] using hh)
  · go_enter Try.func72, Try.ntmps72
    go_wp2
    refine wp_region_still_tail 20 (by kernel_rfl) (by kernel_rfl) ?_
    simp only [List.take_succ_cons, List.take_zero, List.drop_succ_cons, List.drop_zero]
    repeat still_step
    still_call ((CS W.drew).out)
    repeat still_step
    change wpList _ _ _ _ _ W.drew
    go_wp2_with (go_at_call 39; refine ((CL W.drew HM.out.drew).out).mono ?_; rintro e w1 ⟨rfl, hg1, hm1⟩; have HG1 := Lib.hid hg1; have HM1 := Lib.hid hm1; have HV1 := Lib.hid (BoxV.grown (W := W.drew) HV.out hg1 hmg); have HK1 := Lib.hid (BoxV.grown (W := W.drew) HK.out hg1 hkg); have HC1 := Lib.hid (BoxW.grown (W := W.drew) HC.out hg1 hcg); have q1 := (hm1.2.2 i i hi hi).1; have q2 := hm1.1; obtain ⟨v0', v1'⟩ := HV1.out; obtain ⟨c0', c1', c2'⟩ := HC1.out; clear hg1 hm1)
    go_end0
    have GS := fun (v : Value) => grown_set (i := 0) (v := v) (grown_refl w1 (some cb))
    refine ⟨rfl, HM1.out.grown (GS _) (fun e => hcg e.symm), HV1.out.grown (GS _) hcm, HK1.out.grown (GS _) hck, ?_, fun w0 h1 h2 => grown_set2 (grown_trans h1 (grown_drew0 HG1.out)) h2⟩
    exact (HC1.out.put _)

set_option maxHeartbeats 4000000 in
set_option maxRecDepth 100000 in
/-- A round of close. -/
theorem close_each (N k g mb kb cb : Nat) (m : Bn.Mx) (w0 W : World) (hN : N ≤ 12) (hk : k ≤ N) (hm : Bn.St N k m) (u : Bn.Mx) (hu : ∀ a b, a ≤ N → b ≤ N → u a b = m a b) (hM : MtxI W g N u) (hP : BoxV W mb (.pointer (some ⟨g, 0, none⟩))) (hK : BoxV W kb (.int .i64 k)) (hC : BoxW W cb (.bool false))
    (hmg : mb ≠ g) (hkg : kb ≠ g) (hcg : cb ≠ g) (hcm : mb ≠ cb) (hck : kb ≠ cb) (hg0 : w0.grownBy W (some g)) (hc0 : w0.heap.size ≤ cb) :
    Calls Try.prog 45 #[.pointer (some ⟨g, 0, none⟩), .func (.func 72) #[] #[.pointer (some ⟨mb, 0, none⟩), .pointer (some ⟨kb, 0, none⟩), .pointer (some ⟨cb, 0, none⟩)]] W fun e w' => e = .returned (.tuple #[]) ∧
      (∃ u', MtxI w' g N u' ∧ ∀ a b, a ≤ N → b ≤ N → u' a b = Bn.stp k m a b) ∧ BoxV w' mb (.pointer (some ⟨g, 0, none⟩)) ∧ BoxW w' cb (.bool (Bn.bad N (Bn.stp k m))) ∧ w0.grownBy w' (some g) := by
  have hd := hm.diag k hk
  refine (each_close _ _ _ g N (fun i j W => (∃ u', MtxI W g N u' ∧ ∀ a b, a ≤ N → b ≤ N → u' a b = Bn.fil (Bn.stp k m) m i j a b) ∧ BoxV W mb (.pointer (some ⟨g, 0, none⟩)) ∧ BoxV W kb (.int .i64 k) ∧ BoxW W cb (.bool (Bn.neg N (Bn.stp k m) i j)) ∧ w0.grownBy W (some g)) W hN
    ⟨⟨u, hM, fun a b ha hb => by rw [Bn.fil_zero]; exact hu a b ha hb⟩, hP, hK, by rw [Bn.neg_zero]; exact hC, hg0⟩ (fun i j X h => by obtain ⟨⟨u', h1, _⟩, _⟩ := h; exact h1.2.1) ?_ ?_).mono ?_
  · rintro i j X hi hj ⟨⟨u', h1, h2⟩, h3, h4, h5, h6⟩
    have e1 : u' i k = m i k := (h2 i k hi hk).trans (Bn.fil_k1 hd i)
    have e2 : u' k j = m k j := (h2 k j hk hj).trans (Bn.fil_k2 hd j)
    have e3 : u' i j = m i j := (h2 i j hi hj).trans Bn.fil_ij
    have b1 := hm.bd i k hi hk
    have b2 := hm.bd k j hk hj
    refine (bClose1_any i j k g mb kb cb N (m i j) (m i k) (m k j) _ u' X (by omega) (by omega) (by omega) h1 h3 h4 h5 hmg hkg hcg hcm hck e3 e1 e2 (by omega) (by omega)).mono ?_
    rintro e w1 ⟨rfl, g1, g2, g3, g4, g5⟩
    refine ⟨rfl, ⟨_, g1, fun a b ha hb => ?_⟩, g2, g3, ?_, g5 w0 h6 hc0⟩
    · have := Bn.fil_next (Bn.stp k m) m i j a b
      rw [← this]
      unfold Bn.up
      split
      · rfl
      · exact h2 a b ha hb
    · rw [Bn.neg_next hi]
      by_cases e : i = j
      · subst e; exact g4
      · simpa [e] using g4
  · rintro i X hi ⟨⟨u', h1, h2⟩, h3, h4, h5, h6⟩
    exact ⟨⟨u', h1, fun a b ha hb => by rw [h2 a b ha hb]; exact Bn.fil_rowN' hb⟩, h3, h4, by rw [← Bn.neg_row]; exact h5, h6⟩
  · rintro e w1 ⟨rfl, ⟨u', h1, h2⟩, h3, h4, h5, h6⟩
    exact ⟨rfl, ⟨u', h1, fun a b ha hb => by rw [h2 a b ha hb]; exact Bn.fil_endN' ha⟩, h3, by rw [← Bn.neg_end]; exact h5, h6⟩
/-- What close does. -/
theorem bClose_any (N g : Nat) (b u : Bn.Mx) (w : World) (hR : Bn.Rt N b) (hM : MtxI w g N u) (hu : ∀ i j, i ≤ N → j ≤ N → u i j = b i j) :
    Calls Try.prog 56 #[.pointer (some ⟨g, 0, none⟩)] w fun e w' => e = .returned (.bool (Bn.ok N b)) ∧ (Bn.ok N b = true → ∃ u', MtxI w' g N u' ∧ ∀ i j, i ≤ N → j ≤ N → u' i j = Bn.clo N b i j) ∧ w.grownBy w' (some g) := by
  have hN := hR.n12
  have HM := Lib.hid hM
  have hgl := hM.1
  have HX : ∃ X, X = w.alloc (.cells #[.pointer (some ⟨g, 0, none⟩)] 62) ∧ MtxI X g N u ∧ BoxV X w.heap.size (.pointer (some ⟨g, 0, none⟩)) ∧ Hid (w.grownBy X (some g)) ∧ Hid (w.heap.size + 1 ≤ X.heap.size) := ⟨_, rfl, hM.step ((Below.refl _ _).alloc (Nat.le_refl _) _), boxV_new _ _ _, Lib.hid (grown_alloc (grown_refl _ _) _), Lib.hid (by simp)⟩
  obtain ⟨X, hX, hMX, hVX, HGX, HZX⟩ := HX
  have HMX := Lib.hid hMX
  have HVX := Lib.hid hVX
  obtain ⟨v0, v1⟩ := hVX
  have m0 := hMX.1
  have m1 := hMX.2.1
  have HR := Lib.hid hR
  have HU := Lib.hid hu
  have wm1 := hM.2.1
  clear hMX hM hR hu HM
  go_enter Try.func56, Try.ntmps56
  go_wp2_with fail
  rw [← hX]
  clear hX wm1
  go_loopw [10] (fun s10 wr => ∃ k : Nat, k ≤ N + 1 ∧ s10 = .int .i64 (k : Int) ∧ Hid (∃ u', MtxI wr g N u' ∧ ∀ i j, i ≤ N → j ≤ N → u' i j = Bn.fw b k i j) ∧ BoxV wr w.heap.size (.pointer (some ⟨g, 0, none⟩)) ∧ Hid (Bn.okTo N b k) ∧ Hid (w.grownBy wr (some g)) ∧ Hid (w.heap.size + 1 ≤ wr.heap.size)) (fun s10 _ => N + 1 - (intOf s10).toNat)
  case atStart => exact ⟨0, Nat.zero_le _, rfl, Lib.hid ⟨u, HMX.out, HU.out⟩, HVX.out, Lib.hid (fun q hq => by omega), HGX, HZX⟩
  case round =>
    clear HMX HU HVX HGX HZX v0 v1 m0 m1
    obtain ⟨k, hk, rfl, HM, hV, HK, HG, HZ⟩ := hrel
    obtain ⟨u', hM, hu⟩ := HM.out
    have HV := Lib.hid hV
    obtain ⟨v0, v1⟩ := hV
    by_cases hkl : k < N + 1
    · have hkN : k ≤ N := by omega
      have hst := Bn.fw_st HR.out hk HK.out
      have L1 : Below wr.heap.size wr (wr.alloc (.cells #[.int .i64 (k : Int)] 3)) := (Below.refl _ _).alloc (Nat.le_refl _) _
      have e1 : (wr.alloc (.cells #[.int .i64 (k : Int)] 3)).heap.size = wr.heap.size + 1 := by simp
      have KB := boxV_new wr (.int .i64 (k : Int)) 3
      have CB := boxW_new (wr.alloc (.cells #[.int .i64 (k : Int)] 3)) (.bool false) 4
      rw [e1] at CB
      have L2 : Below (wr.alloc (.cells #[.int .i64 (k : Int)] 3)).heap.size (wr.alloc (.cells #[.int .i64 (k : Int)] 3)) ((wr.alloc (.cells #[.int .i64 (k : Int)] 3)).alloc (.cells #[.bool false] 4)) := (Below.refl _ _).alloc (Nat.le_refl _) _
      have hz := HZ.out
      have CE := Lib.hid (close_each N k g w.heap.size wr.heap.size (wr.heap.size + 1) (Bn.fw b k) w _ (by omega) hkN hst u' hu ((hM.step L1).step L2) ((HV.out.step L1).step L2) (KB.step L2) CB (by omega) (by have := hM.1; omega) (by have := hM.1; omega) (by omega) (by omega) (grown_alloc (grown_alloc HG.out _) _) (by omega))
      have hgr := hM.1
      have HZ2 : Hid (w.heap.size + 1 ≤ ((wr.alloc (.cells #[.int .i64 (k : Int)] 3)).alloc (.cells #[.bool false] 4)).heap.size) := Lib.hid (by simp; omega)
      clear hM hu hst L1 L2 KB CB e1 HM HV
      go_wp2_with (go_at_call 45; refine (CE.out).mono ?_; rintro e w1 ⟨rfl, hm1, hv1, hc1, hg1⟩; have HM1 := Lib.hid hm1; have HV1 := Lib.hid hv1; have HG1 := Lib.hid hg1; obtain ⟨c0, c1, c2⟩ := hc1; cases hbd : Bn.bad N (Bn.stp k (Bn.fw b k)) <;> rw [hbd] at c1 <;> clear hm1 hv1 hg1)
      · have HK2 : Hid (Bn.okTo N b (k + 1)) := Lib.hid (fun q hq => by
          by_cases e : q = k
          · rw [e]; exact hbd
          · exact HK.out q (by omega))
        have hz1 : w.heap.size + 1 ≤ w1.heap.size := by
          have := HV1.out.1; omega
        try go_wp2
        exact ⟨⟨k + 1, by omega, by first | rfl | go_num, HM1, HV1.out, HK2, HG1, Lib.hid hz1⟩, by simp [intOf]; omega⟩
      · have hok := Bn.ok_bad hkN hbd
        try go_wp2
        exact bodyPost_ret (v := .bool false) (by simp [results, Try.results56, go_sem]) rfl ⟨by rw [hok], fun h => (by rw [hok] at h; cases h), HG1.out⟩
    · obtain rfl : k = N + 1 := by omega
      have hok := Bn.ok_all HK.out
      go_wp2
      go_ret
      exact ⟨ret_bool hok.symm, fun _ => ⟨u', hM, hu⟩, HG.out⟩
end Go.Proofs.Ytkemicfaiipidaa

