/- Leq of package bounds. -/
import Derived.Test.YtkemicfaiipidaaBMd
namespace Go.Proofs.Ytkemicfaiipidaa
open Go.RowKit
/-- The loop over all pairs. -/
theorem leq_each (N g bb mb lb : Nat) (u : Bn.Mx) (k : Int) (v : Value) (S : List (List Int)) (w X : World) (hN : N ≤ 12) (hM : MtxI X g N u) (hB : BoxB X bb k v) (hm : BoxV X mb (.pointer (some ⟨g, 0, none⟩))) (hL : BoxW X lb (.bool true)) (hBW : Below w.heap.size w X) (hl : w.heap.size ≤ lb) (h1 : bb ≠ lb) (h2 : mb ≠ lb) (h3 : g ≠ lb) (hS : SeesR w v S) (hSh : Bn.Shp N S) :
    Calls Try.prog 45 #[.pointer (some ⟨g, 0, none⟩), .func (.func 60) #[] #[.pointer (some ⟨lb, 0, none⟩), .pointer (some ⟨bb, 0, none⟩), .pointer (some ⟨mb, 0, none⟩)]] X fun e w' => e = .returned (.tuple #[]) ∧ BoxW w' lb (.bool (Bn.leqB N u S)) ∧ Below w.heap.size w w' := by
  refine (each_leq (.pointer (some ⟨lb, 0, none⟩)) (.pointer (some ⟨bb, 0, none⟩)) (.pointer (some ⟨mb, 0, none⟩)) g N (fun i j W => MtxI W g N u ∧ BoxB W bb k v ∧ BoxV W mb (.pointer (some ⟨g, 0, none⟩)) ∧ (∃ c, BoxW W lb (.bool c) ∧ (c = true ↔ ∀ a b, a ≤ N → b ≤ N → (a < i ∨ (a = i ∧ b < j)) → Bn.less (Bn.mx S a b) (u a b) = false)) ∧ Below w.heap.size w W) X hN
    ⟨hM, hB, hm, ⟨true, hL, by simp⟩, hBW⟩ (fun i j X h => h.1.2.1) ?_ ?_).mono ?_
  · rintro i j Y hi hj ⟨p1, p2, p3, ⟨c, p4, p4'⟩, p5⟩
    refine (bLeq1_any i j g bb mb lb N k c u v S Y (by omega) (by omega) p1 p2 p3 p4 (hS.step p5) (by rw [hSh.1]; omega) (by rw [hSh.2 i hi]; omega)).mono ?_
    rintro e w1 ⟨rfl, hg1, hb1⟩
    refine ⟨rfl, p1.grown hg1 (by omega), p2.grown hg1 h1, p3.grown hg1 h2, ⟨_, hb1, ?_⟩, p5.trans (below_grown hg1 p5.size hl)⟩
    rw [Bool.and_eq_true, p4']
    constructor
    · rintro ⟨q1, q2⟩ a b ha hb h
      by_cases e : a = i ∧ b = j
      · obtain ⟨rfl, rfl⟩ := e; simpa using q2
      · exact q1 a b ha hb (by omega)
    · intro q
      exact ⟨fun a b ha hb h => q a b ha hb (by omega), by simpa using q i j hi hj (by omega)⟩
  · rintro i Y hi ⟨p1, p2, p3, ⟨c, p4, p4'⟩, p5⟩
    exact ⟨p1, p2, p3, ⟨c, p4, p4'.trans ⟨fun q a b ha hb h => q a b ha hb (by omega), fun q a b ha hb h => q a b ha hb (by omega)⟩⟩, p5⟩
  · rintro e w1 ⟨rfl, p1, p2, p3, ⟨c, p4, p4'⟩, p5⟩
    refine ⟨rfl, ?_, p5⟩
    have : c = Bn.leqB N u S := by
      apply Bn.bool_eq
      rw [p4', Bn.leqB_iff]
      exact ⟨fun q a b ha hb => q a b ha hb (by omega), fun q a b ha hb _ => q a b ha hb⟩
    rw [← this]; exact p4

theorem Bn.leqB_congr {N : Nat} {u u' : Bn.Mx} {S : List (List Int)} (h : ∀ i j, i ≤ N → j ≤ N → u i j = u' i j) : Bn.leqB N u S = Bn.leqB N u' S := by
  apply Bn.bool_eq
  rw [Bn.leqB_iff, Bn.leqB_iff]
  exact ⟨fun g i j hi hj => by rw [← h i j hi hj]; exact g i j hi hj, fun g i j hi hj => by rw [h i j hi hj]; exact g i j hi hj⟩

set_option maxHeartbeats 4000000 in
set_option maxRecDepth 100000 in
theorem bLeq_any (n m : Int) (v u : Value) (R S : List (List Int)) (w : World) (hs : SeesR w v R) (hu : SeesR w u S) :
    Calls Try.prog 25 #[.agg #[.int .i64 n, v], .agg #[.int .i64 m, u]] w fun e w' => e = .returned (.tuple #[.bool (Bn.leqV n R m S).1, .int .i64 (Bn.leqV n R m S).2]) ∧ Below w.heap.size w w' := by
  have CB := fun W (h : SeesR W v R) (h2 : SeesR W u S) => Lib.hid (bBoth_any n m v u R S W h h2)
  have HS := Lib.hid hs
  have HU := Lib.hid hu
  obtain ⟨ao, cap, rfl, hcap1, hcap2, -⟩ := hs
  obtain ⟨bo, cbp, rfl, hcbp1, hcbp2, -⟩ := hu
  obtain ⟨X, hX, hBX, hEX, hLX⟩ := pro22 w n m (.slice ao R.length cap) (.slice bo S.length cbp)
  have HEX := Lib.hid hEX
  have HBX := Lib.hid hBX
  have HLX := Lib.hid hLX
  obtain ⟨x0, x1, x2⟩ := hBX
  obtain ⟨y0, y1, y2⟩ := hEX
  rw [hX] at x0 x1 x2 y0 y1 y2
  clear hLX
  by_cases h1 : Bn.twE n R m S = 0
  · obtain ⟨h2, h3, rfl⟩ := Bn.twE_ok h1
    obtain ⟨N, rfl, hN, hSh, hR⟩ := Bn.chk_ok h2
    obtain ⟨N', hNe, -, hSh2, -⟩ := Bn.chk_ok h3
    obtain rfl : N = N' := by omega
    have hv : Bn.leqV N R N S = (if Bn.ok N (Bn.mx R) then Bn.leqB N (Bn.cl N R) S else true, 0) := by unfold Bn.leqV; rw [if_pos h1, Int.toNat_natCast]
    have CO := fun W (h : SeesR W (.slice ao R.length cap) R) => Lib.hid (bOf_any N _ R W hN hSh h)
    have CCl := fun W g (h : MtxI W g N (Bn.sq N (Bn.mx R) Bn.zer)) => Lib.hid (bClose_any N g (Bn.mx R) _ W hR h (fun i j hi hj => Bn.sq_in hi hj))
    rw [h1] at CB
    have hcl : ∀ u' : Bn.Mx, (∀ i j, i ≤ N → j ≤ N → u' i j = Bn.clo N (Bn.mx R) i j) → Bn.leqB N u' S = Bn.leqB N (Bn.cl N R) S := fun u' h => Bn.leqB_congr fun i j hi hj => by rw [h i j hi hj]; unfold Bn.cl; rw [Int.toNat_natCast]
    have HCL := Lib.hid hcl
    have HSh2 := Lib.hid hSh2
    cases hok : Bn.ok N (Bn.mx R) <;> rw [hok] at CCl hv
    all_goals
      rw [hv]
      simp only [Bool.false_eq_true, if_false, if_true]
      clear hv h1 h2 h3 hNe hSh hR hSh2 hok hcl
      go_enter Try.func25, Try.ntmps25
      go_wp2_with fail
      rw [← hX]
      clear x0 x1 x2 y0 y1 y2
      refine ((CB X (HS.out.step HLX.out) (HU.out.step HLX.out)).out).mono ?_
      rintro e w1 ⟨rfl, hb1⟩
      have HB1 := Lib.hid (below_nxt HLX.out hb1)
      have HE1 := Lib.hid (HEX.out.step hb1)
      obtain ⟨x0, x1, x2⟩ := HBX.out.step hb1
      clear hb1
      go_wp2_with fail
      clear x0 x1 x2
      refine ((CO w1 (HS.out.step HB1.out)).out).mono ?_
      rintro e w2 ⟨g, rfl, hg1, hM, hb2⟩
      have hgw := hM.1
      have hbb := HE1.out.1
      have L3 : Below w2.heap.size w2 (w2.alloc (.cells #[.pointer (some ⟨g, 0, none⟩)] 62)) := (Below.refl _ _).alloc (Nat.le_refl _) _
      have e3 : (w2.alloc (.cells #[.pointer (some ⟨g, 0, none⟩)] 62)).heap.size = w2.heap.size + 1 := by simp
      have V3 := boxV_new w2 (.pointer (some ⟨g, 0, none⟩)) 62
      have M3 := hM.step L3
      have E3 := (HE1.out.step hb2).step L3
      have B3 := below_nxt (below_nxt HB1.out hb2) L3
      obtain ⟨Y, hY⟩ : ∃ Y, Y = w2.alloc (.cells #[.pointer (some ⟨g, 0, none⟩)] 62) := ⟨_, rfl⟩
      rw [← hY] at e3 V3 M3 E3 B3
      have L4 : Below Y.heap.size Y (Y.alloc (.cells #[.bool true] 4)) := (Below.refl _ _).alloc (Nat.le_refl _) _
      have W4 := boxW_new Y (.bool true) 4
      rw [e3] at W4
      have HV4 := Lib.hid (V3.step L4)
      have HM4 := Lib.hid (M3.step L4)
      have HE4 := Lib.hid (E3.step L4)
      have HB4 := Lib.hid (below_nxt B3 L4)
      have HW4 := Lib.hid W4
      obtain ⟨v0, v1⟩ := V3.step L4
      rw [hY] at v0 v1
      clear hb2 hM L3 V3 M3 E3 B3 L4 W4
      go_wp2_with fail
      rw [← hY]
      clear v0 v1
      generalize Y.alloc (.cells #[.bool true] 4) = X4 at *
      refine ((CCl X4 g HM4.out).out).mono ?_
      rintro e w5 ⟨rfl, hc1, hc2⟩
      have HV5 := Lib.hid (HV4.out.grown hc2 (by omega))
      have HE5 := Lib.hid (HE4.out.grown hc2 (by omega))
      have HW5 := Lib.hid (HW4.out.grown hc2 (by omega))
      have hxw := HLX.out.size
      have HB5 := Lib.hid (HB4.out.trans (below_grown hc2 HB4.out.size (by have := HB1.out.size; omega)))
      have HC5 := Lib.hid hc1
      obtain ⟨v0, v1⟩ := HV5.out
      clear hc1 hc2
    · go_wp2
      exact bodyPost_ret (v := .tuple #[.bool true, .int .i64 0]) (by simp [results, Try.results25, go_sem]) rfl ⟨rfl, HB5.out⟩
    · obtain ⟨u', hm5, hu5⟩ := HC5.out trivial
      have HM5 := Lib.hid hm5
      have hq := HCL.out u' hu5
      have hs1 := HB1.out.size
      clear hm5 hu5
      go_wp2_with fail
      clear v0 v1
      refine (leq_each N g (w.heap.size + 1) w2.heap.size (w2.heap.size + 1) u' _ _ S w w5 hN HM5.out HE5.out HV5.out HW5.out HB5.out (by omega) (by omega) (by omega) (by omega) HU.out HSh2.out).mono ?_
      rintro e w6 ⟨rfl, hw6, hb6⟩
      rw [hq] at hw6
      have HB6 := Lib.hid hb6
      obtain ⟨l0, l1, l2⟩ := hw6
      clear hb6 hq
      go_wp2
      exact bodyPost_ret (v := .tuple #[.bool (Bn.leqB N (Bn.cl N R) S), .int .i64 0]) (by simp [results, Try.results25, go_sem]) rfl ⟨rfl, HB6.out⟩
  · have hv : Bn.leqV n R m S = (false, Bn.twE n R m S) := if_neg h1
    rw [hv]
    clear hv
    go_enter Try.func25, Try.ntmps25
    go_wp2_with fail
    rw [← hX]
    clear x0 x1 x2 y0 y1 y2
    refine ((CB X (HS.out.step HLX.out) (HU.out.step HLX.out)).out).mono ?_
    rintro e w1 ⟨rfl, hb1⟩
    have HB1 := Lib.hid (below_nxt HLX.out hb1)
    clear hb1
    go_wp2
    exact bodyPost_ret (v := .tuple #[.bool false, .int .i64 (Bn.twE n R m S)]) (by simp [results, Try.results25, go_sem]) rfl ⟨rfl, HB1.out⟩
end Go.Proofs.Ytkemicfaiipidaa

