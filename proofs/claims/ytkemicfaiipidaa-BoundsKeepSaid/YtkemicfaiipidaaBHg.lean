/- Holds of package bounds. -/
import Derived.Test.YtkemicfaiipidaaBHf
namespace Go.Proofs.Ytkemicfaiipidaa
open Go.RowKit
set_option maxHeartbeats 4000000 in
set_option maxRecDepth 100000 in
theorem bHol_any (n : Int) (v il : Value) (R : List (List Int)) (ts : List Int) (w : World) (hs : SeesR w v R) (hl : SeeI w il ts) (hnil : ∀ n c, il = .slice none n c → c = 0) :
    Calls Try.prog 19 #[.agg #[.int .i64 n, v], il] w (HolP (Bn.hldV n R ts) w) := by
  obtain ⟨i0, hi0, hz0, hz1, hz2⟩ := info_int
  have CC := fun W (h : SeesR W v R) => Lib.hid (bChk_any n v R W h)
  have HS := Lib.hid hs
  have HI := Lib.hid hl
  have hnil := Lib.hid hnil
  obtain ⟨ao, cap, rfl, hcap1, hcap2, -⟩ := hs
  obtain ⟨io, icap, rfl, hi1, hi2, hI⟩ := hl
  have HC := Lib.hid hI
  obtain ⟨B0, L0⟩ := boxB_new w n (.slice ao R.length cap) 24
  have HL := Lib.hid L0
  have HSX := Lib.hid (HS.out.step L0)
  have HB := Lib.hid B0
  clear L0 hI B0
  by_cases h1 : Bn.chk n R = 0
  · obtain ⟨N, rfl, hN, hSh, hR⟩ := Bn.chk_ok h1
    have hv : Bn.hldV N R ts = if (ts.length : Int) = N then (if ts.all Bn.num then (Bn.hldB N R ts, 0) else (false, 2)) else (false, 8) := by unfold Bn.hldV; rw [if_pos h1, Int.toNat_natCast]
    rw [h1] at CC
    by_cases h2 : ts.length = N
    · subst h2
      rw [if_pos rfl] at hv
      have HNo := Lib.hid (fun i (hi : i < ts.length) (h : Bn.num (ts.getD i 0) = false) => show Bn.hldV ts.length R ts = (false, 2) by rw [hv, Bn.all_num_no hi h]; rfl)
      have HYes := Lib.hid (fun (h : ∀ i, i < ts.length → Bn.num (ts.getD i 0) = true) => show Bn.hldV ts.length R ts = (Bn.hldB ts.length R ts, 0) ∧ ts.all Bn.num = true from ⟨by rw [hv, Bn.all_num_of h]; rfl, Bn.all_num_of h⟩)
      have CO := fun W (h : SeesR W (.slice ao R.length cap) R) => Lib.hid (bOf_any ts.length _ R W hN hSh h)
      have CN := fun x W => Lib.hid (bNum_any x W)
      clear hv h1 hSh hR
      generalize Bn.hldV ts.length R ts = q at *
      go_enter Try.func19, Try.ntmps19
      go_wp2_with fail
      refine ((CC _ HSX.out).out).mono ?_
      rintro e w1 ⟨rfl, hb1⟩
      have HB1 := Lib.hid (below_nxt HL.out hb1)
      have HBx := Lib.hid (HB.out.step hb1)
      obtain ⟨b0, b1, b2⟩ := HBx.out
      clear hb1
      go_wp2
      go_loopw [24] (fun s17 wr => ∃ i : Nat, i ≤ ts.length ∧ s17 = .int .i64 (i : Int) ∧ BoxB wr w.heap.size ts.length (.slice ao R.length cap) ∧ Hid (∀ a, a < i → Bn.num (ts.getD a 0) = true) ∧ Hid (Below w.heap.size w wr)) (fun s17 _ => ts.length - (intOf s17).toNat)
      case atStart => exact ⟨0, Nat.zero_le _, rfl, HBx.out, Lib.hid (fun a h => by omega), HB1⟩
      case round =>
        clear HBx HB1 b0 b1 b2
        obtain ⟨i, hi, rfl, hB, HJ, HBW⟩ := hrel
        have HBx := Lib.hid hB
        obtain ⟨b0, b1, b2⟩ := hB
        by_cases hil : i < ts.length
        · obtain ⟨b, off, rfl, hb, c1⟩ := HC.out.at HBW.out hil
          have HNi := Lib.hid (HNo.out i hil)
          have HJ2 : Hid (Bn.num (ts.getD i 0) = true → ∀ a, a < i + 1 → Bn.num (ts.getD a 0) = true) := Lib.hid (fun h a ha => by
            by_cases e : a = i
            · rw [e]; exact h
            · exact HJ.out a (by omega))
          have CN2 := CN (ts.getD i 0)
          clear HNo HYes HJ CN
          generalize ts.getD i 0 = x at *
          cases hx : Bn.num x <;> rw [hx] at CN2 HNi HJ2
          · have HN2 := Lib.hid (HNi.out rfl)
            clear hx HJ2 HNi
            go_wp2_with fail
            refine ((CN2 _).out).mono ?_
            rintro e w3 ⟨rfl, rfl⟩
            go_wp2
            exact bodyPost_ret (v := .tuple #[.bool false, .int .i64 2]) (by simp [results, Try.results19, go_sem]) rfl ⟨by rw [HN2.out], HBW.out⟩
          · have HJ3 := Lib.hid (HJ2.out rfl)
            clear hx HJ2 HNi
            go_wp2_with fail
            refine ((CN2 _).out).mono ?_
            rintro e w3 ⟨rfl, rfl⟩
            go_wp2
            exact ⟨⟨i + 1, by omega, by first | rfl | go_num, HBx.out, HJ3, HBW⟩, by simp [intOf]; omega⟩
        · obtain rfl : i = ts.length := by omega
          obtain ⟨hq, hnum⟩ := HYes.out HJ.out
          have HNum := Lib.hid hnum
          subst hq
          clear HNo HYes HJ hnum CN
          have hzw := HBW.out.size
          have HR0 := Lib.hid (RowI.one wr.heap.size 3 wr (Nat.le_refl _) 0)
          have HS0 := Lib.hid ((HI.out.step (show Below w.heap.size w wr from HBW.out)).step ((Below.refl _ _).alloc (Nat.le_refl _) (.cells #[.int .i64 0] 3)))
          go_wp2_with (at_builtin; refine wpList_append_see rfl _ _ 42 rfl 3 i0 Try.underlying42 hi0 hz0 hz1 hz2 _ _ [0] ts (ts.length + 1) (by simp; omega) rfl rfl wr.heap.size HR0.out HS0.out hnil.out (by simp; omega) (by simp) ?_; intro a5 p5 w5 hr5 hg5; have hb5 : Below wr.heap.size wr w5 := ((Below.refl _ _).alloc (Nat.le_refl _) _).trans (RowI.belowOwn (C := wr.heap.size) HR0.out hg5 (by simp) (Nat.le_refl _)); have HR5 := Lib.hid hr5; have HX5 := Lib.hid (HBx.out.step hb5); have HW5 := Lib.hid (HBW.out.trans (hb5.mono HBW.out.size)); obtain ⟨x0, x1, x2⟩ := HX5.out; clear hr5 hg5 hb5)
          have L6 : Below w5.heap.size w5 (w5.alloc (.cells #[.slice a5 (ts.length + 1) p5] 42)) := (Below.refl _ _).alloc (Nat.le_refl _) _
          have V6 := boxV_new w5 (.slice a5 (ts.length + 1) p5) 42
          have HW6 := Lib.hid (below_nxt HW5.out L6)
          have HR6 := Lib.hid (HR5.out.step L6)
          have HV6 := Lib.hid V6
          have hz5 : (w5.alloc (.cells #[.slice a5 (ts.length + 1) p5] 42)).heap.size = w5.heap.size + 1 := by simp
          have HZ5 := Lib.hid hz5
          clear x0 x1 x2 b0 b1 b2 L6 V6 hz5
          generalize w5.alloc (.cells #[.slice a5 (ts.length + 1) p5] 42) = Y at *
          refine ((CO Y (HS.out.step HW6.out)).out).mono ?_
          rintro e w6 ⟨g, rfl, hg1, hM, hb6⟩
          have hgw := hM.1
          have L3 : Below w6.heap.size w6 (w6.alloc (.cells #[.pointer (some ⟨g, 0, none⟩)] 62)) := (Below.refl _ _).alloc (Nat.le_refl _) _
          have e3 : (w6.alloc (.cells #[.pointer (some ⟨g, 0, none⟩)] 62)).heap.size = w6.heap.size + 1 := by simp
          have V3 := boxV_new w6 (.pointer (some ⟨g, 0, none⟩)) 62
          have M3 := hM.step L3
          have A3 := (HV6.out.step hb6).step L3
          have B3 := below_nxt (below_nxt HW6.out hb6) L3
          have R3 := (HR6.out.step hb6).step L3
          have hzY := hb6.size
          obtain ⟨Y3, hY3⟩ : ∃ Y, Y = w6.alloc (.cells #[.pointer (some ⟨g, 0, none⟩)] 62) := ⟨_, rfl⟩
          rw [← hY3] at e3 V3 M3 A3 B3 R3
          have L4 : Below Y3.heap.size Y3 (Y3.alloc (.cells #[.bool true] 4)) := (Below.refl _ _).alloc (Nat.le_refl _) _
          have W4 := boxW_new Y3 (.bool true) 4
          rw [e3] at W4
          have HV4 := Lib.hid (V3.step L4)
          have HM4 := Lib.hid (M3.step L4)
          have HA4 := Lib.hid (A3.step L4)
          have HB4 := Lib.hid (below_nxt B3 L4)
          have HR4 := Lib.hid (R3.step L4)
          have HW4 := Lib.hid W4
          obtain ⟨v0, v1⟩ := V3.step L4
          rw [hY3] at v0 v1
          clear hb6 hM L3 V3 M3 A3 B3 R3 L4 W4
          go_wp2_with fail
          rw [← hY3]
          clear v0 v1
          generalize Y3.alloc (.cells #[.bool true] 4) = X4 at *
          have hz6 := HZ5.out
          have hzw5 := HW5.out.size
          refine (hold_each ts.length g w5.heap.size w6.heap.size (w6.heap.size + 1) _ _ R ts w X4 hN rfl HNum.out HM4.out (fun i j hi hj => Bn.sq_in hi hj) HV4.out HA4.out HW4.out HB4.out (by omega) (by omega) (by omega) (by omega) (fun Z hZ => HR5.out.other HR4.out hZ (by omega))).mono ?_
          rintro e w7 ⟨rfl, hw7, hb7⟩
          have HB7 := Lib.hid hb7
          obtain ⟨l0, l1, l2⟩ := hw7
          clear hb7
          go_wp2
          exact bodyPost_ret (v := .tuple #[.bool (Bn.hldB ts.length R ts), .int .i64 0]) (by simp [results, Try.results19, go_sem]) rfl ⟨rfl, HB7.out⟩
    · have hv2 : Bn.hldV N R ts = (false, 8) := by rw [hv, if_neg (by omega)]
      rw [hv2]
      have hne : (ts.length == N) = false := by simpa using h2
      clear hv hv2 h1 hSh hR h2
      go_enter Try.func19, Try.ntmps19
      go_wp2_with fail
      refine ((CC _ HSX.out).out).mono ?_
      rintro e w1 ⟨rfl, hb1⟩
      have HB1 := Lib.hid (below_nxt HL.out hb1)
      obtain ⟨b0, b1, b2⟩ := HB.out.step hb1
      clear hb1
      go_wp2
      exact bodyPost_ret (v := .tuple #[.bool false, .int .i64 8]) (by simp [results, Try.results19, go_sem]) rfl ⟨rfl, HB1.out⟩
  · have hv : Bn.hldV n R ts = (false, Bn.chk n R) := if_neg h1
    rw [hv]
    clear hv
    generalize Bn.chk n R = q at *
    go_enter Try.func19, Try.ntmps19
    go_wp2_with fail
    refine ((CC _ HSX.out).out).mono ?_
    rintro e w1 ⟨rfl, hb1⟩
    have HB1 := Lib.hid (below_nxt HL.out hb1)
    clear hb1
    go_wp2
    exact bodyPost_ret (v := .tuple #[.bool false, .int .i64 q]) (by simp [results, Try.results19, go_sem]) rfl ⟨rfl, HB1.out⟩
end Go.Proofs.Ytkemicfaiipidaa

