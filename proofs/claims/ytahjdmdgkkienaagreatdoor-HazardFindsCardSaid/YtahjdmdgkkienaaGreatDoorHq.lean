/- The examples of the law of package hazard: awake. -/
import Derived.Test.YtahjdmdgkkienaaGreatDoorHF
import Derived.Test.YtahjdmdgkkienaaGreatDoorHh
namespace Go.Proofs.YtahjdmdgkkienaaGreatDoor
open Go.RowKit Go.Shelf

/-- All variables lie. -/
structure Al (W : World) : Prop where
  st : St W
  sz : Stz W
  ta : Tabs W
theorem Al.next {w W : World} (h : Al w) (hb : Below w.heap.size w W) : Al W := ⟨h.st.next hb, h.sz.next hb, h.ta.next hb⟩

theorem seesP_one (W : World) (c v : Nat) (T : TypeId) : SeesP (W.alloc (.cells #[.int .i64 (c : Int), .int .i64 (v : Int)] T)) (.slice (some ⟨W.heap.size, 0, none⟩) 1 1) [(c, v)] := by
  refine .inr ⟨W.heap.size, 1, rfl, Nat.le_refl _, by decide, by simp, fun i hi => ?_⟩
  obtain rfl : i = 0 := by simpa using hi
  simp
theorem cHaz (v : Value) (w : World) (h : SeesO w v Hz.two) (ha : Al w) : Calls Tryz.prog 15 #[.int .i64 3, v] w fun e w' => ∃ u, e = .returned (.tuple #[u, .int .i64 0]) ∧ SeesP w' u [(6, 7)] ∧ Below w.heap.size w w' := by
  have := hHaz_ok 3 Hz.two v w (by omega) (by decide) Hz.two_ok Hz.two_w h ha.st ha.sz
  rwa [Hz.two_bad] at this
theorem cMend (v : Value) (w : World) (h : SeesO w v Hz.two) (ha : Al w) : Calls Tryz.prog 17 #[.int .i64 3, v] w fun e w' => ∃ u, e = .returned (.tuple #[u, .int .i64 0]) ∧ SeesC w' u [(6, 6)] ∧ Below w.heap.size w w' := by
  have := hMend_ok 3 Hz.two v w (by omega) (by decide) Hz.two_ok Hz.two_w h ha.st ha.sz
  rwa [Hz.two_mend] at this
theorem cBet (a b : Int) (r : Nat) (v : Value) (w : World) (h : SeesO w v Hz.two) (ha : Al w) (hr : Hz.betV 3 Hz.two a b = (r, 0)) : Calls Tryz.prog 9 #[.int .i64 3, v, .agg #[.int .i64 a, .int .i64 b]] w fun e w' => e = .returned (.tuple #[.int .i64 r, .int .i64 0]) ∧ Below w.heap.size w w' := by
  have := hBet_any 3 Hz.two v a b w Hz.two_w h ha.ta
  rwa [hr] at this
theorem cLog (a b : Int) (r : Bool) (v : Value) (w : World) (h : SeesO w v Hz.two) (ha : Al w) (hr : Hz.logV 3 Hz.two a b = (r, 0)) : Calls Tryz.prog 11 #[.int .i64 3, v, .agg #[.int .i64 a, .int .i64 b]] w fun e w' => e = .returned (.tuple #[.bool r, .int .i64 0]) ∧ Below w.heap.size w w' := by
  have := hLog_any 3 Hz.two v a b w Hz.two_w h ha.st ha.ta
  rwa [hr] at this

set_option maxHeartbeats 4000000 in
set_option maxRecDepth 100000 in
theorem awake_any (w : World) (ha : Al w) : Calls Tryz.prog 6 #[] w fun e w' => e = .returned (.bool true) ∧ Below w.heap.size w w' := by
  have HA := Lib.hid ha
  go_enter Tryz.func6, Tryz.ntmps6
  go_wp2_with fail
  refine (hTwo_any _).mono ?_
  rintro e w1 ⟨tv, rfl, hf, hb⟩
  have HB1 := Lib.hid (hb)
  have HT := Lib.hid hf
  clear hf
  clear hb
  go_wp2_with fail
  refine (cHaz _ _ HT.out (HA.out.next HB1.out)).mono ?_
  rintro e w2 ⟨lv, rfl, hf, hb⟩
  have HB2 := Lib.hid (below_nxt HB1.out hb)
  have HL := Lib.hid hf
  clear hf
  clear hb HB1 HT
  go_wp2_with fail
  refine (hTwo_any _).mono ?_
  rintro e w3 ⟨tv, rfl, hf, hb⟩
  have HB3 := Lib.hid (below_nxt HB2.out hb)
  have HL' := Lib.hid (HL.out.step hb)
  clear HL
  have HL := HL'
  clear HL'
  have HT := Lib.hid hf
  clear hf
  clear hb HB2
  go_wp2_with fail
  refine (cBet 6 7 2 _ _ HT.out (HA.out.next HB3.out) Hz.two_b1).mono ?_
  rintro e w4 ⟨rfl, hb⟩
  have HB4 := Lib.hid (below_nxt HB3.out hb)
  have HL' := Lib.hid (HL.out.step hb)
  clear HL
  have HL := HL'
  clear HL'
  clear hb HB3 HT
  go_wp2_with fail
  refine (hTwo_any _).mono ?_
  rintro e w5 ⟨tv, rfl, hf, hb⟩
  have HB5 := Lib.hid (below_nxt HB4.out hb)
  have HL' := Lib.hid (HL.out.step hb)
  clear HL
  have HL := HL'
  clear HL'
  have HT := Lib.hid hf
  clear hf
  clear hb HB4
  go_wp2_with fail
  refine (cMend _ _ HT.out (HA.out.next HB5.out)).mono ?_
  rintro e w6 ⟨mv, rfl, hf, hb⟩
  have HB6 := Lib.hid (below_nxt HB5.out hb)
  have HL' := Lib.hid (HL.out.step hb)
  clear HL
  have HL := HL'
  clear HL'
  have HM := Lib.hid hf
  clear hf
  clear hb HB5 HT
  go_wp2_with fail
  refine (hTwo_any _).mono ?_
  rintro e w7 ⟨tv, rfl, hf, hb⟩
  have HB7 := Lib.hid (below_nxt HB6.out hb)
  have HL' := Lib.hid (HL.out.step hb)
  clear HL
  have HL := HL'
  clear HL'
  have HM' := Lib.hid (HM.out.step hb)
  clear HM
  have HM := HM'
  clear HM'
  have HT := Lib.hid hf
  clear hf
  clear hb HB6
  go_wp2_with fail
  refine (cBet 0 1 0 _ _ HT.out (HA.out.next HB7.out) Hz.two_b2).mono ?_
  rintro e w8 ⟨rfl, hb⟩
  have HB8 := Lib.hid (below_nxt HB7.out hb)
  have HL' := Lib.hid (HL.out.step hb)
  clear HL
  have HL := HL'
  clear HL'
  have HM' := Lib.hid (HM.out.step hb)
  clear HM
  have HM := HM'
  clear HM'
  clear hb HB7 HT
  go_wp2_with fail
  refine (hTwo_any _).mono ?_
  rintro e w9 ⟨tv, rfl, hf, hb⟩
  have HB9 := Lib.hid (below_nxt HB8.out hb)
  have HL' := Lib.hid (HL.out.step hb)
  clear HL
  have HL := HL'
  clear HL'
  have HM' := Lib.hid (HM.out.step hb)
  clear HM
  have HM := HM'
  clear HM'
  have HT := Lib.hid hf
  clear hf
  clear hb HB8
  go_wp2_with fail
  refine (cBet 1 3 2 _ _ HT.out (HA.out.next HB9.out) Hz.two_b3).mono ?_
  rintro e w10 ⟨rfl, hb⟩
  have HB10 := Lib.hid (below_nxt HB9.out hb)
  have HL' := Lib.hid (HL.out.step hb)
  clear HL
  have HL := HL'
  clear HL'
  have HM' := Lib.hid (HM.out.step hb)
  clear HM
  have HM := HM'
  clear HM'
  clear hb HB9 HT
  go_wp2_with fail
  refine (hTwo_any _).mono ?_
  rintro e w11 ⟨tv, rfl, hf, hb⟩
  have HB11 := Lib.hid (below_nxt HB10.out hb)
  have HL' := Lib.hid (HL.out.step hb)
  clear HL
  have HL := HL'
  clear HL'
  have HM' := Lib.hid (HM.out.step hb)
  clear HM
  have HM := HM'
  clear HM'
  have HT := Lib.hid hf
  clear hf
  clear hb HB10
  go_wp2_with fail
  refine (cBet 3 7 1 _ _ HT.out (HA.out.next HB11.out) Hz.two_b4).mono ?_
  rintro e w12 ⟨rfl, hb⟩
  have HB12 := Lib.hid (below_nxt HB11.out hb)
  have HL' := Lib.hid (HL.out.step hb)
  clear HL
  have HL := HL'
  clear HL'
  have HM' := Lib.hid (HM.out.step hb)
  clear HM
  have HM := HM'
  clear HM'
  clear hb HB11 HT
  go_wp2_with fail
  have hE := (Below.refl w12.heap.size w12).alloc (Nat.le_refl _) (.cells #[.int .i64 6, .int .i64 7] 56)
  refine (sEqP_any _ _ [(6, 7)] _ (HL.out.step hE) (seesP_one w12 6 7 _)).mono ?_
  rintro e w13 ⟨rfl, hb⟩
  have hb' := hE.trans (hb.mono hE.size)
  have HB13 := Lib.hid (below_nxt HB12.out hb')
  have HM' := Lib.hid (HM.out.step hb')
  clear HM hb hb' hE HL HB12
  go_wp2_with fail
  have hE := (Below.refl w13.heap.size w13).alloc (Nat.le_refl _) (.cells #[.int .u64 6, .int .u64 6] 62)
  refine (rcSame_any _ _ [(6, 6)] _ (by decide) (HM'.out.step hE) (seesC_one w13 6 6 _)).mono ?_
  rintro e w14 ⟨rfl, hb⟩
  have HB14 := Lib.hid (below_nxt HB13.out (hE.trans (hb.mono hE.size)))
  clear HM' hb hE HB13
  go_wp2_with fail
  refine (hTwo_any _).mono ?_
  rintro e w15 ⟨tv, rfl, hf, hb⟩
  have HB15 := Lib.hid (below_nxt HB14.out hb)
  have HT := Lib.hid hf
  clear hf
  clear hb HB14
  go_wp2_with fail
  refine (cLog 6 7 true _ _ HT.out (HA.out.next HB15.out) Hz.two_g1).mono ?_
  rintro e w16 ⟨rfl, hb⟩
  have HB16 := Lib.hid (below_nxt HB15.out hb)
  clear hb HB15 HT
  go_wp2_with fail
  refine (hTwo_any _).mono ?_
  rintro e w17 ⟨tv, rfl, hf, hb⟩
  have HB17 := Lib.hid (below_nxt HB16.out hb)
  have HT := Lib.hid hf
  clear hf
  clear hb HB16
  go_wp2_with fail
  refine (cLog 1 3 false _ _ HT.out (HA.out.next HB17.out) Hz.two_g2).mono ?_
  rintro e w18 ⟨rfl, hb⟩
  have HB18 := Lib.hid (below_nxt HB17.out hb)
  clear hb HB17 HT
  go_wp2_with fail
  go_ret
  exact ⟨rfl, HB18.out⟩
end Go.Proofs.YtahjdmdgkkienaaGreatDoor

