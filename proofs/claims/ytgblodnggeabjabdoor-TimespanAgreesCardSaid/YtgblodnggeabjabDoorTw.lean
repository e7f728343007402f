/- The call of the statement TimespanAgrees. -/
import Derived.Test.YtgblodnggeabjabDoorTv
namespace Go.Proofs.YtgblodnggeabjabDoor
open Go.RowKit

theorem lawAgrees_bad (l h m k : Int) (w : World) (hst : St w) (hadd : ¬ (Tm.addV l h m k).2 = 0) :
    Calls Tryd.prog 9 #[.agg #[.int .i64 l, .int .i64 h], .agg #[.int .i64 m, .int .i64 k]] w fun e w' => e = .returned (.bool true) ∧ Below w.heap.size w w' := by
  have HST := Lib.hid hst
  have C0 := fun W => Lib.hid (right_any l h m k W false (by simp [hadd]))
  have hB0 := w2_below w l h m k
  have HF := fun W hW => Lib.hid (w2_facts w l h m k (W := W) hW)
  have hs := hB0.size
  clear hst hadd
  unfold W2 at *
  go_enter Tryd.func9, Tryd.ntmps9
  go_wp2_with fail
  refine ((C0 _).out).mono ?_
  rintro e w1 ⟨rfl, hb⟩
  obtain ⟨V1, V2⟩ := (HF _ hb).out
  have hB := hB0.trans (hb.mono hs)
  clear hb HF hB0 hs
  obtain ⟨a10, a11, a12, a13, a14⟩ := id V1
  obtain ⟨a20, a21, a22, a23, a24⟩ := id V2
  have H1 := Lib.hid V1
  have H2 := Lib.hid V2
  clear V1 V2
  go_wp2_with fail
  refine (awake_any _ (HST.out.next hB)).mono ?_
  rintro e wz ⟨rfl, hb⟩
  have hF := below_next hB hb
  go_wp2
  go_ret
  exact ⟨rfl, hF⟩

set_option maxRecDepth 100000 in
set_option maxHeartbeats 8000000 in
theorem lawAgrees_meet (l h m k : Int) (w : World) (hst : St w) (hr : 0 ≤ l ∧ l ≤ h ∧ 0 ≤ m ∧ m ≤ k ∧ h + k ≤ 1000000) (hadd : Tm.addV l h m k = ((l + m, h + k), 0)) (hc : Tm.chk2 l h m k = 0) (hk1 : m ≤ h) (hk2 : l ≤ k) :
    Calls Tryd.prog 9 #[.agg #[.int .i64 l, .int .i64 h], .agg #[.int .i64 m, .int .i64 k]] w fun e w' => e = .returned (.bool true) ∧ Below w.heap.size w w' := by
  have HST := Lib.hid hst
  clear hst
  have C0 := fun W => Lib.hid (right_any l h m k W true (by rw [hadd]; rfl))
  have C1 := fun W => Lib.hid (tAdd_any l h m k W)
  have C2 := fun W => Lib.hid (tLater_any l h m k W)
  have C3 := fun W => Lib.hid (tEarlier_any l h m k W)
  have C5 := fun W => Lib.hid (tHull_any l h m k W)
  have C8 := fun W => Lib.hid (tMeet_any l h m k W)
  have C9 := fun W => Lib.hid (tCompare_any l h m k W)
  rw [hadd] at C1
  rw [opV_good hc] at C2 C3 C5
  have eC4 : Tm.addV (Tm.less l m) (Tm.less h k) (Tm.great l m) (Tm.great h k) = ((l + m, h + k), 0) := by
    have e1 := Tm.great_less l m
    have e2 := Tm.great_less h k
    rcases Tm.add_cases (Tm.less l m) (Tm.less h k) (Tm.great l m) (Tm.great h k) with ⟨_, h1, _⟩ | ⟨h1, _⟩
    · rw [h1, e1, e2]
    · exact absurd (show Tm.Right _ _ _ _ by unfold Tm.Right; unfold Tm.less Tm.great at *; repeat' split <;> omega) h1
  have C4 := fun W => Lib.hid (tAdd_any (Tm.less l m) (Tm.less h k) (Tm.great l m) (Tm.great h k) W)
  rw [eC4] at C4
  have wit : ∀ a b c d : Int, 0 ≤ a → a ≤ b → b ≤ 1000000 → 0 ≤ c → c ≤ a → b ≤ d → d ≤ 1000000 → Tm.witV a b c d = (true, 0) := fun a b c d h1 h2 h3 h4 h5 h6 h7 => by
    unfold Tm.witV
    rw [if_pos (Tm.chk2_of ⟨h1, h2, h3⟩ ⟨h4, by omega, h7⟩)]
    simp [h5, h6]
  have g1 := Tm.great_ge l m
  have g2 := Tm.great_ge h k
  have g3 := Tm.less_le l m
  have g4 := Tm.less_le h k
  have C6 := fun W => Lib.hid (tWithin_any l h (Tm.less l m) (Tm.great h k) W)
  have C7 := fun W => Lib.hid (tWithin_any m k (Tm.less l m) (Tm.great h k) W)
  rw [wit l h _ _ (by omega) (by omega) (by omega) (by omega) (by omega) (by omega) (by omega)] at C6
  rw [wit m k _ _ (by omega) (by omega) (by omega) (by omega) (by omega) (by omega) (by omega)] at C7
  have eM : Tm.meeV l h m k = (((Tm.great l m, Tm.less h k), true), 0) := by unfold Tm.meeV; rw [if_pos hc, if_neg (by omega)]
  have eP : Tm.cmpV l h m k = (0, 0) := by unfold Tm.cmpV; rw [if_pos hc, if_neg (by omega), if_neg (by omega)]
  rw [eM] at C8
  rw [eP] at C9
  have C10 := fun W => Lib.hid (tWithin_any (Tm.great l m) (Tm.less h k) l h W)
  have C11 := fun W => Lib.hid (tWithin_any (Tm.great l m) (Tm.less h k) m k W)
  rw [wit _ _ l h (by omega) (by omega) (by omega) (by omega) (by omega) (by omega) (by omega)] at C10
  rw [wit _ _ m k (by omega) (by omega) (by omega) (by omega) (by omega) (by omega) (by omega)] at C11
  clear eM eP
  clear g1 g2 g3 g4 wit eC4 hadd hc hr hk1 hk2
  generalize l + m = s at *
  generalize h + k = t at *
  generalize Tm.great l m = gl at *
  generalize Tm.great h k = gh at *
  generalize Tm.less l m = ll at *
  generalize Tm.less h k = lh at *
  simp only [] at C1 C2 C3 C4 C5 C6 C7 C8 C9 C10 C11
  have hB0 := w2_below w l h m k
  have HF := fun W hW => Lib.hid (w2_facts w l h m k (W := W) hW)
  have hs := hB0.size
  unfold W2 at *
  go_enter Tryd.func9, Tryd.ntmps9
  go_wp2_with fail
  refine ((C0 _).out).mono ?_
  rintro e w1 ⟨rfl, hb⟩
  obtain ⟨V1, V2⟩ := (HF _ hb).out
  have hB := hB0.trans (hb.mono hs)
  clear hb HF hB0 hs
  obtain ⟨a10, a11, a12, a13, a14⟩ := id V1
  obtain ⟨a20, a21, a22, a23, a24⟩ := id V2
  have H1 := Lib.hid V1
  have H2 := Lib.hid V2
  clear V1 V2
  go_wp2_with fail
  refine ((C1 _).out).mono ?_
  rintro e w2 ⟨rfl, hb⟩
  have V1 := H1.out.step hb
  have V2 := H2.out.step hb
  have hB' := below_next hB hb
  clear hb hB a10 a11 a12 a13 a14 H1 a20 a21 a22 a23 a24 H2
  have hB := hB'
  clear hB'
  have n2_1 : w.heap.size < w2.heap.size := V1.1
  have n2_2 : (w.heap.size + 1) < w2.heap.size := V2.1
  obtain ⟨a10, a11, a12, a13, a14⟩ := id V1
  obtain ⟨a20, a21, a22, a23, a24⟩ := id V2
  have H1 := Lib.hid V1
  have H2 := Lib.hid V2
  clear V1 V2
  go_wp2_with fail
  refine ((C2 _).out).mono ?_
  rintro e w3 ⟨rfl, hb⟩
  have V1 := H1.out.box hb
  have V2 := H2.out.box hb
  have V3 := pairI_box hb
  have hB' := below_nextb hB hb
  clear hb hB a10 a11 a12 a13 a14 H1 a20 a21 a22 a23 a24 H2
  have hB := hB'
  clear hB'
  have n3_1 : w.heap.size < w3.heap.size := V1.1
  have n3_2 : (w.heap.size + 1) < w3.heap.size := V2.1
  have n3_3 : w2.heap.size < w3.heap.size := V3.1
  obtain ⟨a10, a11, a12, a13, a14⟩ := id V1
  obtain ⟨a20, a21, a22, a23, a24⟩ := id V2
  obtain ⟨a30, a31, a32, a33, a34⟩ := id V3
  have H1 := Lib.hid V1
  have H2 := Lib.hid V2
  have H3 := Lib.hid V3
  clear V1 V2 V3
  go_wp2_with fail
  refine ((C3 _).out).mono ?_
  rintro e w4 ⟨rfl, hb⟩
  have V1 := H1.out.box hb
  have V2 := H2.out.box hb
  have V3 := H3.out.box hb
  have V4 := pairI_box hb
  have hB' := below_nextb hB hb
  clear hb hB a10 a11 a12 a13 a14 H1 a20 a21 a22 a23 a24 H2 a30 a31 a32 a33 a34 H3
  have hB := hB'
  clear hB'
  have n4_1 : w.heap.size < w4.heap.size := V1.1
  have n4_2 : (w.heap.size + 1) < w4.heap.size := V2.1
  have n4_3 : w2.heap.size < w4.heap.size := V3.1
  have n4_4 : w3.heap.size < w4.heap.size := V4.1
  obtain ⟨a10, a11, a12, a13, a14⟩ := id V1
  obtain ⟨a20, a21, a22, a23, a24⟩ := id V2
  obtain ⟨a30, a31, a32, a33, a34⟩ := id V3
  obtain ⟨a40, a41, a42, a43, a44⟩ := id V4
  have H1 := Lib.hid V1
  have H2 := Lib.hid V2
  have H3 := Lib.hid V3
  have H4 := Lib.hid V4
  clear V1 V2 V3 V4
  go_wp2_with fail
  refine ((C4 _).out).mono ?_
  rintro e w5 ⟨rfl, hb⟩
  have V1 := H1.out.box hb
  have V2 := H2.out.box hb
  have V3 := H3.out.box hb
  have V4 := H4.out.box hb
  have V5 := pairI_box hb
  have hB' := below_nextb hB hb
  clear hb hB a10 a11 a12 a13 a14 H1 a20 a21 a22 a23 a24 H2 a30 a31 a32 a33 a34 H3 a40 a41 a42 a43 a44 H4
  have hB := hB'
  clear hB'
  have n5_1 : w.heap.size < w5.heap.size := V1.1
  have n5_2 : (w.heap.size + 1) < w5.heap.size := V2.1
  have n5_3 : w2.heap.size < w5.heap.size := V3.1
  have n5_4 : w3.heap.size < w5.heap.size := V4.1
  have n5_5 : w4.heap.size < w5.heap.size := V5.1
  obtain ⟨a10, a11, a12, a13, a14⟩ := id V1
  obtain ⟨a20, a21, a22, a23, a24⟩ := id V2
  obtain ⟨a30, a31, a32, a33, a34⟩ := id V3
  obtain ⟨a40, a41, a42, a43, a44⟩ := id V4
  obtain ⟨a50, a51, a52, a53, a54⟩ := id V5
  have H1 := Lib.hid V1
  have H2 := Lib.hid V2
  have H3 := Lib.hid V3
  have H4 := Lib.hid V4
  have H5 := Lib.hid V5
  clear V1 V2 V3 V4 V5
  go_wp2_with fail
  refine ((C5 _).out).mono ?_
  rintro e w6 ⟨rfl, hb⟩
  have V1 := H1.out.box hb
  have V2 := H2.out.box hb
  have V3 := H3.out.box hb
  have V4 := H4.out.box hb
  have V5 := H5.out.box hb
  have V6 := pairI_box hb
  have hB' := below_nextb hB hb
  clear hb hB a10 a11 a12 a13 a14 H1 a20 a21 a22 a23 a24 H2 a30 a31 a32 a33 a34 H3 a40 a41 a42 a43 a44 H4 a50 a51 a52 a53 a54 H5
  have hB := hB'
  clear hB'
  have n6_1 : w.heap.size < w6.heap.size := V1.1
  have n6_2 : (w.heap.size + 1) < w6.heap.size := V2.1
  have n6_3 : w2.heap.size < w6.heap.size := V3.1
  have n6_4 : w3.heap.size < w6.heap.size := V4.1
  have n6_5 : w4.heap.size < w6.heap.size := V5.1
  have n6_6 : w5.heap.size < w6.heap.size := V6.1
  obtain ⟨a10, a11, a12, a13, a14⟩ := id V1
  obtain ⟨a20, a21, a22, a23, a24⟩ := id V2
  obtain ⟨a30, a31, a32, a33, a34⟩ := id V3
  obtain ⟨a40, a41, a42, a43, a44⟩ := id V4
  obtain ⟨a50, a51, a52, a53, a54⟩ := id V5
  obtain ⟨a60, a61, a62, a63, a64⟩ := id V6
  have H1 := Lib.hid V1
  have H2 := Lib.hid V2
  have H3 := Lib.hid V3
  have H4 := Lib.hid V4
  have H5 := Lib.hid V5
  have H6 := Lib.hid V6
  clear V1 V2 V3 V4 V5 V6
  go_wp2_with fail
  obtain ⟨X, hX⟩ : ∃ X, w6.alloc (.cells #[.int .i64 ll, .int .i64 gh] 23) = X := ⟨_, rfl⟩
  rw [hX]
  have bX : Below w6.heap.size w6 X := by rw [← hX]; exact (Below.refl _ _).alloc (Nat.le_refl _) _
  have sX : X.heap.size = w6.heap.size + 1 := by rw [← hX]; simp
  have V7 : PairI X w6.heap.size ll gh := by rw [← hX]; exact pairI_new w6 ll gh 23
  have V1 := H1.out.step bX
  have V2 := H2.out.step bX
  have V3 := H3.out.step bX
  have V4 := H4.out.step bX
  have V5 := H5.out.step bX
  have V6 := H6.out.step bX
  have hB' := below_next hB bX
  clear bX hX hB a11 a12 a13 a14 H1 a21 a22 a23 a24 H2 a31 a32 a33 a34 H3 a41 a42 a43 a44 H4 a51 a52 a53 a54 H5 a61 a62 a63 a64 H6
  have hB := hB'
  clear hB'
  clear a10 a20 a30 a40 a50 a60
  generalize hG : w6.heap.size = gX at *
  clear hG
  obtain ⟨a10, a11, a12, a13, a14⟩ := id V1
  obtain ⟨a20, a21, a22, a23, a24⟩ := id V2
  obtain ⟨a30, a31, a32, a33, a34⟩ := id V3
  obtain ⟨a40, a41, a42, a43, a44⟩ := id V4
  obtain ⟨a50, a51, a52, a53, a54⟩ := id V5
  obtain ⟨a60, a61, a62, a63, a64⟩ := id V6
  obtain ⟨a70, a71, a72, a73, a74⟩ := id V7
  have H1 := Lib.hid V1
  have H2 := Lib.hid V2
  have H3 := Lib.hid V3
  have H4 := Lib.hid V4
  have H5 := Lib.hid V5
  have H6 := Lib.hid V6
  have H7 := Lib.hid V7
  clear V1 V2 V3 V4 V5 V6 V7
  obtain ⟨Y, hY⟩ : ∃ Y, X.alloc (.cells #[.int .i64 l, .int .i64 h, .int .i64 m, .int .i64 k] 23) = Y := ⟨_, rfl⟩
  rw [hY]
  have bY : Below X.heap.size X Y := by rw [← hY]; exact (Below.refl _ _).alloc (Nat.le_refl _) _
  have V1 := H1.out.step bY
  have V2 := H2.out.step bY
  have V7 := H7.out.step bY
  have hBY := below_next hB bY
  have Q : Y.cell? ⟨X.heap.size, 0, none⟩ = some (.int .i64 l) ∧ Y.cell? ⟨X.heap.size, 1, none⟩ = some (.int .i64 h) ∧ Y.cell? ⟨X.heap.size, 2, none⟩ = some (.int .i64 m) ∧ Y.cell? ⟨X.heap.size, 3, none⟩ = some (.int .i64 k) ∧ X.heap.size < Y.heap.size := by
    rw [← hY]; simp
  clear hY bY hB a11 a12 a13 a14 H1 a21 a22 a23 a24 H2 a31 a32 a33 a34 H3 a41 a42 a43 a44 H4 a51 a52 a53 a54 H5 a61 a62 a63 a64 H6 a71 a72 a73 a74 H7 a10 a20 a30 a40 a50 a60 a70
  rw [sX] at Q
  clear sX
  have K1 := Lib.hid V1
  have K2 := Lib.hid V2
  have K7 := Lib.hid V7
  have KQ := Lib.hid Q
  clear V1 V2 V7 Q
  go_loopw [78] (fun u78 wr => ∃ j : Nat, j ≤ 2 ∧ u78 = .int .i64 j ∧ Below Y.heap.size Y wr) (fun u78 _ => 2 - (intOf u78).toNat)
  case atStart => exact ⟨0, by omega, rfl, Below.refl _ _⟩
  case round =>
    obtain ⟨j, hj, rfl, hbel⟩ := hrel
    obtain ⟨d0, d1, d2, d3, d4⟩ := K7.out.step hbel
    have E0 := (hbel.cell (p := ⟨gX + 1, 0, none⟩) KQ.out.2.2.2.2).trans KQ.out.1
    have E1 := (hbel.cell (p := ⟨gX + 1, 1, none⟩) KQ.out.2.2.2.2).trans KQ.out.2.1
    have E2 := (hbel.cell (p := ⟨gX + 1, 2, none⟩) KQ.out.2.2.2.2).trans KQ.out.2.2.1
    have E3 := (hbel.cell (p := ⟨gX + 1, 3, none⟩) KQ.out.2.2.2.2).trans KQ.out.2.2.2.1
    have hj3 : j = 0 ∨ j = 1 ∨ j = 2 := by omega
    rcases hj3 with rfl | rfl | rfl
    · go_wp2_with fail
      refine ((C6 _).out).mono ?_
      rintro e w1 ⟨rfl, hb1⟩
      have hB1 := below_nextb hbel hb1
      go_wp2
      go_roundw
      case rel => exact ⟨1, by omega, by go_num, hB1⟩
      case measure => simp [intOf]
    · go_wp2_with fail
      refine ((C7 _).out).mono ?_
      rintro e w1 ⟨rfl, hb1⟩
      have hB1 := below_nextb hbel hb1
      go_wp2
      go_roundw
      case rel => exact ⟨2, by omega, by go_num, hB1⟩
      case measure => simp [intOf]
    · obtain ⟨a10, a11, a12, a13, a14⟩ := K1.out.step hbel
      obtain ⟨a20, a21, a22, a23, a24⟩ := K2.out.step hbel
      have H1 : Hid (PairI wr w.heap.size l h) := K1.out.step hbel
      have H2 : Hid (PairI wr (w.heap.size + 1) m k) := K2.out.step hbel
      have hB := below_next hBY hbel
      clear hbel d0 d1 d2 d3 d4 E0 E1 E2 E3 K1 K2 K7 KQ hBY C6 C7
      go_wp2_with fail
      refine ((C8 _).out).mono ?_
      rintro e w1 ⟨rfl, hb⟩
      have V1 := H1.out.step hb
      have V2 := H2.out.step hb
      have hB' := below_next hB hb
      clear hb hB a10 a11 a12 a13 a14 H1 a20 a21 a22 a23 a24 H2
      have hB := hB'
      clear hB'
      have n1_1 : w.heap.size < w1.heap.size := V1.1
      have n1_2 : (w.heap.size + 1) < w1.heap.size := V2.1
      obtain ⟨a10, a11, a12, a13, a14⟩ := id V1
      obtain ⟨a20, a21, a22, a23, a24⟩ := id V2
      have H1 := Lib.hid V1
      have H2 := Lib.hid V2
      clear V1 V2
      go_wp2_with fail
      refine ((C9 _).out).mono ?_
      rintro e w2 ⟨rfl, hb⟩
      have V1 := H1.out.box hb
      have V2 := H2.out.box hb
      have V3 := pairI_box hb
      have hB' := below_nextb hB hb
      clear hb hB a10 a11 a12 a13 a14 H1 a20 a21 a22 a23 a24 H2
      have hB := hB'
      clear hB'
      obtain ⟨a10, a11, a12, a13, a14⟩ := id V1
      obtain ⟨a20, a21, a22, a23, a24⟩ := id V2
      obtain ⟨a30, a31, a32, a33, a34⟩ := id V3
      have H1 := Lib.hid V1
      have H2 := Lib.hid V2
      have H3 := Lib.hid V3
      clear V1 V2 V3
      go_wp2_with fail
      refine ((C10 _).out).mono ?_
      rintro e w3 ⟨rfl, hb⟩
      have V1 := H1.out.step hb
      have V2 := H2.out.step hb
      have V3 := H3.out.step hb
      have hB' := below_next hB hb
      clear hb hB a10 a11 a12 a13 a14 H1 a20 a21 a22 a23 a24 H2 a30 a31 a32 a33 a34 H3
      have hB := hB'
      clear hB'
      obtain ⟨a10, a11, a12, a13, a14⟩ := id V1
      obtain ⟨a20, a21, a22, a23, a24⟩ := id V2
      obtain ⟨a30, a31, a32, a33, a34⟩ := id V3
      have H1 := Lib.hid V1
      have H2 := Lib.hid V2
      have H3 := Lib.hid V3
      clear V1 V2 V3
      go_wp2_with fail
      refine ((C11 _).out).mono ?_
      rintro e w4 ⟨rfl, hb⟩
      have V1 := H1.out.step hb
      have V2 := H2.out.step hb
      have V3 := H3.out.step hb
      have hB' := below_next hB hb
      clear hb hB a10 a11 a12 a13 a14 H1 a20 a21 a22 a23 a24 H2 a30 a31 a32 a33 a34 H3
      have hB := hB'
      clear hB'
      obtain ⟨a10, a11, a12, a13, a14⟩ := id V1
      obtain ⟨a20, a21, a22, a23, a24⟩ := id V2
      obtain ⟨a30, a31, a32, a33, a34⟩ := id V3
      have H1 := Lib.hid V1
      have H2 := Lib.hid V2
      have H3 := Lib.hid V3
      clear V1 V2 V3
      go_wp2_with fail
      refine (awake_any _ (HST.out.next hB)).mono ?_
      rintro e wz ⟨rfl, hb⟩
      have hF := below_next hB hb
      go_wp2
      go_ret
      exact ⟨rfl, hF⟩

set_option maxRecDepth 100000 in
set_option maxHeartbeats 8000000 in
theorem lawAgrees_less (l h m k : Int) (w : World) (hst : St w) (hr : 0 ≤ l ∧ l ≤ h ∧ 0 ≤ m ∧ m ≤ k ∧ h + k ≤ 1000000) (hadd : Tm.addV l h m k = ((l + m, h + k), 0)) (hc : Tm.chk2 l h m k = 0) (hk1 : h < m) :
    Calls Tryd.prog 9 #[.agg #[.int .i64 l, .int .i64 h], .agg #[.int .i64 m, .int .i64 k]] w fun e w' => e = .returned (.bool true) ∧ Below w.heap.size w w' := by
  have HST := Lib.hid hst
  clear hst
  have C0 := fun W => Lib.hid (right_any l h m k W true (by rw [hadd]; rfl))
  have C1 := fun W => Lib.hid (tAdd_any l h m k W)
  have C2 := fun W => Lib.hid (tLater_any l h m k W)
  have C3 := fun W => Lib.hid (tEarlier_any l h m k W)
  have C5 := fun W => Lib.hid (tHull_any l h m k W)
  have C8 := fun W => Lib.hid (tMeet_any l h m k W)
  have C9 := fun W => Lib.hid (tCompare_any l h m k W)
  rw [hadd] at C1
  rw [opV_good hc] at C2 C3 C5
  have eC4 : Tm.addV (Tm.less l m) (Tm.less h k) (Tm.great l m) (Tm.great h k) = ((l + m, h + k), 0) := by
    have e1 := Tm.great_less l m
    have e2 := Tm.great_less h k
    rcases Tm.add_cases (Tm.less l m) (Tm.less h k) (Tm.great l m) (Tm.great h k) with ⟨_, h1, _⟩ | ⟨h1, _⟩
    · rw [h1, e1, e2]
    · exact absurd (show Tm.Right _ _ _ _ by unfold Tm.Right; unfold Tm.less Tm.great at *; repeat' split <;> omega) h1
  have C4 := fun W => Lib.hid (tAdd_any (Tm.less l m) (Tm.less h k) (Tm.great l m) (Tm.great h k) W)
  rw [eC4] at C4
  have wit : ∀ a b c d : Int, 0 ≤ a → a ≤ b → b ≤ 1000000 → 0 ≤ c → c ≤ a → b ≤ d → d ≤ 1000000 → Tm.witV a b c d = (true, 0) := fun a b c d h1 h2 h3 h4 h5 h6 h7 => by
    unfold Tm.witV
    rw [if_pos (Tm.chk2_of ⟨h1, h2, h3⟩ ⟨h4, by omega, h7⟩)]
    simp [h5, h6]
  have g1 := Tm.great_ge l m
  have g2 := Tm.great_ge h k
  have g3 := Tm.less_le l m
  have g4 := Tm.less_le h k
  have C6 := fun W => Lib.hid (tWithin_any l h (Tm.less l m) (Tm.great h k) W)
  have C7 := fun W => Lib.hid (tWithin_any m k (Tm.less l m) (Tm.great h k) W)
  rw [wit l h _ _ (by omega) (by omega) (by omega) (by omega) (by omega) (by omega) (by omega)] at C6
  rw [wit m k _ _ (by omega) (by omega) (by omega) (by omega) (by omega) (by omega) (by omega)] at C7
  have eM : Tm.meeV l h m k = (((0, 0), false), 0) := by unfold Tm.meeV; rw [if_pos hc, if_pos (by omega)]
  have eP : Tm.cmpV l h m k = (-1, 0) := by unfold Tm.cmpV; rw [if_pos hc, if_pos (by omega)]
  rw [eM] at C8
  rw [eP] at C9
  clear eM eP
  clear g1 g2 g3 g4 wit eC4 hadd hc hr
  generalize l + m = s at *
  generalize h + k = t at *
  generalize Tm.great l m = gl at *
  generalize Tm.great h k = gh at *
  generalize Tm.less l m = ll at *
  generalize Tm.less h k = lh at *
  simp only [] at C1 C2 C3 C4 C5 C6 C7 C8 C9
  have hB0 := w2_below w l h m k
  have HF := fun W hW => Lib.hid (w2_facts w l h m k (W := W) hW)
  have hs := hB0.size
  unfold W2 at *
  go_enter Tryd.func9, Tryd.ntmps9
  go_wp2_with fail
  refine ((C0 _).out).mono ?_
  rintro e w1 ⟨rfl, hb⟩
  obtain ⟨V1, V2⟩ := (HF _ hb).out
  have hB := hB0.trans (hb.mono hs)
  clear hb HF hB0 hs
  obtain ⟨a10, a11, a12, a13, a14⟩ := id V1
  obtain ⟨a20, a21, a22, a23, a24⟩ := id V2
  have H1 := Lib.hid V1
  have H2 := Lib.hid V2
  clear V1 V2
  go_wp2_with fail
  refine ((C1 _).out).mono ?_
  rintro e w2 ⟨rfl, hb⟩
  have V1 := H1.out.step hb
  have V2 := H2.out.step hb
  have hB' := below_next hB hb
  clear hb hB a10 a11 a12 a13 a14 H1 a20 a21 a22 a23 a24 H2
  have hB := hB'
  clear hB'
  have n2_1 : w.heap.size < w2.heap.size := V1.1
  have n2_2 : (w.heap.size + 1) < w2.heap.size := V2.1
  obtain ⟨a10, a11, a12, a13, a14⟩ := id V1
  obtain ⟨a20, a21, a22, a23, a24⟩ := id V2
  have H1 := Lib.hid V1
  have H2 := Lib.hid V2
  clear V1 V2
  go_wp2_with fail
  refine ((C2 _).out).mono ?_
  rintro e w3 ⟨rfl, hb⟩
  have V1 := H1.out.box hb
  have V2 := H2.out.box hb
  have V3 := pairI_box hb
  have hB' := below_nextb hB hb
  clear hb hB a10 a11 a12 a13 a14 H1 a20 a21 a22 a23 a24 H2
  have hB := hB'
  clear hB'
  have n3_1 : w.heap.size < w3.heap.size := V1.1
  have n3_2 : (w.heap.size + 1) < w3.heap.size := V2.1
  have n3_3 : w2.heap.size < w3.heap.size := V3.1
  obtain ⟨a10, a11, a12, a13, a14⟩ := id V1
  obtain ⟨a20, a21, a22, a23, a24⟩ := id V2
  obtain ⟨a30, a31, a32, a33, a34⟩ := id V3
  have H1 := Lib.hid V1
  have H2 := Lib.hid V2
  have H3 := Lib.hid V3
  clear V1 V2 V3
  go_wp2_with fail
  refine ((C3 _).out).mono ?_
  rintro e w4 ⟨rfl, hb⟩
  have V1 := H1.out.box hb
  have V2 := H2.out.box hb
  have V3 := H3.out.box hb
  have V4 := pairI_box hb
  have hB' := below_nextb hB hb
  clear hb hB a10 a11 a12 a13 a14 H1 a20 a21 a22 a23 a24 H2 a30 a31 a32 a33 a34 H3
  have hB := hB'
  clear hB'
  have n4_1 : w.heap.size < w4.heap.size := V1.1
  have n4_2 : (w.heap.size + 1) < w4.heap.size := V2.1
  have n4_3 : w2.heap.size < w4.heap.size := V3.1
  have n4_4 : w3.heap.size < w4.heap.size := V4.1
  obtain ⟨a10, a11, a12, a13, a14⟩ := id V1
  obtain ⟨a20, a21, a22, a23, a24⟩ := id V2
  obtain ⟨a30, a31, a32, a33, a34⟩ := id V3
  obtain ⟨a40, a41, a42, a43, a44⟩ := id V4
  have H1 := Lib.hid V1
  have H2 := Lib.hid V2
  have H3 := Lib.hid V3
  have H4 := Lib.hid V4
  clear V1 V2 V3 V4
  go_wp2_with fail
  refine ((C4 _).out).mono ?_
  rintro e w5 ⟨rfl, hb⟩
  have V1 := H1.out.box hb
  have V2 := H2.out.box hb
  have V3 := H3.out.box hb
  have V4 := H4.out.box hb
  have V5 := pairI_box hb
  have hB' := below_nextb hB hb
  clear hb hB a10 a11 a12 a13 a14 H1 a20 a21 a22 a23 a24 H2 a30 a31 a32 a33 a34 H3 a40 a41 a42 a43 a44 H4
  have hB := hB'
  clear hB'
  have n5_1 : w.heap.size < w5.heap.size := V1.1
  have n5_2 : (w.heap.size + 1) < w5.heap.size := V2.1
  have n5_3 : w2.heap.size < w5.heap.size := V3.1
  have n5_4 : w3.heap.size < w5.heap.size := V4.1
  have n5_5 : w4.heap.size < w5.heap.size := V5.1
  obtain ⟨a10, a11, a12, a13, a14⟩ := id V1
  obtain ⟨a20, a21, a22, a23, a24⟩ := id V2
  obtain ⟨a30, a31, a32, a33, a34⟩ := id V3
  obtain ⟨a40, a41, a42, a43, a44⟩ := id V4
  obtain ⟨a50, a51, a52, a53, a54⟩ := id V5
  have H1 := Lib.hid V1
  have H2 := Lib.hid V2
  have H3 := Lib.hid V3
  have H4 := Lib.hid V4
  have H5 := Lib.hid V5
  clear V1 V2 V3 V4 V5
  go_wp2_with fail
  refine ((C5 _).out).mono ?_
  rintro e w6 ⟨rfl, hb⟩
  have V1 := H1.out.box hb
  have V2 := H2.out.box hb
  have V3 := H3.out.box hb
  have V4 := H4.out.box hb
  have V5 := H5.out.box hb
  have V6 := pairI_box hb
  have hB' := below_nextb hB hb
  clear hb hB a10 a11 a12 a13 a14 H1 a20 a21 a22 a23 a24 H2 a30 a31 a32 a33 a34 H3 a40 a41 a42 a43 a44 H4 a50 a51 a52 a53 a54 H5
  have hB := hB'
  clear hB'
  have n6_1 : w.heap.size < w6.heap.size := V1.1
  have n6_2 : (w.heap.size + 1) < w6.heap.size := V2.1
  have n6_3 : w2.heap.size < w6.heap.size := V3.1
  have n6_4 : w3.heap.size < w6.heap.size := V4.1
  have n6_5 : w4.heap.size < w6.heap.size := V5.1
  have n6_6 : w5.heap.size < w6.heap.size := V6.1
  obtain ⟨a10, a11, a12, a13, a14⟩ := id V1
  obtain ⟨a20, a21, a22, a23, a24⟩ := id V2
  obtain ⟨a30, a31, a32, a33, a34⟩ := id V3
  obtain ⟨a40, a41, a42, a43, a44⟩ := id V4
  obtain ⟨a50, a51, a52, a53, a54⟩ := id V5
  obtain ⟨a60, a61, a62, a63, a64⟩ := id V6
  have H1 := Lib.hid V1
  have H2 := Lib.hid V2
  have H3 := Lib.hid V3
  have H4 := Lib.hid V4
  have H5 := Lib.hid V5
  have H6 := Lib.hid V6
  clear V1 V2 V3 V4 V5 V6
  go_wp2_with fail
  obtain ⟨X, hX⟩ : ∃ X, w6.alloc (.cells #[.int .i64 ll, .int .i64 gh] 23) = X := ⟨_, rfl⟩
  rw [hX]
  have bX : Below w6.heap.size w6 X := by rw [← hX]; exact (Below.refl _ _).alloc (Nat.le_refl _) _
  have sX : X.heap.size = w6.heap.size + 1 := by rw [← hX]; simp
  have V7 : PairI X w6.heap.size ll gh := by rw [← hX]; exact pairI_new w6 ll gh 23
  have V1 := H1.out.step bX
  have V2 := H2.out.step bX
  have V3 := H3.out.step bX
  have V4 := H4.out.step bX
  have V5 := H5.out.step bX
  have V6 := H6.out.step bX
  have hB' := below_next hB bX
  clear bX hX hB a11 a12 a13 a14 H1 a21 a22 a23 a24 H2 a31 a32 a33 a34 H3 a41 a42 a43 a44 H4 a51 a52 a53 a54 H5 a61 a62 a63 a64 H6
  have hB := hB'
  clear hB'
  clear a10 a20 a30 a40 a50 a60
  generalize hG : w6.heap.size = gX at *
  clear hG
  obtain ⟨a10, a11, a12, a13, a14⟩ := id V1
  obtain ⟨a20, a21, a22, a23, a24⟩ := id V2
  obtain ⟨a30, a31, a32, a33, a34⟩ := id V3
  obtain ⟨a40, a41, a42, a43, a44⟩ := id V4
  obtain ⟨a50, a51, a52, a53, a54⟩ := id V5
  obtain ⟨a60, a61, a62, a63, a64⟩ := id V6
  obtain ⟨a70, a71, a72, a73, a74⟩ := id V7
  have H1 := Lib.hid V1
  have H2 := Lib.hid V2
  have H3 := Lib.hid V3
  have H4 := Lib.hid V4
  have H5 := Lib.hid V5
  have H6 := Lib.hid V6
  have H7 := Lib.hid V7
  clear V1 V2 V3 V4 V5 V6 V7
  obtain ⟨Y, hY⟩ : ∃ Y, X.alloc (.cells #[.int .i64 l, .int .i64 h, .int .i64 m, .int .i64 k] 23) = Y := ⟨_, rfl⟩
  rw [hY]
  have bY : Below X.heap.size X Y := by rw [← hY]; exact (Below.refl _ _).alloc (Nat.le_refl _) _
  have V1 := H1.out.step bY
  have V2 := H2.out.step bY
  have V7 := H7.out.step bY
  have hBY := below_next hB bY
  have Q : Y.cell? ⟨X.heap.size, 0, none⟩ = some (.int .i64 l) ∧ Y.cell? ⟨X.heap.size, 1, none⟩ = some (.int .i64 h) ∧ Y.cell? ⟨X.heap.size, 2, none⟩ = some (.int .i64 m) ∧ Y.cell? ⟨X.heap.size, 3, none⟩ = some (.int .i64 k) ∧ X.heap.size < Y.heap.size := by
    rw [← hY]; simp
  clear hY bY hB a11 a12 a13 a14 H1 a21 a22 a23 a24 H2 a31 a32 a33 a34 H3 a41 a42 a43 a44 H4 a51 a52 a53 a54 H5 a61 a62 a63 a64 H6 a71 a72 a73 a74 H7 a10 a20 a30 a40 a50 a60 a70
  rw [sX] at Q
  clear sX
  have K1 := Lib.hid V1
  have K2 := Lib.hid V2
  have K7 := Lib.hid V7
  have KQ := Lib.hid Q
  clear V1 V2 V7 Q
  go_loopw [78] (fun u78 wr => ∃ j : Nat, j ≤ 2 ∧ u78 = .int .i64 j ∧ Below Y.heap.size Y wr) (fun u78 _ => 2 - (intOf u78).toNat)
  case atStart => exact ⟨0, by omega, rfl, Below.refl _ _⟩
  case round =>
    obtain ⟨j, hj, rfl, hbel⟩ := hrel
    obtain ⟨d0, d1, d2, d3, d4⟩ := K7.out.step hbel
    have E0 := (hbel.cell (p := ⟨gX + 1, 0, none⟩) KQ.out.2.2.2.2).trans KQ.out.1
    have E1 := (hbel.cell (p := ⟨gX + 1, 1, none⟩) KQ.out.2.2.2.2).trans KQ.out.2.1
    have E2 := (hbel.cell (p := ⟨gX + 1, 2, none⟩) KQ.out.2.2.2.2).trans KQ.out.2.2.1
    have E3 := (hbel.cell (p := ⟨gX + 1, 3, none⟩) KQ.out.2.2.2.2).trans KQ.out.2.2.2.1
    have hj3 : j = 0 ∨ j = 1 ∨ j = 2 := by omega
    rcases hj3 with rfl | rfl | rfl
    · go_wp2_with fail
      refine ((C6 _).out).mono ?_
      rintro e w1 ⟨rfl, hb1⟩
      have hB1 := below_nextb hbel hb1
      go_wp2
      go_roundw
      case rel => exact ⟨1, by omega, by go_num, hB1⟩
      case measure => simp [intOf]
    · go_wp2_with fail
      refine ((C7 _).out).mono ?_
      rintro e w1 ⟨rfl, hb1⟩
      have hB1 := below_nextb hbel hb1
      go_wp2
      go_roundw
      case rel => exact ⟨2, by omega, by go_num, hB1⟩
      case measure => simp [intOf]
    · obtain ⟨a10, a11, a12, a13, a14⟩ := K1.out.step hbel
      obtain ⟨a20, a21, a22, a23, a24⟩ := K2.out.step hbel
      have H1 : Hid (PairI wr w.heap.size l h) := K1.out.step hbel
      have H2 : Hid (PairI wr (w.heap.size + 1) m k) := K2.out.step hbel
      have hB := below_next hBY hbel
      clear hbel d0 d1 d2 d3 d4 E0 E1 E2 E3 K1 K2 K7 KQ hBY C6 C7
      go_wp2_with fail
      refine ((C8 _).out).mono ?_
      rintro e w1 ⟨rfl, hb⟩
      have V1 := H1.out.step hb
      have V2 := H2.out.step hb
      have hB' := below_next hB hb
      clear hb hB a10 a11 a12 a13 a14 H1 a20 a21 a22 a23 a24 H2
      have hB := hB'
      clear hB'
      have n1_1 : w.heap.size < w1.heap.size := V1.1
      have n1_2 : (w.heap.size + 1) < w1.heap.size := V2.1
      obtain ⟨a10, a11, a12, a13, a14⟩ := id V1
      obtain ⟨a20, a21, a22, a23, a24⟩ := id V2
      have H1 := Lib.hid V1
      have H2 := Lib.hid V2
      clear V1 V2
      go_wp2_with fail
      refine ((C9 _).out).mono ?_
      rintro e w2 ⟨rfl, hb⟩
      have V1 := H1.out.box hb
      have V2 := H2.out.box hb
      have V3 := pairI_box hb
      have hB' := below_nextb hB hb
      clear hb hB a10 a11 a12 a13 a14 H1 a20 a21 a22 a23 a24 H2
      have hB := hB'
      clear hB'
      obtain ⟨a10, a11, a12, a13, a14⟩ := id V1
      obtain ⟨a20, a21, a22, a23, a24⟩ := id V2
      obtain ⟨a30, a31, a32, a33, a34⟩ := id V3
      have H1 := Lib.hid V1
      have H2 := Lib.hid V2
      have H3 := Lib.hid V3
      clear V1 V2 V3
      go_wp2_with fail
      refine (awake_any _ (HST.out.next hB)).mono ?_
      rintro e wz ⟨rfl, hb⟩
      have hF := below_next hB hb
      go_wp2
      go_ret
      exact ⟨rfl, hF⟩

set_option maxRecDepth 100000 in
set_option maxHeartbeats 8000000 in
theorem lawAgrees_more (l h m k : Int) (w : World) (hst : St w) (hr : 0 ≤ l ∧ l ≤ h ∧ 0 ≤ m ∧ m ≤ k ∧ h + k ≤ 1000000) (hadd : Tm.addV l h m k = ((l + m, h + k), 0)) (hc : Tm.chk2 l h m k = 0) (hk1 : k < l) :
    Calls Tryd.prog 9 #[.agg #[.int .i64 l, .int .i64 h], .agg #[.int .i64 m, .int .i64 k]] w fun e w' => e = .returned (.bool true) ∧ Below w.heap.size w w' := by
  have HST := Lib.hid hst
  clear hst
  have C0 := fun W => Lib.hid (right_any l h m k W true (by rw [hadd]; rfl))
  have C1 := fun W => Lib.hid (tAdd_any l h m k W)
  have C2 := fun W => Lib.hid (tLater_any l h m k W)
  have C3 := fun W => Lib.hid (tEarlier_any l h m k W)
  have C5 := fun W => Lib.hid (tHull_any l h m k W)
  have C8 := fun W => Lib.hid (tMeet_any l h m k W)
  have C9 := fun W => Lib.hid (tCompare_any l h m k W)
  rw [hadd] at C1
  rw [opV_good hc] at C2 C3 C5
  have eC4 : Tm.addV (Tm.less l m) (Tm.less h k) (Tm.great l m) (Tm.great h k) = ((l + m, h + k), 0) := by
    have e1 := Tm.great_less l m
    have e2 := Tm.great_less h k
    rcases Tm.add_cases (Tm.less l m) (Tm.less h k) (Tm.great l m) (Tm.great h k) with ⟨_, h1, _⟩ | ⟨h1, _⟩
    · rw [h1, e1, e2]
    · exact absurd (show Tm.Right _ _ _ _ by unfold Tm.Right; unfold Tm.less Tm.great at *; repeat' split <;> omega) h1
  have C4 := fun W => Lib.hid (tAdd_any (Tm.less l m) (Tm.less h k) (Tm.great l m) (Tm.great h k) W)
  rw [eC4] at C4
  have wit : ∀ a b c d : Int, 0 ≤ a → a ≤ b → b ≤ 1000000 → 0 ≤ c → c ≤ a → b ≤ d → d ≤ 1000000 → Tm.witV a b c d = (true, 0) := fun a b c d h1 h2 h3 h4 h5 h6 h7 => by
    unfold Tm.witV
    rw [if_pos (Tm.chk2_of ⟨h1, h2, h3⟩ ⟨h4, by omega, h7⟩)]
    simp [h5, h6]
  have g1 := Tm.great_ge l m
  have g2 := Tm.great_ge h k
  have g3 := Tm.less_le l m
  have g4 := Tm.less_le h k
  have C6 := fun W => Lib.hid (tWithin_any l h (Tm.less l m) (Tm.great h k) W)
  have C7 := fun W => Lib.hid (tWithin_any m k (Tm.less l m) (Tm.great h k) W)
  rw [wit l h _ _ (by omega) (by omega) (by omega) (by omega) (by omega) (by omega) (by omega)] at C6
  rw [wit m k _ _ (by omega) (by omega) (by omega) (by omega) (by omega) (by omega) (by omega)] at C7
  have eM : Tm.meeV l h m k = (((0, 0), false), 0) := by unfold Tm.meeV; rw [if_pos hc, if_pos (by omega)]
  have eP : Tm.cmpV l h m k = (1, 0) := by unfold Tm.cmpV; rw [if_pos hc, if_neg (by omega), if_pos (by omega)]
  rw [eM] at C8
  rw [eP] at C9
  have hnl : m ≤ h := by omega
  clear eM eP
  clear g1 g2 g3 g4 wit eC4 hadd hc hr
  generalize l + m = s at *
  generalize h + k = t at *
  generalize Tm.great l m = gl at *
  generalize Tm.great h k = gh at *
  generalize Tm.less l m = ll at *
  generalize Tm.less h k = lh at *
  simp only [] at C1 C2 C3 C4 C5 C6 C7 C8 C9
  have hB0 := w2_below w l h m k
  have HF := fun W hW => Lib.hid (w2_facts w l h m k (W := W) hW)
  have hs := hB0.size
  unfold W2 at *
  go_enter Tryd.func9, Tryd.ntmps9
  go_wp2_with fail
  refine ((C0 _).out).mono ?_
  rintro e w1 ⟨rfl, hb⟩
  obtain ⟨V1, V2⟩ := (HF _ hb).out
  have hB := hB0.trans (hb.mono hs)
  clear hb HF hB0 hs
  obtain ⟨a10, a11, a12, a13, a14⟩ := id V1
  obtain ⟨a20, a21, a22, a23, a24⟩ := id V2
  have H1 := Lib.hid V1
  have H2 := Lib.hid V2
  clear V1 V2
  go_wp2_with fail
  refine ((C1 _).out).mono ?_
  rintro e w2 ⟨rfl, hb⟩
  have V1 := H1.out.step hb
  have V2 := H2.out.step hb
  have hB' := below_next hB hb
  clear hb hB a10 a11 a12 a13 a14 H1 a20 a21 a22 a23 a24 H2
  have hB := hB'
  clear hB'
  have n2_1 : w.heap.size < w2.heap.size := V1.1
  have n2_2 : (w.heap.size + 1) < w2.heap.size := V2.1
  obtain ⟨a10, a11, a12, a13, a14⟩ := id V1
  obtain ⟨a20, a21, a22, a23, a24⟩ := id V2
  have H1 := Lib.hid V1
  have H2 := Lib.hid V2
  clear V1 V2
  go_wp2_with fail
  refine ((C2 _).out).mono ?_
  rintro e w3 ⟨rfl, hb⟩
  have V1 := H1.out.box hb
  have V2 := H2.out.box hb
  have V3 := pairI_box hb
  have hB' := below_nextb hB hb
  clear hb hB a10 a11 a12 a13 a14 H1 a20 a21 a22 a23 a24 H2
  have hB := hB'
  clear hB'
  have n3_1 : w.heap.size < w3.heap.size := V1.1
  have n3_2 : (w.heap.size + 1) < w3.heap.size := V2.1
  have n3_3 : w2.heap.size < w3.heap.size := V3.1
  obtain ⟨a10, a11, a12, a13, a14⟩ := id V1
  obtain ⟨a20, a21, a22, a23, a24⟩ := id V2
  obtain ⟨a30, a31, a32, a33, a34⟩ := id V3
  have H1 := Lib.hid V1
  have H2 := Lib.hid V2
  have H3 := Lib.hid V3
  clear V1 V2 V3
  go_wp2_with fail
  refine ((C3 _).out).mono ?_
  rintro e w4 ⟨rfl, hb⟩
  have V1 := H1.out.box hb
  have V2 := H2.out.box hb
  have V3 := H3.out.box hb
  have V4 := pairI_box hb
  have hB' := below_nextb hB hb
  clear hb hB a10 a11 a12 a13 a14 H1 a20 a21 a22 a23 a24 H2 a30 a31 a32 a33 a34 H3
  have hB := hB'
  clear hB'
  have n4_1 : w.heap.size < w4.heap.size := V1.1
  have n4_2 : (w.heap.size + 1) < w4.heap.size := V2.1
  have n4_3 : w2.heap.size < w4.heap.size := V3.1
  have n4_4 : w3.heap.size < w4.heap.size := V4.1
  obtain ⟨a10, a11, a12, a13, a14⟩ := id V1
  obtain ⟨a20, a21, a22, a23, a24⟩ := id V2
  obtain ⟨a30, a31, a32, a33, a34⟩ := id V3
  obtain ⟨a40, a41, a42, a43, a44⟩ := id V4
  have H1 := Lib.hid V1
  have H2 := Lib.hid V2
  have H3 := Lib.hid V3
  have H4 := Lib.hid V4
  clear V1 V2 V3 V4
  go_wp2_with fail
  refine ((C4 _).out).mono ?_
  rintro e w5 ⟨rfl, hb⟩
  have V1 := H1.out.box hb
  have V2 := H2.out.box hb
  have V3 := H3.out.box hb
  have V4 := H4.out.box hb
  have V5 := pairI_box hb
  have hB' := below_nextb hB hb
  clear hb hB a10 a11 a12 a13 a14 H1 a20 a21 a22 a23 a24 H2 a30 a31 a32 a33 a34 H3 a40 a41 a42 a43 a44 H4
  have hB := hB'
  clear hB'
  have n5_1 : w.heap.size < w5.heap.size := V1.1
  have n5_2 : (w.heap.size + 1) < w5.heap.size := V2.1
  have n5_3 : w2.heap.size < w5.heap.size := V3.1
  have n5_4 : w3.heap.size < w5.heap.size := V4.1
  have n5_5 : w4.heap.size < w5.heap.size := V5.1
  obtain ⟨a10, a11, a12, a13, a14⟩ := id V1
  obtain ⟨a20, a21, a22, a23, a24⟩ := id V2
  obtain ⟨a30, a31, a32, a33, a34⟩ := id V3
  obtain ⟨a40, a41, a42, a43, a44⟩ := id V4
  obtain ⟨a50, a51, a52, a53, a54⟩ := id V5
  have H1 := Lib.hid V1
  have H2 := Lib.hid V2
  have H3 := Lib.hid V3
  have H4 := Lib.hid V4
  have H5 := Lib.hid V5
  clear V1 V2 V3 V4 V5
  go_wp2_with fail
  refine ((C5 _).out).mono ?_
  rintro e w6 ⟨rfl, hb⟩
  have V1 := H1.out.box hb
  have V2 := H2.out.box hb
  have V3 := H3.out.box hb
  have V4 := H4.out.box hb
  have V5 := H5.out.box hb
  have V6 := pairI_box hb
  have hB' := below_nextb hB hb
  clear hb hB a10 a11 a12 a13 a14 H1 a20 a21 a22 a23 a24 H2 a30 a31 a32 a33 a34 H3 a40 a41 a42 a43 a44 H4 a50 a51 a52 a53 a54 H5
  have hB := hB'
  clear hB'
  have n6_1 : w.heap.size < w6.heap.size := V1.1
  have n6_2 : (w.heap.size + 1) < w6.heap.size := V2.1
  have n6_3 : w2.heap.size < w6.heap.size := V3.1
  have n6_4 : w3.heap.size < w6.heap.size := V4.1
  have n6_5 : w4.heap.size < w6.heap.size := V5.1
  have n6_6 : w5.heap.size < w6.heap.size := V6.1
  obtain ⟨a10, a11, a12, a13, a14⟩ := id V1
  obtain ⟨a20, a21, a22, a23, a24⟩ := id V2
  obtain ⟨a30, a31, a32, a33, a34⟩ := id V3
  obtain ⟨a40, a41, a42, a43, a44⟩ := id V4
  obtain ⟨a50, a51, a52, a53, a54⟩ := id V5
  obtain ⟨a60, a61, a62, a63, a64⟩ := id V6
  have H1 := Lib.hid V1
  have H2 := Lib.hid V2
  have H3 := Lib.hid V3
  have H4 := Lib.hid V4
  have H5 := Lib.hid V5
  have H6 := Lib.hid V6
  clear V1 V2 V3 V4 V5 V6
  go_wp2_with fail
  obtain ⟨X, hX⟩ : ∃ X, w6.alloc (.cells #[.int .i64 ll, .int .i64 gh] 23) = X := ⟨_, rfl⟩
  rw [hX]
  have bX : Below w6.heap.size w6 X := by rw [← hX]; exact (Below.refl _ _).alloc (Nat.le_refl _) _
  have sX : X.heap.size = w6.heap.size + 1 := by rw [← hX]; simp
  have V7 : PairI X w6.heap.size ll gh := by rw [← hX]; exact pairI_new w6 ll gh 23
  have V1 := H1.out.step bX
  have V2 := H2.out.step bX
  have V3 := H3.out.step bX
  have V4 := H4.out.step bX
  have V5 := H5.out.step bX
  have V6 := H6.out.step bX
  have hB' := below_next hB bX
  clear bX hX hB a11 a12 a13 a14 H1 a21 a22 a23 a24 H2 a31 a32 a33 a34 H3 a41 a42 a43 a44 H4 a51 a52 a53 a54 H5 a61 a62 a63 a64 H6
  have hB := hB'
  clear hB'
  clear a10 a20 a30 a40 a50 a60
  generalize hG : w6.heap.size = gX at *
  clear hG
  obtain ⟨a10, a11, a12, a13, a14⟩ := id V1
  obtain ⟨a20, a21, a22, a23, a24⟩ := id V2
  obtain ⟨a30, a31, a32, a33, a34⟩ := id V3
  obtain ⟨a40, a41, a42, a43, a44⟩ := id V4
  obtain ⟨a50, a51, a52, a53, a54⟩ := id V5
  obtain ⟨a60, a61, a62, a63, a64⟩ := id V6
  obtain ⟨a70, a71, a72, a73, a74⟩ := id V7
  have H1 := Lib.hid V1
  have H2 := Lib.hid V2
  have H3 := Lib.hid V3
  have H4 := Lib.hid V4
  have H5 := Lib.hid V5
  have H6 := Lib.hid V6
  have H7 := Lib.hid V7
  clear V1 V2 V3 V4 V5 V6 V7
  obtain ⟨Y, hY⟩ : ∃ Y, X.alloc (.cells #[.int .i64 l, .int .i64 h, .int .i64 m, .int .i64 k] 23) = Y := ⟨_, rfl⟩
  rw [hY]
  have bY : Below X.heap.size X Y := by rw [← hY]; exact (Below.refl _ _).alloc (Nat.le_refl _) _
  have V1 := H1.out.step bY
  have V2 := H2.out.step bY
  have V7 := H7.out.step bY
  have hBY := below_next hB bY
  have Q : Y.cell? ⟨X.heap.size, 0, none⟩ = some (.int .i64 l) ∧ Y.cell? ⟨X.heap.size, 1, none⟩ = some (.int .i64 h) ∧ Y.cell? ⟨X.heap.size, 2, none⟩ = some (.int .i64 m) ∧ Y.cell? ⟨X.heap.size, 3, none⟩ = some (.int .i64 k) ∧ X.heap.size < Y.heap.size := by
    rw [← hY]; simp
  clear hY bY hB a11 a12 a13 a14 H1 a21 a22 a23 a24 H2 a31 a32 a33 a34 H3 a41 a42 a43 a44 H4 a51 a52 a53 a54 H5 a61 a62 a63 a64 H6 a71 a72 a73 a74 H7 a10 a20 a30 a40 a50 a60 a70
  rw [sX] at Q
  clear sX
  have K1 := Lib.hid V1
  have K2 := Lib.hid V2
  have K7 := Lib.hid V7
  have KQ := Lib.hid Q
  clear V1 V2 V7 Q
  go_loopw [78] (fun u78 wr => ∃ j : Nat, j ≤ 2 ∧ u78 = .int .i64 j ∧ Below Y.heap.size Y wr) (fun u78 _ => 2 - (intOf u78).toNat)
  case atStart => exact ⟨0, by omega, rfl, Below.refl _ _⟩
  case round =>
    obtain ⟨j, hj, rfl, hbel⟩ := hrel
    obtain ⟨d0, d1, d2, d3, d4⟩ := K7.out.step hbel
    have E0 := (hbel.cell (p := ⟨gX + 1, 0, none⟩) KQ.out.2.2.2.2).trans KQ.out.1
    have E1 := (hbel.cell (p := ⟨gX + 1, 1, none⟩) KQ.out.2.2.2.2).trans KQ.out.2.1
    have E2 := (hbel.cell (p := ⟨gX + 1, 2, none⟩) KQ.out.2.2.2.2).trans KQ.out.2.2.1
    have E3 := (hbel.cell (p := ⟨gX + 1, 3, none⟩) KQ.out.2.2.2.2).trans KQ.out.2.2.2.1
    have hj3 : j = 0 ∨ j = 1 ∨ j = 2 := by omega
    rcases hj3 with rfl | rfl | rfl
    · go_wp2_with fail
      refine ((C6 _).out).mono ?_
      rintro e w1 ⟨rfl, hb1⟩
      have hB1 := below_nextb hbel hb1
      go_wp2
      go_roundw
      case rel => exact ⟨1, by omega, by go_num, hB1⟩
      case measure => simp [intOf]
    · go_wp2_with fail
      refine ((C7 _).out).mono ?_
      rintro e w1 ⟨rfl, hb1⟩
      have hB1 := below_nextb hbel hb1
      go_wp2
      go_roundw
      case rel => exact ⟨2, by omega, by go_num, hB1⟩
      case measure => simp [intOf]
    · obtain ⟨a10, a11, a12, a13, a14⟩ := K1.out.step hbel
      obtain ⟨a20, a21, a22, a23, a24⟩ := K2.out.step hbel
      have H1 : Hid (PairI wr w.heap.size l h) := K1.out.step hbel
      have H2 : Hid (PairI wr (w.heap.size + 1) m k) := K2.out.step hbel
      have hB := below_next hBY hbel
      clear hbel d0 d1 d2 d3 d4 E0 E1 E2 E3 K1 K2 K7 KQ hBY C6 C7
      go_wp2_with fail
      refine ((C8 _).out).mono ?_
      rintro e w1 ⟨rfl, hb⟩
      have V1 := H1.out.step hb
      have V2 := H2.out.step hb
      have hB' := below_next hB hb
      clear hb hB a10 a11 a12 a13 a14 H1 a20 a21 a22 a23 a24 H2
      have hB := hB'
      clear hB'
      have n1_1 : w.heap.size < w1.heap.size := V1.1
      have n1_2 : (w.heap.size + 1) < w1.heap.size := V2.1
      obtain ⟨a10, a11, a12, a13, a14⟩ := id V1
      obtain ⟨a20, a21, a22, a23, a24⟩ := id V2
      have H1 := Lib.hid V1
      have H2 := Lib.hid V2
      clear V1 V2
      go_wp2_with fail
      refine ((C9 _).out).mono ?_
      rintro e w2 ⟨rfl, hb⟩
      have V1 := H1.out.box hb
      have V2 := H2.out.box hb
      have V3 := pairI_box hb
      have hB' := below_nextb hB hb
      clear hb hB a10 a11 a12 a13 a14 H1 a20 a21 a22 a23 a24 H2
      have hB := hB'
      clear hB'
      obtain ⟨a10, a11, a12, a13, a14⟩ := id V1
      obtain ⟨a20, a21, a22, a23, a24⟩ := id V2
      obtain ⟨a30, a31, a32, a33, a34⟩ := id V3
      have H1 := Lib.hid V1
      have H2 := Lib.hid V2
      have H3 := Lib.hid V3
      clear V1 V2 V3
      go_wp2_with fail
      refine (awake_any _ (HST.out.next hB)).mono ?_
      rintro e wz ⟨rfl, hb⟩
      have hF := below_next hB hb
      go_wp2
      go_ret
      exact ⟨ret_bool (by simp; omega), hF⟩

theorem lawAgrees_any (l h m k : Int) (w : World) (hst : St w) :
    Calls Tryd.prog 9 #[.agg #[.int .i64 l, .int .i64 h], .agg #[.int .i64 m, .int .i64 k]] w fun e w' => e = .returned (.bool true) ∧ Below w.heap.size w w' := by
  rcases Tm.add_cases l h m k with ⟨hr, hadd, hc⟩ | ⟨_, hadd⟩
  · by_cases h1 : h < m
    · exact lawAgrees_less l h m k w hst hr hadd hc h1
    · by_cases h2 : k < l
      · exact lawAgrees_more l h m k w hst hr hadd hc h2
      · exact lawAgrees_meet l h m k w hst hr hadd hc (by omega) (by omega)
  · exact lawAgrees_bad l h m k w hst hadd

end Go.Proofs.YtgblodnggeabjabDoor
