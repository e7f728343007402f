/- The examples of the chapter. -/
import Derived.Test.YtgblodnggeabjabDoorTm
namespace Go.Proofs.YtgblodnggeabjabDoor
open Go.RowKit

theorem exAdd (W : World) : Calls Tryd.prog 15 #[.agg #[.int .i64 10, .int .i64 20], .agg #[.int .i64 5, .int .i64 30]] W fun e w' => e = .returned (.tuple #[.agg #[.int .i64 15, .int .i64 50], .int .i64 0]) ∧ Below W.heap.size W w' := by
  have h := tAdd_any 10 20 5 30 W; rw [add_1] at h; exact h
theorem exLater (W : World) : Calls Tryd.prog 20 #[.agg #[.int .i64 10, .int .i64 20], .agg #[.int .i64 5, .int .i64 30]] W fun e w' => e = .returned (.tuple #[.agg #[.int .i64 10, .int .i64 30], .int .i64 0]) ∧ Below W.heap.size W w' := by
  have h := tLater_any 10 20 5 30 W; rw [later_1] at h; exact h
theorem exEarlier (W : World) : Calls Tryd.prog 22 #[.agg #[.int .i64 10, .int .i64 20], .agg #[.int .i64 5, .int .i64 30]] W fun e w' => e = .returned (.tuple #[.agg #[.int .i64 5, .int .i64 20], .int .i64 0]) ∧ Below W.heap.size W w' := by
  have h := tEarlier_any 10 20 5 30 W; rw [earlier_1] at h; exact h
theorem exMeet (W : World) : Calls Tryd.prog 26 #[.agg #[.int .i64 10, .int .i64 20], .agg #[.int .i64 5, .int .i64 30]] W fun e w' => e = .returned (.tuple #[.agg #[.int .i64 10, .int .i64 20], .bool true, .int .i64 0]) ∧ Below W.heap.size W w' := by
  have h := tMeet_any 10 20 5 30 W; rw [meet_1] at h; exact h
theorem exCmp1 (W : World) : Calls Tryd.prog 30 #[.agg #[.int .i64 1, .int .i64 4], .agg #[.int .i64 5, .int .i64 9]] W fun e w' => e = .returned (.tuple #[.int .i64 (-1), .int .i64 0]) ∧ Below W.heap.size W w' := by
  have h := tCompare_any 1 4 5 9 W; rw [cmp_1] at h; exact h
theorem exCmp2 (W : World) : Calls Tryd.prog 30 #[.agg #[.int .i64 1, .int .i64 5], .agg #[.int .i64 5, .int .i64 9]] W fun e w' => e = .returned (.tuple #[.int .i64 0, .int .i64 0]) ∧ Below W.heap.size W w' := by
  have h := tCompare_any 1 5 5 9 W; rw [cmp_2] at h; exact h
theorem exFormat (W : World) (hst : St W) : Calls Tryd.prog 34 #[.agg #[.int .i64 20, .int .i64 30]] W fun e w' => e = .returned (.tuple #[.string ⟨#[50, 48, 46, 46, 51, 48]⟩, .int .i64 0]) ∧ Below W.heap.size W w' := by
  have h := tFormat_any 20 30 W hst; rw [fmt_2030] at h; exact h
theorem exParse7 (W : World) (hst : St W) : Calls Tryd.prog 36 #[.string ⟨#[55]⟩] W fun e w' => e = .returned (.tuple #[.agg #[.int .i64 7, .int .i64 7], .int .i64 0]) ∧ Below W.heap.size W w' := by
  have h := tParse_any ⟨#[55]⟩ W hst (by decide); rw [show (ByteArray.mk #[55]).data.toList = [55] from rfl, par_7] at h; exact h
theorem exParse77 (W : World) (hst : St W) : Calls Tryd.prog 36 #[.string ⟨#[55, 46, 46, 55]⟩] W fun e w' => e = .returned (.tuple #[.agg #[.int .i64 0, .int .i64 0], .int .i64 3]) ∧ Below W.heap.size W w' := by
  have h := tParse_any ⟨#[55, 46, 46, 55]⟩ W hst (by decide); rw [show (ByteArray.mk #[55, 46, 46, 55]).data.toList = [55, 46, 46, 55] from rfl, par_77] at h; exact h
theorem exParse97 (W : World) (hst : St W) : Calls Tryd.prog 36 #[.string ⟨#[57, 46, 46, 55]⟩] W fun e w' => e = .returned (.tuple #[.agg #[.int .i64 0, .int .i64 0], .int .i64 9]) ∧ Below W.heap.size W w' := by
  have h := tParse_any ⟨#[57, 46, 46, 55]⟩ W hst (by decide); rw [show (ByteArray.mk #[57, 46, 46, 55]).data.toList = [57, 46, 46, 55] from rfl, par_97] at h; exact h

set_option maxRecDepth 100000 in
set_option maxHeartbeats 2000000 in
theorem awake_any (w : World) (hst : St w) : Calls Tryd.prog 19 #[] w fun e w' => e = .returned (.bool true) ∧ Below w.heap.size w w' := by
  have HST := Lib.hid hst
  have CS := fun x y W => Lib.hid (span_any x y W)
  clear hst
  go_enter Tryd.func19, Tryd.ntmps19
  go_wp2_with fail
  refine ((CS _ _ _).out).mono ?_
  rintro e w1 ⟨rfl, hB1⟩
  go_wp2_with fail
  refine ((CS _ _ _).out).mono ?_
  rintro e w2 ⟨rfl, hb2⟩
  have hB2 := below_next hB1 hb2
  clear hb2 hB1
  go_wp2_with fail
  refine (exAdd _).mono ?_
  rintro e w3 ⟨rfl, hb3⟩
  obtain ⟨p0, p1, p2, p3, p4⟩ := (pairI_next w2 10 20 5 30 23 23).1.below (by simp; omega) hb3
  obtain ⟨q0, q1, q2, q3, q4⟩ := (pairI_next w2 10 20 5 30 23 23).2.below (by simp) hb3
  have P1 : PairI w3 w2.heap.size 10 20 := ⟨p0, p1, p2, p3, p4⟩
  have P2 : PairI w3 (w2.heap.size + 1) 5 30 := ⟨q0, q1, q2, q3, q4⟩
  have hB3 := hB2.trans ((((Below.refl _ _).alloc (Nat.le_refl _) _).alloc (by simp) _).trans (hb3.mono (by simp; omega)) |>.mono hB2.size)
  clear hb3
  go_wp2_with fail
  refine (exLater _).mono ?_
  rintro e w4 ⟨rfl, hb4⟩
  have Q1 := P1.box hb4
  have Q2 := P2.box hb4
  have Q3 := pairI_box hb4
  have hB4 := below_nextb hB3 hb4
  obtain ⟨p0', p1', p2', p3', p4'⟩ := id Q1
  obtain ⟨q0', q1', q2', q3', q4'⟩ := id Q2
  have HQ1 := Lib.hid Q1
  have HQ2 := Lib.hid Q2
  have HQ3 := Lib.hid Q3
  clear hb4 P1 P2 Q1 Q2 Q3 p1 p2 p3 p4 q1 q2 q3 q4
  go_wp2_with fail
  refine (exEarlier _).mono ?_
  rintro e w5 ⟨rfl, hb5⟩
  have R1 := HQ1.out.box hb5
  have R2 := HQ2.out.box hb5
  have R3 := HQ3.out.box hb5
  have R4 := pairI_box hb5
  have hB5 := below_nextb hB4 hb5
  obtain ⟨p0, p1, p2, p3, p4⟩ := id R1
  obtain ⟨q0, q1, q2, q3, q4⟩ := id R2
  have HR1 := Lib.hid R1
  have HR2 := Lib.hid R2
  have HR3 := Lib.hid R3
  have HR4 := Lib.hid R4
  clear hb5 HQ1 HQ2 HQ3 R1 R2 R3 R4 p1' p2' p3' p4' q1' q2' q3' q4'
  go_wp2_with fail
  refine (exMeet _).mono ?_
  rintro e w6 ⟨rfl, hb6⟩
  have T1 := HR1.out.box hb6
  have T3 := HR3.out.box hb6
  have T4 := HR4.out.box hb6
  have T5 := pairI_box hb6
  have hB6 := below_nextb hB5 hb6
  clear hb6 HR1 HR2 HR3 HR4 p0 p1 p2 p3 p4 q0 q1 q2 q3 q4 p0' q0'
  go_wp2_with fail
  obtain ⟨X, hX⟩ : ∃ X, w6.alloc (.cells #[.int .i64 10, .int .i64 20] 23) = X := ⟨_, rfl⟩
  rw [hX]
  have bX : Below w6.heap.size w6 X := by rw [← hX]; exact (Below.refl _ _).alloc (Nat.le_refl _) _
  have V5 : PairI X w6.heap.size 10 20 := by rw [← hX]; exact pairI_new w6 10 20 23
  have V1 := T1.step bX
  have V2 := T3.step bX
  have V3 := T4.step bX
  have V4 := T5.step bX
  have hBX := below_next hB6 bX
  clear bX hX T1 T3 T4 T5 hB6 hB5 hB4 hB3 hB2
  obtain ⟨a0, a1, a2, _, _⟩ := id V1
  obtain ⟨b0, b1, b2, _, _⟩ := id V2
  obtain ⟨c0, c1, c2, _, _⟩ := id V3
  obtain ⟨d0, d1, d2, _, _⟩ := id V4
  obtain ⟨e0, e1, e2, _, _⟩ := id V5
  clear V1 V2 V3 V4 V5
  have C1 := fun W => CS 15 50 W
  have C2 := fun W => CS 10 30 W
  have C3 := fun W => CS 5 20 W
  generalize w2.heap.size = g1 at *
  generalize w3.heap.size = g2 at *
  generalize w4.heap.size = g3 at *
  generalize w5.heap.size = g4 at *
  generalize w6.heap.size = g5 at *
  go_region_held3 (fun W => W.cell? ⟨g1, 0, none⟩ = some (.int .i64 10) ∧ W.cell? ⟨g1, 1, none⟩ = some (.int .i64 20) ∧ W.cell? ⟨g2, 0, none⟩ = some (.int .i64 15) ∧ W.cell? ⟨g2, 1, none⟩ = some (.int .i64 50) ∧
      W.cell? ⟨g3, 0, none⟩ = some (.int .i64 10) ∧ W.cell? ⟨g3, 1, none⟩ = some (.int .i64 30) ∧ W.cell? ⟨g4, 0, none⟩ = some (.int .i64 5) ∧ W.cell? ⟨g4, 1, none⟩ = some (.int .i64 20) ∧ W.cell? ⟨g5, 0, none⟩ = some (.int .i64 10) ∧ W.cell? ⟨g5, 1, none⟩ = some (.int .i64 20))
    (first
      | (go_split_ands; refine ⟨?_, ?_, ?_, ?_, ?_, ?_, ?_, ?_, ?_, ?_⟩ <;> (rw [hy3.cell (by simp <;> omega)]; assumption))
      | (go_split_ands; refine ⟨?_, ?_, ?_, ?_, ?_, ?_, ?_, ?_, ?_, ?_⟩ <;> (rw [hy2.cell (by simp <;> omega)]; assumption))
      | (go_split_ands; refine ⟨?_, ?_, ?_, ?_, ?_, ?_, ?_, ?_, ?_, ?_⟩ <;> (rw [hy1.cell (by simp <;> omega)]; assumption))
      | go_keep)
    (first
      | (go_at_call 48; (with_reducible refine ((C1 _).out).mono ?_); rintro e y1 ⟨rfl, hy1⟩; have hz1 := hy1.size; (try simp only [World.drew] at hz1))
      | (go_at_call 48; (with_reducible refine ((C2 _).out).mono ?_); rintro e y2 ⟨rfl, hy2⟩; have hz2 := hy2.size; (try simp only [World.drew] at hz2))
      | (go_at_call 48; (with_reducible refine ((C3 _).out).mono ?_); rintro e y3 ⟨rfl, hy3⟩; have hz3 := hy3.size; (try simp only [World.drew] at hz3)))
  have hB0 := below_next (below_next (below_next hBX.drew hy1) hy2) hy3
  clear hy1 hy2 hy3 hz1 hz2 hz3 hBX a0 a1 a2 b0 b1 b2 c0 c1 c2 d0 d1 d2 e0 e1 e2 C1 C2 C3
  go_wp2_with fail
  refine (span_any _ _ _).mono ?_
  rintro e z1 ⟨rfl, hc1⟩
  have hD1 := below_next hB0 hc1
  clear hc1 hB0
  go_wp2_with fail
  refine (span_any _ _ _).mono ?_
  rintro e z2 ⟨rfl, hc2⟩
  have hD2 := below_next hD1 hc2
  clear hc2 hD1
  go_wp2_with fail
  refine (exCmp1 _).mono ?_
  rintro e z3 ⟨rfl, hc3⟩
  have hD3 := below_next hD2 hc3
  clear hc3 hD2
  go_wp2_with fail
  refine (span_any _ _ _).mono ?_
  rintro e z4 ⟨rfl, hc4⟩
  have hD4 := below_next hD3 hc4
  clear hc4 hD3
  go_wp2_with fail
  refine (span_any _ _ _).mono ?_
  rintro e z5 ⟨rfl, hc5⟩
  have hD5 := below_next hD4 hc5
  clear hc5 hD4
  go_wp2_with fail
  refine (exCmp2 _).mono ?_
  rintro e z6 ⟨rfl, hc6⟩
  have hD6 := below_next hD5 hc6
  clear hc6 hD5
  go_wp2_with fail
  refine (span_any _ _ _).mono ?_
  rintro e z7 ⟨rfl, hc7⟩
  have hD7 := below_next hD6 hc7
  clear hc7 hD6
  go_wp2_with fail
  refine (exFormat _ (HST.out.next hD7)).mono ?_
  rintro e z8 ⟨rfl, hc8⟩
  have hD8 := below_next hD7 hc8
  clear hc8 hD7
  go_wp2_with fail
  refine (exParse7 _ (HST.out.next hD8)).mono ?_
  rintro e z9 ⟨rfl, hc9⟩
  have hD9 := below_next hD8 hc9
  clear hc9 hD8
  have hE := hD9.alloc hD9.size (.cells #[.int .i64 7, .int .i64 7] 23)
  go_wp2_with fail
  refine (exParse77 _ (HST.out.next hE)).mono ?_
  rintro e z10 ⟨rfl, hc⟩
  have P1 := pairI_box hc
  have hD10 := below_next hE hc
  clear hc hE
  have hE := hD10.alloc hD10.size (.cells #[.int .i64 0, .int .i64 0] 23)
  go_wp2_with fail
  refine (exParse97 _ (HST.out.next hE)).mono ?_
  rintro e z11 ⟨rfl, hc⟩
  have P2 := P1.box hc
  have hD11 := below_next hE hc
  clear hc hE P1 hD10
  go_wp2_with fail
  obtain ⟨Y, hY⟩ : ∃ Y, z11.alloc (.cells #[.int .i64 0, .int .i64 0] 23) = Y := ⟨_, rfl⟩
  rw [hY]
  have bY : Below z11.heap.size z11 Y := by rw [← hY]; exact (Below.refl _ _).alloc (Nat.le_refl _) _
  have hBY := below_next hD11 bY
  have P3 := P2.step bY
  clear P2 bY hY hD11 hD9
  obtain ⟨a0, a1, a2, _, _⟩ := id P3
  generalize z9.heap.size = g1 at *
  go_region_held3 (fun W => W.cell? ⟨g1, 0, none⟩ = some (.int .i64 7) ∧ W.cell? ⟨g1, 1, none⟩ = some (.int .i64 7))
    (first
      | (go_split_ands; refine ⟨?_, ?_⟩ <;> (rw [hy1.cell (by simp <;> omega)]; assumption))
      | go_keep)
    (first | (go_at_call 48; (with_reducible refine ((CS _ _ _).out).mono ?_); rintro e y1 ⟨rfl, hy1⟩))
  have hF := below_next hBY.drew hy1
  go_wp2
  go_ret
  exact ⟨rfl, hF⟩

end Go.Proofs.YtgblodnggeabjabDoor
