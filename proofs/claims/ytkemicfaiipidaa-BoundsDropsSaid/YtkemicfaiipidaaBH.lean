/- awake: the examples of the chapter. -/
import Derived.Test.YtkemicfaiipidaaBG
namespace Go.Proofs.Ytkemicfaiipidaa
open Go.RowKit
theorem allocB (W : World) (o : Obj) : Below W.heap.size W (W.alloc o) := (Below.refl _ _).alloc (Nat.le_refl _) o
theorem SeeI.of (w : World) {v : Value} {l : List Int} (h : SeeI w v l) : ∃ ao cap, v = .slice ao l.length cap := by
  obtain ⟨ao, cap, rfl, _⟩ := h; exact ⟨_, _, rfl⟩
set_option maxHeartbeats 8000000 in
set_option maxRecDepth 100000 in
theorem awake_any (w : World) : Calls Try.prog 8 #[] w fun e w' => e = .returned (.bool true) ∧ Below w.heap.size w w' := by
  go_enter Try.func8, Try.ntmps8
  go_wp2_with fail
  refine (pair_any w).mono ?_
  rintro e w1 ⟨v1, rfl, ⟨u1, rfl, hs1⟩, hb1⟩
  have HB1 := Lib.hid hb1
  have HS1 := Lib.hid hs1
  obtain ⟨a1, c1, rfl, -⟩ := hs1
  obtain ⟨B1, L1⟩ := boxB_new w1 2 (.slice a1 Bn.Rx.length c1) 24
  have HBX := Lib.hid (below_nxt hb1 L1)
  have HSX := Lib.hid (HS1.out.step L1)
  have HX1 := Lib.hid B1
  obtain ⟨x0, x1, x2⟩ := B1
  clear hb1 L1
  -- Extent
  go_wp2_with fail
  clear x0 x1 x2
  refine (bExt_any 2 1 _ Bn.Rx _ HSX.out).mono ?_
  rintro e w2 ⟨rfl, hb2⟩
  rw [Bn.ex_ext]
  have HB2 := Lib.hid (below_nxt HBX.out hb2)
  have HX2 := Lib.hid (HX1.out.step hb2)
  have HS2 := Lib.hid (HSX.out.step hb2)
  obtain ⟨x0, x1, x2⟩ := HX2.out
  clear hb2 HX1 HSX HBX
  -- Witness
  go_wp2_with fail
  clear x0 x1 x2
  refine (bWit_any 2 _ Bn.Rx _ HS2.out).mono ?_
  rintro e w3 ⟨u, rfl, hu, hb3⟩
  rw [Bn.ex_wit] at hu ⊢
  have HB3 := Lib.hid (below_nxt HB2.out hb3)
  have HX3 := Lib.hid (HX2.out.step hb3)
  have HS3 := Lib.hid (HS2.out.step hb3)
  have HU3 := Lib.hid hu
  obtain ⟨x0, x1, x2⟩ := HX3.out
  clear hb3 HX2 HS2 HB2 hu
  -- Add
  go_wp2_with fail
  clear x0 x1 x2
  refine (bAdd_any 2 1 2 (-160) _ Bn.Rx _ HS3.out).mono ?_
  rintro e w4 ⟨v4, rfl, hv4, hb4⟩
  rw [Bn.ex_add] at hv4 ⊢
  obtain ⟨u4, rfl, hs4⟩ := hv4
  have HS4 := Lib.hid hs4
  obtain ⟨a4, c4, rfl, -⟩ := hs4
  obtain ⟨B4, L4⟩ := boxB_new w4 2 (.slice a4 Bn.Rc.length c4) 24
  have LV : Below (w4.alloc (.cells #[.int .i64 2, .slice a4 Bn.Rc.length c4] 24)).heap.size (w4.alloc (.cells #[.int .i64 2, .slice a4 Bn.Rc.length c4] 24)) ((w4.alloc (.cells #[.int .i64 2, .slice a4 Bn.Rc.length c4] 24)).alloc (.cells #[.int .i64 1, .int .i64 2] 3)) := allocB _ _
  have hI := SeeI.two (w4.alloc (.cells #[.int .i64 2, .slice a4 Bn.Rc.length c4] 24)) 1 2 3
  have e4 : (w4.alloc (.cells #[.int .i64 2, .slice a4 Bn.Rc.length c4] 24)).heap.size = w4.heap.size + 1 := by simp
  rw [e4] at hI
  have HI4 := Lib.hid hI
  have HB4 := Lib.hid (below_nxt (below_nxt (below_nxt HB3.out hb4) L4) LV)
  have HX4 := Lib.hid (((HX3.out.step hb4).step L4).step LV)
  have HSx4 := Lib.hid (((HS3.out.step hb4).step L4).step LV)
  have HU4 := Lib.hid (((HU3.out.step hb4).step L4).step LV)
  have HSc4 := Lib.hid ((HS4.out.step L4).step LV)
  have HC4 := Lib.hid (B4.step LV)
  obtain ⟨y0, y1, y2⟩ := id B4
  clear hb4 L4 LV e4 hI HX3 HS3 HU3 HB3 HS4
  -- Verify
  go_wp2_with fail
  clear y0 y1 y2 B4
  refine (bVer_any 2 _ _ Bn.Rc [1, 2] _ HSc4.out HI4.out (by simp)).mono ?_
  rintro e w5 ⟨rfl, hb5⟩
  rw [Bn.ex_ver]
  have HB5 := Lib.hid (below_nxt HB4.out hb5)
  have HX5 := Lib.hid (HX4.out.step hb5)
  have HSx5 := Lib.hid (HSx4.out.step hb5)
  have HU5 := Lib.hid (HU4.out.step hb5)
  have HSc5 := Lib.hid (HSc4.out.step hb5)
  have HC5 := Lib.hid (HC4.out.step hb5)
  obtain ⟨x0, x1, x2⟩ := HX5.out
  clear hb5 HB4 HX4 HSx4 HU4 HSc4 HC4 HI4
  -- Shift
  go_wp2_with fail
  clear x0 x1 x2
  refine (bShift_any 2 1 _ Bn.Rx _ HSx5.out).mono ?_
  rintro e w6 ⟨v6, rfl, hv6, hb6⟩
  rw [Bn.ex_shi] at hv6 ⊢
  obtain ⟨u6, rfl, hs6⟩ := hv6
  have HS6 := Lib.hid hs6
  obtain ⟨a6, c6, rfl, -⟩ := hs6
  obtain ⟨B6, L6⟩ := boxB_new w6 1 (.slice a6 Bn.Rs.length c6) 24
  have HB6 := Lib.hid (below_nxt (below_nxt HB5.out hb6) L6)
  have HU6 := Lib.hid ((HU5.out.step hb6).step L6)
  have HSc6 := Lib.hid ((HSc5.out.step hb6).step L6)
  have HC6 := Lib.hid ((HC5.out.step hb6).step L6)
  have HSs6 := Lib.hid (HS6.out.step L6)
  have HD6 := Lib.hid B6
  obtain ⟨x0, x1, x2⟩ := HC6.out
  clear hb6 L6 B6 HB5 HX5 HSx5 HU5 HSc5 HC5 HS6
  -- Close
  go_wp2_with fail
  clear x0 x1 x2
  refine (bClo_any 2 _ Bn.Rc _ HSc6.out).mono ?_
  rintro e w7 ⟨v7, cy, l7, rfl, hv7, -, -, -, hb7⟩
  rw [Bn.ex_clo] at hv7 ⊢
  obtain ⟨u7, rfl, hs7⟩ := hv7
  obtain ⟨a7, c7, rfl, -⟩ := hs7
  dsimp only at *
  have HB7 := Lib.hid (below_nxt HB6.out hb7)
  have HU7 := Lib.hid (HU6.out.step hb7)
  have HSs7 := Lib.hid (HSs6.out.step hb7)
  have HD7 := Lib.hid (HD6.out.step hb7)
  clear hb7 HB6 HU6 HSc6 HC6 HSs6 HD6
  have hz7 : (w7.alloc (.cells #[.int .i64 0, .slice a7 ([] : List (List Int)).length c7] 24)).heap.size = w7.heap.size + 1 := by simp
  have L7 : Below w7.heap.size w7 (w7.alloc (.cells #[.int .i64 0, .slice a7 ([] : List (List Int)).length c7] 24)) := allocB _ _
  have LE := allocB (w7.alloc (.cells #[.int .i64 0, .slice a7 ([] : List (List Int)).length c7] 24)) (.cells #[.int .i64 200, .int .i64 300] 3)
  have hE := SeeI.two (w7.alloc (.cells #[.int .i64 0, .slice a7 ([] : List (List Int)).length c7] 24)) 200 300 3
  rw [hz7] at hE
  simp only [List.length_nil] at L7 LE hE hz7
  have CEq := Lib.hid (eq_yes _ _ [200, 300] _ ((HU7.out.step L7).step LE).see hE)
  have HB8 := Lib.hid (below_nxt (below_nxt HB7.out L7) LE)
  have HSs8 := Lib.hid ((HSs7.out.step L7).step LE)
  have HD8 := Lib.hid ((HD7.out.step L7).step LE)
  clear L7 LE hE hz7 HU7 HB7 HSs7 HD7
  go_wp2_with fail
  refine (CEq.out).mono ?_
  rintro e w8 ⟨rfl, hb8⟩
  have HB9 := Lib.hid (below_nxt HB8.out hb8)
  have HSs9 := Lib.hid (HSs8.out.step hb8)
  have HD9 := Lib.hid (HD8.out.step hb8)
  obtain ⟨x0, x1, x2⟩ := HD9.out
  have S1 := SeeI.two w8 0 150 3
  have e1 : (w8.alloc (.cells #[.int .i64 0, .int .i64 150] 3)).heap.size = w8.heap.size + 1 := by simp
  have M1 := allocB w8 (.cells #[.int .i64 0, .int .i64 150] 3)
  have S2 := SeeI.two (w8.alloc (.cells #[.int .i64 0, .int .i64 150] 3)) 100 0 3
  have e2 : ((w8.alloc (.cells #[.int .i64 0, .int .i64 150] 3)).alloc (.cells #[.int .i64 100, .int .i64 0] 3)).heap.size = w8.heap.size + 1 + 1 := by simp
  rw [e1] at S2
  have M2 := allocB (w8.alloc (.cells #[.int .i64 0, .int .i64 150] 3)) (.cells #[.int .i64 100, .int .i64 0] 3)
  have S3 := SeesR.two _ _ _ _ _ 42 (S1.step M2) S2
  rw [e2] at S3
  have M3 := allocB ((w8.alloc (.cells #[.int .i64 0, .int .i64 150] 3)).alloc (.cells #[.int .i64 100, .int .i64 0] 3)) (.cells #[.slice (some ⟨w8.heap.size, 0, none⟩) 2 2, .slice (some ⟨w8.heap.size + 1, 0, none⟩) 2 2] 42)
  have CSa := Lib.hid (rSame_yes 1 _ _ Bn.Rs _ (((HSs9.out.step M1).step M2).step M3) S3)
  have HB10 := Lib.hid (below_nxt (below_nxt (below_nxt HB9.out M1) M2) M3)
  clear hb8 S1 S2 S3 M1 M2 M3 e1 e2 CEq HB8 HSs8 HD8 HSs9 HD9
  go_wp2_with fail
  refine (CSa.out).mono ?_
  rintro e w9 ⟨rfl, hb9⟩
  have HB11 := Lib.hid (below_nxt HB10.out hb9)
  clear hb9 HB10 CSa x0 x1 x2
  go_wp2
  go_ret
  exact ⟨rfl, HB11.out⟩
end Go.Proofs.Ytkemicfaiipidaa

