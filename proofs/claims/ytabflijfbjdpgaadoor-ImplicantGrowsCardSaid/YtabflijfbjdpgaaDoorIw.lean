/- The examples of the law of package implicant: awake. -/
import Derived.Test.YtabflijfbjdpgaaDoorIv
import Derived.Test.YtabflijfbjdpgaaDoorIu
import Derived.Test.YtabflijfbjdpgaaDoorIt
import Derived.Test.YtabflijfbjdpgaaDoorUo
namespace Ic
theorem two_l : primesL 3 232 0 = [(6, 6), (5, 5), (3, 3)] := by decide +kernel
theorem two_l6 : primesL 3 232 6 = [(2, 2), (1, 1)] := by decide +kernel
theorem two_s : primesS 3 232 0 = [(3, 3), (5, 5), (6, 6)] := by
  unfold primesS; rw [two_l]; unfold sortL
  simp [List.mergeSort, ltOrd, List.MergeSort.Internal.splitInTwo]
theorem two_s6 : primesS 3 232 6 = [(1, 1), (2, 2)] := by
  unfold primesS; rw [two_l6]; unfold sortL
  simp [List.mergeSort, ltOrd, List.MergeSort.Internal.splitInTwo]
theorem two_e : essL 3 232 (primesS 3 232 0) = [0, 1, 2] := by rw [two_s]; decide +kernel
end Ic
namespace Go.Proofs.YtabflijfbjdpgaaDoor
open Go.RowKit Go.Shelf

set_option maxHeartbeats 1000000 in
set_option maxRecDepth 100000 in
theorem rcSame_any (v u : Value) (l : List (Nat × Nat)) (w : World) (_ : l.length ≤ 1048576) (h1 : SeesC w v l) (h2 : SeesC w u l) :
    Calls Tryd.prog 37 #[v, u] w fun e w' => e = .returned (.bool true) ∧ Below w.heap.size w w' := by
  obtain ⟨a1, k1, rfl, b1, d1, c1⟩ := h1.opened
  obtain ⟨a2, k2, rfl, b2, d2, c2⟩ := h2.opened
  clear h1 h2
  go_enter Tryd.func37, Tryd.ntmps37
  go_wp2
  go_loopw [5] (fun s5 wr => ∃ i : Nat, i ≤ l.length ∧ s5 = .int .i64 i ∧ Hid (Below w.heap.size w wr)) (fun s5 _ => l.length - (intOf s5).toNat)
  case atStart => exact ⟨0, Nat.zero_le _, rfl, Lib.hid (Below.refl _ _)⟩
  case round =>
    obtain ⟨i, hi, rfl, HB⟩ := hrel
    by_cases hil : i < l.length
    · obtain ⟨g, rfl, hg, p1, p2⟩ := c1.at HB.out hil
      obtain ⟨f, rfl, hf, q1, q2⟩ := c2.at HB.out hil
      generalize (l.getD i (0, 0)) = x at *
      have hmix : Tryd.prog.follows .mixedOrders = true := by kernel_rfl
      go_wp2
      go_quiet (fail)
      go_wp2
      exact ⟨⟨i + 1, by omega, rfl, Lib.hid (HB.out.trans (below_drewN wr _))⟩, by simp [intOf]; omega⟩
    · obtain rfl : i = l.length := by omega
      go_wp2
      go_ret
      exact ⟨rfl, HB.out⟩

theorem two_any (w : World) : Calls Tryd.prog 50 #[] w fun e w' => e = .returned (.agg #[.int .i64 3, .int .u64 232, .int .i64 3, .int .u64 0]) ∧ Below w.heap.size w w' := by
  go_enter Tryd.func50, Tryd.ntmps50
  go_wp2
  refine bodyPost_ret (v := .agg #[.int .i64 3, .int .u64 232, .int .i64 3, .int .u64 0]) (by simp [results, Tryd.results50, go_sem]) rfl ⟨rfl, ?_⟩
  repeat' (first | exact Below.refl _ _ | refine Below.setCell ?_ (Nat.le_refl _) _ | refine Below.alloc ?_ (by simp) _)

theorem seesC_new3 (w : World) (a b c d e f : Nat) : SeesC (w.alloc (.cells #[.int .u64 (a : Int), .int .u64 (b : Int), .int .u64 (c : Int), .int .u64 (d : Int), .int .u64 (e : Int), .int .u64 (f : Int)] 24)) (.slice (some ⟨w.heap.size, 0, none⟩) 3 3) [(a, b), (c, d), (e, f)] := by
  refine .inr ⟨w.heap.size, 3, rfl, by simp, by decide, by simp, fun i hi => ?_⟩
  rcases i with _ | _ | _ | i
  · simp
  · simp
  · simp
  · simp at hi; omega
theorem seesC_new2 (w : World) (a b c d : Nat) : SeesC (w.alloc (.cells #[.int .u64 (a : Int), .int .u64 (b : Int), .int .u64 (c : Int), .int .u64 (d : Int)] 24)) (.slice (some ⟨w.heap.size, 0, none⟩) 2 2) [(a, b), (c, d)] := by
  refine .inr ⟨w.heap.size, 2, rfl, by simp, by decide, by simp, fun i hi => ?_⟩
  rcases i with _ | _ | i
  · simp
  · simp
  · simp at hi; omega
theorem sees_new3 (w : World) (a b c : Nat) : Sees .i64 (w.alloc (.cells #[.int .i64 (a : Int), .int .i64 (b : Int), .int .i64 (c : Int)] 3)) (.slice (some ⟨w.heap.size, 0, none⟩) 3 3) [a, b, c] := by
  refine .inr ⟨w.heap.size, 0, 3, rfl, by simp, by decide, by simp, fun i hi => ?_⟩
  rcases i with _ | _ | _ | i
  · simp
  · simp
  · simp
  · simp at hi; omega
theorem cubI_box {w w' : World} {c v : Nat} {T : TypeId} (hb : Below (w.alloc (.cells #[.int .u64 (c : Int), .int .u64 (v : Int)] T)).heap.size (w.alloc (.cells #[.int .u64 (c : Int), .int .u64 (v : Int)] T)) w') : CubI w' w.heap.size c v :=
  (cubI_new w c v T).below (by simp) hb
theorem cMeet (W : World) : Calls Tryd.prog 20 #[.int .i64 3, .agg #[.int .u64 5, .int .u64 1], .agg #[.int .u64 6, .int .u64 2]] W fun e w' => e = .returned (.tuple #[.agg #[.int .u64 7, .int .u64 3], .bool true, .int .i64 0]) ∧ Below W.heap.size W w' := by
  have h := iMeet_any 3 5 1 6 2 W (by decide) (by decide) (by decide) (by decide)
  rw [show Ic.meetV 3 5 1 6 2 = (((7, 3), true), 0) by decide] at h
  exact h
theorem cCons1 (W : World) : Calls Tryd.prog 22 #[.int .i64 3, .agg #[.int .u64 5, .int .u64 1], .agg #[.int .u64 6, .int .u64 2]] W fun e w' => e = .returned (.tuple #[.agg #[.int .u64 0, .int .u64 0], .bool false, .int .i64 0]) ∧ Below W.heap.size W w' := by
  have h := iCons_any 3 5 1 6 2 W (by decide) (by decide) (by decide) (by decide)
  rw [show Ic.consV 3 5 1 6 2 = (((0, 0), false), 0) by decide] at h
  exact h
theorem cCons2 (W : World) : Calls Tryd.prog 22 #[.int .i64 3, .agg #[.int .u64 5, .int .u64 1], .agg #[.int .u64 4, .int .u64 4]] W fun e w' => e = .returned (.tuple #[.agg #[.int .u64 1, .int .u64 1], .bool true, .int .i64 0]) ∧ Below W.heap.size W w' := by
  have h := iCons_any 3 5 1 4 4 W (by decide) (by decide) (by decide) (by decide)
  rw [show Ic.consV 3 5 1 4 4 = (((1, 1), true), 0) by decide] at h
  exact h
theorem cPrim (W : World) (h : St W) : Calls Tryd.prog 33 #[.agg #[.int .i64 3, .int .u64 232, .int .i64 3, .int .u64 0]] W fun e w' => ∃ v, e = .returned (.tuple #[v, .int .i64 0]) ∧ SeesC w' v [(3, 3), (5, 5), (6, 6)] ∧ Below W.heap.size W w' := by
  have k := iPrimes_ok 3 232 3 0 W (by decide) (by decide) (by decide) h (by decide)
  rw [Ic.two_s] at k
  exact k
theorem cPrim6 (W : World) (h : St W) : Calls Tryd.prog 33 #[.agg #[.int .i64 3, .int .u64 232, .int .i64 3, .int .u64 6]] W fun e w' => ∃ v, e = .returned (.tuple #[v, .int .i64 0]) ∧ SeesC w' v [(1, 1), (2, 2)] ∧ Below W.heap.size W w' := by
  have k := iPrimes_ok 3 232 3 6 W (by decide) (by decide) (by decide) h (by decide)
  rw [Ic.two_s6] at k
  exact k
theorem cEss (W : World) (h : St W) : Calls Tryd.prog 35 #[.agg #[.int .i64 3, .int .u64 232, .int .i64 3, .int .u64 0]] W fun e w' => ∃ v, e = .returned (.tuple #[v, .int .i64 0]) ∧ Sees .i64 w' v [0, 1, 2] ∧ Below W.heap.size W w' := by
  have k := iEss_ok 3 232 3 0 W (by decide) (by decide) (by decide) h (by decide)
  rw [Ic.two_e] at k
  exact k

set_option linter.unusedSimpArgs false in
set_option maxRecDepth 100000 in
set_option maxHeartbeats 4000000 in
theorem awake_any (w : World) (hst : St w) : Calls Tryd.prog 17 #[] w fun e w' => e = .returned (.bool true) ∧ Below w.heap.size w w' := by
  have HST := Lib.hid hst
  go_enter Tryd.func17, Tryd.ntmps17
  go_wp2_with fail
  refine (iParse_a _).mono ?_
  rintro e w1 ⟨rfl, hb⟩
  have HB := Lib.hid hb
  clear hb
  go_wp2_with fail
  refine (iParse_b _).mono ?_
  rintro e w2 ⟨rfl, hb⟩
  have V1 := cubI_box (c := 5) (v := 1) hb
  have HB' := Lib.hid (below_nxtb HB.out hb)
  clear HB
  have HB := HB'
  clear HB'
  clear hb 
  obtain ⟨a10, a11, a12, a13, a14⟩ := id V1
  simp only [Int.cast_ofNat_Int, Int.natCast_zero, Int.natCast_one] at a11 a12
  have H1 := Lib.hid V1
  clear V1
  go_wp2_with fail
  refine (iParse_c _).mono ?_
  rintro e w3 ⟨rfl, hb⟩
  have V1 := H1.out.box hb
  have V2 := cubI_box (c := 6) (v := 2) hb
  have HB' := Lib.hid (below_nxtb HB.out hb)
  clear HB
  have HB := HB'
  clear HB'
  clear hb H1 a10 a11 a12 a13 a14
  obtain ⟨a10, a11, a12, a13, a14⟩ := id V1
  simp only [Int.cast_ofNat_Int, Int.natCast_zero, Int.natCast_one] at a11 a12
  have H1 := Lib.hid V1
  clear V1
  obtain ⟨a20, a21, a22, a23, a24⟩ := id V2
  simp only [Int.cast_ofNat_Int, Int.natCast_zero, Int.natCast_one] at a21 a22
  have H2 := Lib.hid V2
  clear V2
  go_wp2_with fail
  refine (cMeet _).mono ?_
  rintro e w4 ⟨rfl, hb⟩
  have V1 := H1.out.box hb
  have V2 := H2.out.box hb
  have V3 := cubI_box (c := 4) (v := 4) hb
  have HB' := Lib.hid (below_nxtb HB.out hb)
  clear HB
  have HB := HB'
  clear HB'
  clear hb H1 a10 a11 a12 a13 a14 H2 a20 a21 a22 a23 a24
  obtain ⟨a10, a11, a12, a13, a14⟩ := id V1
  simp only [Int.cast_ofNat_Int, Int.natCast_zero, Int.natCast_one] at a11 a12
  have H1 := Lib.hid V1
  clear V1
  obtain ⟨a20, a21, a22, a23, a24⟩ := id V2
  simp only [Int.cast_ofNat_Int, Int.natCast_zero, Int.natCast_one] at a21 a22
  have H2 := Lib.hid V2
  clear V2
  obtain ⟨a30, a31, a32, a33, a34⟩ := id V3
  simp only [Int.cast_ofNat_Int, Int.natCast_zero, Int.natCast_one] at a31 a32
  have H3 := Lib.hid V3
  clear V3
  go_wp2_with fail
  refine (cCons1 _).mono ?_
  rintro e w5 ⟨rfl, hb⟩
  have V1 := H1.out.box hb
  have V2 := H2.out.box hb
  have V3 := H3.out.box hb
  have V4 := cubI_box (c := 7) (v := 3) hb
  have HB' := Lib.hid (below_nxtb HB.out hb)
  clear HB
  have HB := HB'
  clear HB'
  clear hb H1 a10 a11 a12 a13 a14 H2 a20 a21 a22 a23 a24 H3 a30 a31 a32 a33 a34
  obtain ⟨a10, a11, a12, a13, a14⟩ := id V1
  simp only [Int.cast_ofNat_Int, Int.natCast_zero, Int.natCast_one] at a11 a12
  have H1 := Lib.hid V1
  clear V1
  obtain ⟨a20, a21, a22, a23, a24⟩ := id V2
  simp only [Int.cast_ofNat_Int, Int.natCast_zero, Int.natCast_one] at a21 a22
  have H2 := Lib.hid V2
  clear V2
  obtain ⟨a30, a31, a32, a33, a34⟩ := id V3
  simp only [Int.cast_ofNat_Int, Int.natCast_zero, Int.natCast_one] at a31 a32
  have H3 := Lib.hid V3
  clear V3
  obtain ⟨a40, a41, a42, a43, a44⟩ := id V4
  simp only [Int.cast_ofNat_Int, Int.natCast_zero, Int.natCast_one] at a41 a42
  have H4 := Lib.hid V4
  clear V4
  go_wp2_with fail
  refine (cCons2 _).mono ?_
  rintro e w6 ⟨rfl, hb⟩
  have V1 := H1.out.box hb
  have V2 := H2.out.box hb
  have V3 := H3.out.box hb
  have V4 := H4.out.box hb
  have V5 := cubI_box (c := 0) (v := 0) hb
  have HB' := Lib.hid (below_nxtb HB.out hb)
  clear HB
  have HB := HB'
  clear HB'
  clear hb H1 a10 a11 a12 a13 a14 H2 a20 a21 a22 a23 a24 H3 a30 a31 a32 a33 a34 H4 a40 a41 a42 a43 a44
  obtain ⟨a10, a11, a12, a13, a14⟩ := id V1
  simp only [Int.cast_ofNat_Int, Int.natCast_zero, Int.natCast_one] at a11 a12
  have H1 := Lib.hid V1
  clear V1
  obtain ⟨a20, a21, a22, a23, a24⟩ := id V2
  simp only [Int.cast_ofNat_Int, Int.natCast_zero, Int.natCast_one] at a21 a22
  have H2 := Lib.hid V2
  clear V2
  obtain ⟨a30, a31, a32, a33, a34⟩ := id V3
  simp only [Int.cast_ofNat_Int, Int.natCast_zero, Int.natCast_one] at a31 a32
  have H3 := Lib.hid V3
  clear V3
  obtain ⟨a40, a41, a42, a43, a44⟩ := id V4
  simp only [Int.cast_ofNat_Int, Int.natCast_zero, Int.natCast_one] at a41 a42
  have H4 := Lib.hid V4
  clear V4
  obtain ⟨a50, a51, a52, a53, a54⟩ := id V5
  simp only [Int.cast_ofNat_Int, Int.natCast_zero, Int.natCast_one] at a51 a52
  have H5 := Lib.hid V5
  clear V5
  go_wp2_with fail
  refine (iText_110 _).mono ?_
  rintro e w7 ⟨rfl, hb⟩
  have V1 := H1.out.box hb
  have V2 := H2.out.box hb
  have V3 := H3.out.box hb
  have V4 := H4.out.box hb
  have V5 := H5.out.box hb
  have V6 := cubI_box (c := 1) (v := 1) hb
  have HB' := Lib.hid (below_nxtb HB.out hb)
  clear HB
  have HB := HB'
  clear HB'
  clear hb H1 a10 a11 a12 a13 a14 H2 a20 a21 a22 a23 a24 H3 a30 a31 a32 a33 a34 H4 a40 a41 a42 a43 a44 H5 a50 a51 a52 a53 a54
  obtain ⟨a10, a11, a12, a13, a14⟩ := id V1
  simp only [Int.cast_ofNat_Int, Int.natCast_zero, Int.natCast_one] at a11 a12
  have H1 := Lib.hid V1
  clear V1
  obtain ⟨a20, a21, a22, a23, a24⟩ := id V2
  simp only [Int.cast_ofNat_Int, Int.natCast_zero, Int.natCast_one] at a21 a22
  have H2 := Lib.hid V2
  clear V2
  obtain ⟨a30, a31, a32, a33, a34⟩ := id V3
  simp only [Int.cast_ofNat_Int, Int.natCast_zero, Int.natCast_one] at a31 a32
  have H3 := Lib.hid V3
  clear V3
  obtain ⟨a40, a41, a42, a43, a44⟩ := id V4
  simp only [Int.cast_ofNat_Int, Int.natCast_zero, Int.natCast_one] at a41 a42
  have H4 := Lib.hid V4
  clear V4
  obtain ⟨a50, a51, a52, a53, a54⟩ := id V5
  simp only [Int.cast_ofNat_Int, Int.natCast_zero, Int.natCast_one] at a51 a52
  have H5 := Lib.hid V5
  clear V5
  obtain ⟨a60, a61, a62, a63, a64⟩ := id V6
  simp only [Int.cast_ofNat_Int, Int.natCast_zero, Int.natCast_one] at a61 a62
  have H6 := Lib.hid V6
  clear V6
  go_wp2_with fail
  refine (iText_1 _).mono ?_
  rintro e w8 ⟨rfl, hb⟩
  have V1 := H1.out.step hb
  have V2 := H2.out.step hb
  have V3 := H3.out.step hb
  have V4 := H4.out.step hb
  have V5 := H5.out.step hb
  have V6 := H6.out.step hb
  have HB' := Lib.hid (below_nxt HB.out hb)
  clear HB
  have HB := HB'
  clear HB'
  clear hb H1 a10 a11 a12 a13 a14 H2 a20 a21 a22 a23 a24 H3 a30 a31 a32 a33 a34 H4 a40 a41 a42 a43 a44 H5 a50 a51 a52 a53 a54 H6 a60 a61 a62 a63 a64
  obtain ⟨a10, a11, a12, a13, a14⟩ := id V1
  simp only [Int.cast_ofNat_Int, Int.natCast_zero, Int.natCast_one] at a11 a12
  have H1 := Lib.hid V1
  clear V1
  obtain ⟨a20, a21, a22, a23, a24⟩ := id V2
  simp only [Int.cast_ofNat_Int, Int.natCast_zero, Int.natCast_one] at a21 a22
  have H2 := Lib.hid V2
  clear V2
  obtain ⟨a30, a31, a32, a33, a34⟩ := id V3
  simp only [Int.cast_ofNat_Int, Int.natCast_zero, Int.natCast_one] at a31 a32
  have H3 := Lib.hid V3
  clear V3
  obtain ⟨a40, a41, a42, a43, a44⟩ := id V4
  simp only [Int.cast_ofNat_Int, Int.natCast_zero, Int.natCast_one] at a41 a42
  have H4 := Lib.hid V4
  clear V4
  obtain ⟨a50, a51, a52, a53, a54⟩ := id V5
  simp only [Int.cast_ofNat_Int, Int.natCast_zero, Int.natCast_one] at a51 a52
  have H5 := Lib.hid V5
  clear V5
  obtain ⟨a60, a61, a62, a63, a64⟩ := id V6
  simp only [Int.cast_ofNat_Int, Int.natCast_zero, Int.natCast_one] at a61 a62
  have H6 := Lib.hid V6
  clear V6
  go_wp2_with fail
  clear H1 a10 a11 a12 a13 a14 H2 a20 a21 a22 a23 a24 H3 a30 a31 a32 a33 a34 H4 a40 a41 a42 a43 a44 H5 a50 a51 a52 a53 a54 H6 a60 a61 a62 a63 a64 hst
  refine (two_any _).mono ?_
  rintro e w9 ⟨rfl, hb⟩
  have HB' := Lib.hid (below_nxt HB.out hb)
  clear HB
  have HB := HB'
  clear HB'
  clear hb
  go_wp2_with fail
  refine (cPrim _ (HST.out.next HB.out)).mono ?_
  rintro e w10 ⟨pv, rfl, hp, hb⟩
  have HB' := Lib.hid (below_nxt HB.out hb)
  clear HB
  have HB := HB'
  clear HB'
  clear hb
  have HP := Lib.hid hp
  clear hp
  go_wp2_with fail
  refine (two_any _).mono ?_
  rintro e w11 ⟨rfl, hb⟩
  have HB' := Lib.hid (below_nxt HB.out hb)
  clear HB
  have HB := HB'
  clear HB'
  have hp := HP.out.step hb
  clear hb HP
  have HP := Lib.hid hp
  clear hp
  go_wp2_with fail
  refine (cEss _ (HST.out.next HB.out)).mono ?_
  rintro e w12 ⟨ev, rfl, he, hb⟩
  have HB' := Lib.hid (below_nxt HB.out hb)
  clear HB
  have HB := HB'
  clear HB'
  have hp := HP.out.step hb
  clear hb HP
  have HP := Lib.hid hp
  have HE := Lib.hid he
  clear hp he
  go_wp2_with fail
  refine (two_any _).mono ?_
  rintro e w13 ⟨rfl, hb⟩
  have HB' := Lib.hid (below_nxt HB.out hb)
  clear HB
  have HB := HB'
  clear HB'
  have hp := HP.out.step hb
  have he := HE.out.below hb (Nat.le_refl _)
  clear hb HP HE
  have HP := Lib.hid hp
  have HE := Lib.hid he
  clear hp he
  go_wp2_with fail
  have hbx : Below w13.heap.size w13 (w13.alloc (.cells #[.int .i64 3, .int .u64 232, .int .i64 3, .int .u64 6] 58)) := (Below.refl _ _).alloc (Nat.le_refl _) _
  have HB' := Lib.hid (below_nxt HB.out hbx)
  clear HB
  have HB := HB'
  clear HB'
  have hp := HP.out.step hbx
  have he := HE.out.below hbx (Nat.le_refl _)
  clear hbx HP HE
  refine (cPrim6 _ (HST.out.next HB.out)).mono ?_
  rintro e w14 ⟨rv, rfl, hr, hb⟩
  have HB' := Lib.hid (below_nxt HB.out hb)
  clear HB
  have HB := HB'
  clear HB'
  have HP := Lib.hid (hp.step hb)
  have HE := Lib.hid (he.below hb (Nat.le_refl _))
  have HR := Lib.hid hr
  clear hp he hr hb
  go_wp2_with fail
  have hb1 := (Below.refl w14.heap.size w14).alloc (Nat.le_refl _) (.cells #[.int .u64 3, .int .u64 3, .int .u64 5, .int .u64 5, .int .u64 6, .int .u64 6] 24)
  refine (rcSame_any _ _ _ _ (by simp) (HP.out.step hb1) (seesC_new3 w14 3 3 5 5 6 6)).mono ?_
  rintro e w15 ⟨rfl, hb⟩
  have hb2 := hb1.trans (hb.mono hb1.size)
  have HB' := Lib.hid (below_nxt HB.out hb2)
  clear HB
  have HB := HB'
  clear HB'
  have HE' := Lib.hid (HE.out.below hb2 (Nat.le_refl _))
  have HR' := Lib.hid (HR.out.step hb2)
  clear hb hb1 hb2 HP HE HR
  go_wp2_with fail
  have hb1 := (Below.refl w15.heap.size w15).alloc (Nat.le_refl _) (.cells #[.int .i64 0, .int .i64 1, .int .i64 2] 3)
  refine (sEqual_any _ _ _ _ (by simp) (HE'.out.below hb1 (Nat.le_refl _)) (sees_new3 w15 0 1 2)).mono ?_
  rintro e w16 ⟨rfl, q, rfl⟩
  have hb := hb1.trans (below_drewN (B := w15.heap.size) _ q)
  have HB' := Lib.hid (below_nxt HB.out hb)
  clear HB
  have HB := HB'
  clear HB'
  have hr := HR'.out.step hb
  clear hb hb1 HE' HR'
  generalize ((w15.alloc (.cells #[.int .i64 0, .int .i64 1, .int .i64 2] 3)).drewN q) = w17 at *
  go_wp2_with fail
  have hb1 := (Below.refl w17.heap.size w17).alloc (Nat.le_refl _) (.cells #[.int .u64 1, .int .u64 1, .int .u64 2, .int .u64 2] 24)
  refine (rcSame_any _ _ _ _ (by simp) (hr.step hb1) (seesC_new2 w17 1 1 2 2)).mono ?_
  rintro e w18 ⟨rfl, hb⟩
  have HBF := Lib.hid (below_nxt HB.out (hb1.trans (hb.mono hb1.size)))
  clear hb hb1 hr HB
  go_wp2_with fail
  go_ret
  exact ⟨rfl, HBF.out⟩
end Go.Proofs.YtabflijfbjdpgaaDoor
