/- Wrong graphs: Cycle, Order, Components, Condense, Path. -/
import Derived.Test.YtkjhockppkdakaaDC
namespace Go.Proofs.Ytkjhockppkdakaa
open Go.RowKit Go.Shelf

set_option maxHeartbeats 4000000 in
set_option maxRecDepth 100000 in
theorem dCyc_bad (n : Int) (E : List (Int × Int)) (v : Value) (w : World) (hk : Dg.chk n E ≠ 0) (hv : SeesE w v E) :
    Calls Try.prog 25 #[.agg #[.int .i64 n, v]] w fun e w' => e = .returned (.tuple #[.slice none 0 0, .int .i64 (Dg.chk n E)]) ∧ Below w.heap.size w w' := by
  have CK := fun W h => Lib.hid (dChk_any n v E W h)
  have hne : (Dg.chk n E != 0) = true := by simp [hk]
  generalize Dg.chk n E = k at *
  have HV := Lib.hid hv
  obtain ⟨ao, cap, rfl⟩ := hv.slice
  obtain ⟨P0, L0, z0⟩ := gph_new w n (.slice ao E.length cap) 24
  generalize hX : w.alloc (.cells #[.int .i64 n, .slice ao E.length cap] 24) = X at *
  obtain ⟨p0, p1, p2⟩ := id P0
  have HL := Lib.hid L0
  clear hv L0 hk z0
  go_enter Try.func25, Try.ntmps25
  go_wp2_with fail
  refine ((CK _ (HV.out.step HL.out)).out).mono ?_
  rintro e w1 ⟨rfl, hb⟩
  have HB1 := Lib.hid (below_nxt HL.out hb)
  clear hb
  go_wp2
  exact bodyPost_ret (v := .tuple #[.slice none 0 0, .int .i64 k]) (by simp [results, Try.results25, go_sem]) rfl ⟨rfl, HB1.out⟩

set_option maxHeartbeats 4000000 in
set_option maxRecDepth 100000 in
theorem dOrder_bad (n : Int) (E : List (Int × Int)) (v : Value) (w : World) (hk : Dg.chk n E ≠ 0) (hv : SeesE w v E) :
    Calls Try.prog 27 #[.agg #[.int .i64 n, v]] w fun e w' => e = .returned (.tuple #[.slice none 0 0, .int .i64 (Dg.chk n E)]) ∧ Below w.heap.size w w' := by
  have CK := fun W h => Lib.hid (dChk_any n v E W h)
  have hne : (Dg.chk n E != 0) = true := by simp [hk]
  generalize Dg.chk n E = k at *
  have HV := Lib.hid hv
  obtain ⟨ao, cap, rfl⟩ := hv.slice
  obtain ⟨P0, L0, z0⟩ := gph_new w n (.slice ao E.length cap) 24
  generalize hX : w.alloc (.cells #[.int .i64 n, .slice ao E.length cap] 24) = X at *
  obtain ⟨p0, p1, p2⟩ := id P0
  have HL := Lib.hid L0
  clear hv L0 hk z0
  go_enter Try.func27, Try.ntmps27
  go_wp2_with fail
  refine ((CK _ (HV.out.step HL.out)).out).mono ?_
  rintro e w1 ⟨rfl, hb⟩
  have HB1 := Lib.hid (below_nxt HL.out hb)
  clear hb
  go_wp2
  exact bodyPost_ret (v := .tuple #[.slice none 0 0, .int .i64 k]) (by simp [results, Try.results27, go_sem]) rfl ⟨rfl, HB1.out⟩

set_option maxHeartbeats 4000000 in
set_option maxRecDepth 100000 in
theorem dCompo_bad (n : Int) (E : List (Int × Int)) (v : Value) (w : World) (hk : Dg.chk n E ≠ 0) (hv : SeesE w v E) :
    Calls Try.prog 31 #[.agg #[.int .i64 n, v]] w fun e w' => e = .returned (.tuple #[.slice none 0 0, .int .i64 (Dg.chk n E)]) ∧ Below w.heap.size w w' := by
  have CK := fun W h => Lib.hid (dChk_any n v E W h)
  have hne : (Dg.chk n E != 0) = true := by simp [hk]
  generalize Dg.chk n E = k at *
  have HV := Lib.hid hv
  obtain ⟨ao, cap, rfl⟩ := hv.slice
  obtain ⟨P0, L0, z0⟩ := gph_new w n (.slice ao E.length cap) 24
  generalize hX : w.alloc (.cells #[.int .i64 n, .slice ao E.length cap] 24) = X at *
  obtain ⟨p0, p1, p2⟩ := id P0
  have HL := Lib.hid L0
  clear hv L0 hk z0
  go_enter Try.func31, Try.ntmps31
  go_wp2_with fail
  refine ((CK _ (HV.out.step HL.out)).out).mono ?_
  rintro e w1 ⟨rfl, hb⟩
  have HB1 := Lib.hid (below_nxt HL.out hb)
  clear hb
  go_wp2
  exact bodyPost_ret (v := .tuple #[.slice none 0 0, .int .i64 k]) (by simp [results, Try.results31, go_sem]) rfl ⟨rfl, HB1.out⟩

set_option maxHeartbeats 4000000 in
set_option maxRecDepth 100000 in
theorem dCond_bad (n : Int) (E : List (Int × Int)) (v : Value) (w : World) (hk : Dg.chk n E ≠ 0) (hv : SeesE w v E) :
    Calls Try.prog 33 #[.agg #[.int .i64 n, v]] w fun e w' => e = .returned (.tuple #[.agg #[.int .i64 0, .slice none 0 0], .slice none 0 0, .int .i64 (Dg.chk n E)]) ∧ Below w.heap.size w w' := by
  have CK := fun W h => Lib.hid (dChk_any n v E W h)
  have hne : (Dg.chk n E != 0) = true := by simp [hk]
  generalize Dg.chk n E = k at *
  have HV := Lib.hid hv
  obtain ⟨ao, cap, rfl⟩ := hv.slice
  obtain ⟨P0, L0, z0⟩ := gph_new w n (.slice ao E.length cap) 24
  have R0 := gphW_new (w.alloc (.cells #[.int .i64 n, .slice ao E.length cap] 24)) 0 (.slice none 0 0) 24
  rw [z0] at R0
  have L1 := L0.alloc L0.size (.cells #[.int .i64 0, .slice none 0 0] 24)
  have P1 := P0.step ((Below.refl _ _).alloc (Nat.le_refl _) (.cells #[.int .i64 0, .slice none 0 0] 24))
  generalize hX : (w.alloc (.cells #[.int .i64 n, .slice ao E.length cap] 24)).alloc (.cells #[.int .i64 0, .slice none 0 0] 24) = X at *
  obtain ⟨p0, p1, p2⟩ := id P1
  have HL := Lib.hid L1
  clear hv L0 L1 z0 P0 hk
  go_enter Try.func33, Try.ntmps33
  go_wp2_with fail
  refine ((CK _ (HV.out.step HL.out)).out).mono ?_
  rintro e w1 ⟨rfl, hb⟩
  have HB1 := Lib.hid (below_nxt HL.out hb)
  have R1 := R0.step hb
  obtain ⟨-, e0, e1, -, -⟩ := (R1.put0 0).put (.slice none 0 0)
  have HE0 := Lib.hid (And.intro e0 e1)
  have HBE := Lib.hid ((HB1.out.setCell (p := ⟨w.heap.size + 1, 0, none⟩) (by simp) (.int .i64 0)).setCell (p := ⟨w.heap.size + 1, 1, none⟩) (by simp) (.slice none 0 0))
  obtain ⟨-, r1, r2, r3, r4⟩ := R1
  clear hb p1 p2 e0 e1
  go_wp2
  obtain ⟨e0, e1⟩ := HE0.out
  exact bodyPost_ret (v := .tuple #[.agg #[.int .i64 0, .slice none 0 0], .slice none 0 0, .int .i64 k]) (by simp [results, Try.results33, go_sem, e0, e1]) rfl ⟨rfl, HBE.out⟩

set_option maxHeartbeats 4000000 in
set_option maxRecDepth 100000 in
theorem dPath_bad (n x y : Int) (E : List (Int × Int)) (v : Value) (w : World) (hk : Dg.chkV n E [x, y] ≠ 0) (hv : SeesE w v E) :
    Calls Try.prog 20 #[.agg #[.int .i64 n, v], .int .i64 x, .int .i64 y] w fun e w' => e = .returned (.tuple #[.slice none 0 0, .int .i64 (Dg.chkV n E [x, y])]) ∧ Below w.heap.size w w' := by
  have CK := fun lv W h1 h2 => Lib.hid (dChkV_any n v lv E [x, y] W h1 h2)
  have hne : (Dg.chkV n E [x, y] != 0) = true := by simp [hk]
  generalize Dg.chkV n E [x, y] = k at *
  have HV := Lib.hid hv
  obtain ⟨ao, cap, rfl⟩ := hv.slice
  obtain ⟨P0, L0, z0⟩ := gph_new w n (.slice ao E.length cap) 24
  generalize hX : w.alloc (.cells #[.int .i64 n, .slice ao E.length cap] 24) = X at *
  obtain ⟨p0, p1, p2⟩ := id P0
  have HL := Lib.hid L0
  have BX := fun (W : World) (o : Obj) => (Below.refl W.heap.size W).alloc (Nat.le_refl _) o
  clear hv L0 hk z0
  go_enter Try.func20, Try.ntmps20
  go_wp2_with fail
  refine ((CK _ _ ((HV.out.step HL.out).step (BX _ _)) (SeesI.two _ _ _ _)).out).mono ?_
  rintro e w1 ⟨rfl, hb⟩
  have HB1 := Lib.hid (below_box HL.out hb)
  clear hb
  go_wp2
  exact bodyPost_ret (v := .tuple #[.slice none 0 0, .int .i64 k]) (by simp [results, Try.results20, go_sem]) rfl ⟨rfl, HB1.out⟩
end Go.Proofs.Ytkjhockppkdakaa
