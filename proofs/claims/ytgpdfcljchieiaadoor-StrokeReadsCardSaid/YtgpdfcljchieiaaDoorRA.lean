/- Opposite and Text, of package stroke and of the reference. -/
import Derived.Test.YtgpdfcljchieiaaDoorQZ
namespace Sk
open Go
def oppV (a : Int) (o : Bool) : Str × Int := if chkS a = 0 then ((a, !o), 0) else ((0, false), chkS a)
def txtV (a : Int) (o : Bool) : List UInt8 × Int := if chkS a = 0 then (strT (a, o), 0) else ([], chkS a)
end Sk
namespace Go.Proofs.YtgpdfcljchieiaaDoor
open Go.RowKit
def OppP (q : Sk.Str × Int) (w : World) (e : Ending) (w' : World) : Prop := e = .returned (.tuple #[.agg #[.int .i64 q.1.1, .bool q.1.2], .int .i64 q.2]) ∧ Below w.heap.size w w'
def TxtP (q : List UInt8 × Int) (w : World) (e : Ending) (w' : World) : Prop := e = .returned (.tuple #[.string ⟨q.1.toArray⟩, .int .i64 q.2]) ∧ Below w.heap.size w w'
theorem rAct_any (n : Int) (w : World) : Calls Tryd.prog 42 #[.int .i64 n] w fun e w' => e = .returned (.bool (Sk.act n)) ∧ Below w.heap.size w w' := by
  go_enter Tryd.func42, Tryd.ntmps42
  go_wp2
  all_goals (go_ret; refine ⟨ret_bool ?_, Below.refl _ _⟩; unfold Sk.act; go_light; grind)
theorem rChk_any (a : Int) (o : Bool) (w : World) : Calls Tryd.prog 16 #[.agg #[.int .i64 a, .bool o]] w fun e w' => e = .returned (.int .i64 (Sk.chkS a)) ∧ Below w.heap.size w w' := by
  have HB0 := Lib.hid (allocB w (.cells #[.int .i64 a, .bool o] 23))
  have C := fun W => Lib.hid (rAct_any a W)
  unfold Sk.chkS
  cases hv : Sk.act a
  · rw [hv] at C
    go_enter Tryd.func16, Tryd.ntmps16
    go_wp2_with fail
    refine ((C _).out).mono ?_
    rintro e w1 ⟨rfl, hb1⟩
    have HB1 := Lib.hid (below_nxt HB0.out hb1)
    clear hb1
    go_wp2
    go_ret
    exact ⟨rfl, HB1.out⟩
  · rw [hv] at C
    go_enter Tryd.func16, Tryd.ntmps16
    go_wp2_with fail
    refine ((C _).out).mono ?_
    rintro e w1 ⟨rfl, hb1⟩
    have HB1 := Lib.hid (below_nxt HB0.out hb1)
    clear hb1
    go_wp2
    go_ret
    exact ⟨rfl, HB1.out⟩
set_option maxRecDepth 100000 in
theorem sOpp_any (a : Int) (o : Bool) (w : World) : Calls Tryd.prog 11 #[.agg #[.int .i64 a, .bool o]] w (OppP (Sk.oppV a o) w) := by
  have C := fun W => Lib.hid (sChk_any a o W)
  obtain ⟨P0, L0, z0⟩ := boxP_new w (.int .i64 a) (.bool o) 23
  have R0 := resP_new (w.alloc (.cells #[.int .i64 a, .bool o] 23)) (.int .i64 0) (.bool false) 23
  rw [z0] at R0
  have HL := Lib.hid (L0.alloc L0.size (.cells #[.int .i64 0, .bool false] 23))
  have HP := Lib.hid (P0.step (allocB _ (.cells #[.int .i64 0, .bool false] 23)))
  have HR := Lib.hid R0
  clear P0 L0 R0 z0
  unfold Sk.oppV
  by_cases h : Sk.chkS a = 0
  · rw [if_pos h]
    rw [h] at C
    clear h
    go_enter Tryd.func11, Tryd.ntmps11
    go_wp2_with fail
    refine ((C _).out).mono ?_
    rintro e w1 ⟨rfl, hb1⟩
    have HB1 := Lib.hid (below_nxt HL.out hb1)
    obtain ⟨p0, p1, p2⟩ := HP.out.step hb1
    have HR1 := Lib.hid (HR.out.step hb1)
    obtain ⟨r0, r1, r2, r3, r4⟩ := HR1.out
    clear hb1 HP HR
    go_wp2
    obtain ⟨-, s1, s2, -, -⟩ := HR1.out.put (.int .i64 a) (.bool !o)
    exact bodyPost_ret (v := .tuple #[.agg #[.int .i64 a, .bool !o], .int .i64 0]) (by simp [results, Tryd.f11, go_sem, s1, s2]) rfl ⟨rfl, (HB1.out.setCell (p := ⟨w.heap.size + 1, 0, none⟩) (by simp) _).setCell (p := ⟨w.heap.size + 1, 1, none⟩) (by simp) _⟩
  · rw [if_neg h]
    generalize Sk.chkS a = c at *
    have hc : (c == 0) = false := by rw [beq_eq_false_iff_ne]; exact h
    go_enter Tryd.func11, Tryd.ntmps11
    go_wp2_with fail
    refine ((C _).out).mono ?_
    rintro e w1 ⟨rfl, hb1⟩
    have HB1 := Lib.hid (below_nxt HL.out hb1)
    obtain ⟨p0, p1, p2⟩ := HP.out.step hb1
    have HR1 := Lib.hid (HR.out.step hb1)
    obtain ⟨r0, r1, r2, r3, r4⟩ := HR1.out
    clear hb1 HP HR
    go_wp2
    obtain ⟨-, s1, s2, -, -⟩ := HR1.out.put (.int .i64 0) (.bool false)
    exact bodyPost_ret (v := .tuple #[.agg #[.int .i64 0, .bool false], .int .i64 c]) (by simp [results, Tryd.f11, go_sem, s1, s2]) rfl ⟨rfl, (HB1.out.setCell (p := ⟨w.heap.size + 1, 0, none⟩) (by simp) _).setCell (p := ⟨w.heap.size + 1, 1, none⟩) (by simp) _⟩
set_option maxRecDepth 100000 in
theorem rTurn_any (a : Int) (o : Bool) (w : World) : Calls Tryd.prog 39 #[.agg #[.int .i64 a, .bool o]] w fun e w' => e = .returned (.agg #[.int .i64 a, .bool !o]) ∧ Below w.heap.size w w' := by
  obtain ⟨P0, L0, z0⟩ := boxP_new w (.int .i64 a) (.bool o) 23
  obtain ⟨P1, L1, z1⟩ := boxP_new (w.alloc (.cells #[.int .i64 a, .bool o] 23)) (.int .i64 a) (.bool !o) 23
  rw [z0] at P1
  obtain ⟨-, s1, s2⟩ := P1
  have HL := Lib.hid (L0.alloc L0.size (.cells #[.int .i64 a, .bool !o] 23))
  clear P0 L0 L1 z0 z1
  go_enter Tryd.func39, Tryd.ntmps39
  go_wp2
  exact bodyPost_ret (v := .agg #[.int .i64 a, .bool !o]) (by simp [results, Tryd.f39, go_sem, s1, s2]) rfl ⟨rfl, HL.out⟩
set_option maxRecDepth 100000 in
theorem rOpp_any (a : Int) (o : Bool) (w : World) : Calls Tryd.prog 12 #[.agg #[.int .i64 a, .bool o]] w (OppP (Sk.oppV a o) w) := by
  have C := fun W => Lib.hid (rChk_any a o W)
  have CT := fun W => Lib.hid (rTurn_any a o W)
  obtain ⟨P0, L0, z0⟩ := boxP_new w (.int .i64 a) (.bool o) 23
  have R0 := resP_new (w.alloc (.cells #[.int .i64 a, .bool o] 23)) (.int .i64 0) (.bool false) 23
  rw [z0] at R0
  have HL := Lib.hid (L0.alloc L0.size (.cells #[.int .i64 0, .bool false] 23))
  have HP := Lib.hid (P0.step (allocB _ (.cells #[.int .i64 0, .bool false] 23)))
  have HR := Lib.hid R0
  clear P0 L0 R0 z0
  unfold Sk.oppV
  by_cases h : Sk.chkS a = 0
  · rw [if_pos h]
    rw [h] at C
    clear h
    go_enter Tryd.func12, Tryd.ntmps12
    go_wp2_with fail
    refine ((C _).out).mono ?_
    rintro e w1 ⟨rfl, hb1⟩
    have HB1 := Lib.hid (below_nxt HL.out hb1)
    obtain ⟨p0, p1, p2⟩ := HP.out.step hb1
    have HR1 := Lib.hid (HR.out.step hb1)
    obtain ⟨r0, r1, r2, r3, r4⟩ := HR1.out
    clear hb1 HP HR r0 r1 r2 r3 r4
    go_wp2_with fail
    refine ((CT _).out).mono ?_
    rintro e w2 ⟨rfl, hb2⟩
    have HB2 := Lib.hid (below_nxt HB1.out hb2)
    have HR2 := Lib.hid (HR1.out.step hb2)
    obtain ⟨r0, r1, r2, r3, r4⟩ := HR2.out
    clear hb2
    go_wp2
    obtain ⟨-, s1, s2, -, -⟩ := HR2.out.put (.int .i64 a) (.bool !o)
    exact bodyPost_ret (v := .tuple #[.agg #[.int .i64 a, .bool !o], .int .i64 0]) (by simp [results, Tryd.f12, go_sem, s1, s2]) rfl ⟨rfl, (HB2.out.setCell (p := ⟨w.heap.size + 1, 0, none⟩) (by simp) _).setCell (p := ⟨w.heap.size + 1, 1, none⟩) (by simp) _⟩
  · rw [if_neg h]
    generalize Sk.chkS a = c at *
    have hc : (c == 0) = false := by rw [beq_eq_false_iff_ne]; exact h
    go_enter Tryd.func12, Tryd.ntmps12
    go_wp2_with fail
    refine ((C _).out).mono ?_
    rintro e w1 ⟨rfl, hb1⟩
    have HB1 := Lib.hid (below_nxt HL.out hb1)
    obtain ⟨p0, p1, p2⟩ := HP.out.step hb1
    have HR1 := Lib.hid (HR.out.step hb1)
    obtain ⟨r0, r1, r2, r3, r4⟩ := HR1.out
    clear hb1 HP HR
    go_wp2
    obtain ⟨-, s1, s2, -, -⟩ := HR1.out.put (.int .i64 0) (.bool false)
    exact bodyPost_ret (v := .tuple #[.agg #[.int .i64 0, .bool false], .int .i64 c]) (by simp [results, Tryd.f12, go_sem, s1, s2]) rfl ⟨rfl, (HB1.out.setCell (p := ⟨w.heap.size + 1, 0, none⟩) (by simp) _).setCell (p := ⟨w.heap.size + 1, 1, none⟩) (by simp) _⟩
theorem sText_any (a : Int) (o : Bool) (w : World) : Calls Tryd.prog 13 #[.agg #[.int .i64 a, .bool o]] w (TxtP (Sk.txtV a o) w) := by
  have C := fun W => Lib.hid (sChk_any a o W)
  obtain ⟨P0, L0, z0⟩ := boxP_new w (.int .i64 a) (.bool o) 23
  have HL := Lib.hid L0
  have HP := Lib.hid P0
  clear P0 L0 z0
  unfold Sk.txtV
  by_cases h : Sk.chkS a = 0
  · rw [if_pos h]
    have hk := (Sk.chkS_eq a).1 h
    rw [h] at C
    obtain ⟨k, rfl⟩ := Int.eq_ofNat_of_zero_le hk.1
    have CT := fun W => Lib.hid (sTx_any k o (by omega) W)
    clear h
    go_enter Tryd.func13, Tryd.ntmps13
    go_wp2_with fail
    refine ((C _).out).mono ?_
    rintro e w1 ⟨rfl, hb1⟩
    have HB1 := Lib.hid (below_nxt HL.out hb1)
    obtain ⟨p0, p1, p2⟩ := HP.out.step hb1
    clear hb1 HP
    go_wp2_with fail
    refine ((CT _).out).mono ?_
    rintro e w2 ⟨rfl, hb2⟩
    have HB2 := Lib.hid (below_nxt HB1.out hb2)
    clear hb2
    go_wp2
    exact bodyPost_ret (v := .tuple #[.string ⟨(Sk.strT ((k : Int), o)).toArray⟩, .int .i64 0]) (by simp [results, Tryd.results13, go_sem]) rfl ⟨rfl, HB2.out⟩
  · rw [if_neg h]
    generalize Sk.chkS a = c at *
    have hc : (c == 0) = false := by rw [beq_eq_false_iff_ne]; exact h
    go_enter Tryd.func13, Tryd.ntmps13
    go_wp2_with fail
    refine ((C _).out).mono ?_
    rintro e w1 ⟨rfl, hb1⟩
    have HB1 := Lib.hid (below_nxt HL.out hb1)
    clear hb1 HP
    go_wp2
    exact bodyPost_ret (v := .tuple #[.string ⟨#[]⟩, .int .i64 c]) (by simp [results, Tryd.results13, go_sem]) rfl ⟨rfl, HB1.out⟩
set_option maxRecDepth 100000 in
theorem rWri_any (k : Nat) (o : Bool) (hk : k < 6) (w : World) : Calls Tryd.prog 41 #[.agg #[.int .i64 (k : Int), .bool o]] w fun e w' => e = .returned (.string ⟨(Sk.strT ((k : Int), o)).toArray⟩) ∧ Below w.heap.size w w' := by
  have HB := Lib.hid (allocB w (.cells #[.int .i64 (k : Int), .bool o] 23))
  rcases (show k = 0 ∨ k = 1 ∨ k = 2 ∨ k = 3 ∨ k = 4 ∨ k = 5 by omega) with rfl | rfl | rfl | rfl | rfl | rfl <;> cases o
  all_goals
    clear hk
    go_enter Tryd.func41, Tryd.ntmps41
    go_wp2
    go_ret
    exact ⟨by kernel_rfl, HB.out⟩
theorem rText_any (a : Int) (o : Bool) (w : World) : Calls Tryd.prog 14 #[.agg #[.int .i64 a, .bool o]] w (TxtP (Sk.txtV a o) w) := by
  have C := fun W => Lib.hid (rChk_any a o W)
  obtain ⟨P0, L0, z0⟩ := boxP_new w (.int .i64 a) (.bool o) 23
  have HL := Lib.hid L0
  have HP := Lib.hid P0
  clear P0 L0 z0
  unfold Sk.txtV
  by_cases h : Sk.chkS a = 0
  · rw [if_pos h]
    have hk := (Sk.chkS_eq a).1 h
    rw [h] at C
    obtain ⟨k, rfl⟩ := Int.eq_ofNat_of_zero_le hk.1
    have CT := fun W => Lib.hid (rWri_any k o (by omega) W)
    clear h
    go_enter Tryd.func14, Tryd.ntmps14
    go_wp2_with fail
    refine ((C _).out).mono ?_
    rintro e w1 ⟨rfl, hb1⟩
    have HB1 := Lib.hid (below_nxt HL.out hb1)
    obtain ⟨p0, p1, p2⟩ := HP.out.step hb1
    clear hb1 HP
    go_wp2_with fail
    refine ((CT _).out).mono ?_
    rintro e w2 ⟨rfl, hb2⟩
    have HB2 := Lib.hid (below_nxt HB1.out hb2)
    clear hb2
    go_wp2
    exact bodyPost_ret (v := .tuple #[.string ⟨(Sk.strT ((k : Int), o)).toArray⟩, .int .i64 0]) (by simp [results, Tryd.results14, go_sem]) rfl ⟨rfl, HB2.out⟩
  · rw [if_neg h]
    generalize Sk.chkS a = c at *
    have hc : (c == 0) = false := by rw [beq_eq_false_iff_ne]; exact h
    go_enter Tryd.func14, Tryd.ntmps14
    go_wp2_with fail
    refine ((C _).out).mono ?_
    rintro e w1 ⟨rfl, hb1⟩
    have HB1 := Lib.hid (below_nxt HL.out hb1)
    clear hb1 HP
    go_wp2
    exact bodyPost_ret (v := .tuple #[.string ⟨#[]⟩, .int .i64 c]) (by simp [results, Tryd.results14, go_sem]) rfl ⟨rfl, HB1.out⟩
end Go.Proofs.YtgpdfcljchieiaaDoor
