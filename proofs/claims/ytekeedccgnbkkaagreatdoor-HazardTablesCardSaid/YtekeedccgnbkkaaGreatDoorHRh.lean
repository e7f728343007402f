/- HazardTables, for all forms and changes. -/
import Derived.Test.YtekeedccgnbkkaaGreatDoorHRg
import Derived.Test.YtekeedccgnbkkaaGreatDoorHh
import Derived.Test.YtekeedccgnbkkaaGreatDoorHq
import Derived.Test.YtekeedccgnbkkaaGreatDoorHRf
namespace Go.Proofs.YtekeedccgnbkkaaGreatDoor
open Go.RowKit Go.Shelf

set_option maxHeartbeats 8000000 in
set_option maxRecDepth 100000 in
theorem tables_any (n : Int) (l : List (Nat × Nat)) (v : Value) (a b : Int) (w : World) (hw : Hz.W64 l) (hs : SeesO w v l) (ha : Al w) :
    Calls Tryz.prog 3 #[.int .i64 n, v, .agg #[.int .i64 a, .int .i64 b]] w fun e w' => e = .returned (.bool true) ∧ Below w.heap.size w w' := by
  have CF := fun W h => Lib.hid (few_any l v W h)
  have HSE := Lib.hid hs
  have HA := Lib.hid ha
  obtain ⟨P0, L0, z0⟩ := chI_new w a b 24
  have HL := Lib.hid L0
  have HP := Lib.hid P0
  clear L0 P0
  cases hr : Hz.few l
  · rw [hr] at CF
    clear hs ha hr hw
    go_enter Tryz.func3, Tryz.ntmps3
    go_wp2_with (first | (go_at_call 5; (with_reducible refine ((CF _ (HSE.out.step HL.out)).out).mono ?_); rintro e w1 ⟨rfl, rfl⟩) | (go_at_call 6; (with_reducible refine (awake_any _ (HA.out.next HL.out)).mono ?_); rintro e w2 ⟨rfl, hb2⟩))
    go_ret
    exact ⟨rfl, below_nxt HL.out hb2⟩
  · rw [hr] at CF
    have CK := fun W h => Lib.hid (hCheck_any n l v W hw h)
    have CKr := fun W h => Lib.hid (rhCheck_any n l v W hw h)
    have CT := fun W h h' => Lib.hid (hTable_any n l v W hw h h')
    have CTr := fun W h => Lib.hid (r8Table_any n l v W hw h)
    have CB := fun W h h' => Lib.hid (hBet_any n l v a b W hw h h')
    have CBr := fun W h => Lib.hid (r8Bet_any n l v a b W hw h)
    have CL := fun W h h' h'' => Lib.hid (hLog_any n l v a b W hw h h' h'')
    have CLr := fun W h => Lib.hid (r8Log_any n l v a b W hw h)
    generalize (Hz.tabV n l).1.1 = t1 at *
    generalize (Hz.tabV n l).1.2 = t2 at *
    generalize (Hz.tabV n l).2 = t3 at *
    generalize (Hz.betV n l a b).1 = s1 at *
    generalize (Hz.betV n l a b).2 = s2 at *
    generalize (Hz.logV n l a b).1 = u1 at *
    generalize (Hz.logV n l a b).2 = u2 at *
    generalize Hz.chk n l = c at *
    clear hs ha hr hw
    go_enter Tryz.func3, Tryz.ntmps3
    go_wp2_with (go_at_call 5; (with_reducible refine ((CF _ (HSE.out.step HL.out)).out).mono ?_); rintro e w1 ⟨rfl, rfl⟩)
    have BX := fun (W : World) (o : Obj) => (Below.refl W.heap.size W).alloc (Nat.le_refl _) o
    go_wp2_with fail
    refine ((CT _ (HSE.out.step HL.out) (HA.out.next HL.out).st).out).mono ?_
    rintro e w1 ⟨rfl, hb⟩
    have P1 := HP.out.step hb
    have HB1 := Lib.hid (below_nxt HL.out hb)
    clear hb
    go_wp2_with fail
    refine ((CTr _ (HSE.out.step (HB1.out.alloc HB1.out.size _))).out).mono ?_
    rintro e w2 ⟨rfl, hb⟩
    have A2 := tabI_box hb
    have P2 := (P1.step (BX _ _)).step hb
    have HB2 := Lib.hid (below_box HB1.out hb)
    clear hb
    obtain ⟨p0, p1, p2⟩ := P2.step (BX w2 (.cells #[.int .i64 t1, .int .u64 (t2 : Int)] 29))
    go_wp2_with fail
    refine ((CB _ (HSE.out.step (HB2.out.alloc HB2.out.size _)) (HA.out.next (HB2.out.alloc HB2.out.size _)).ta).out).mono ?_
    rintro e w3 ⟨rfl, hb⟩
    have B3 := tabI_box hb
    have A3 := (A2.step (BX _ _)).step hb
    have P3 := (P2.step (BX _ _)).step hb
    obtain ⟨q0, q1, q2⟩ := id P3
    have HB3 := Lib.hid (below_box HB2.out hb)
    clear hb
    go_wp2_with fail
    refine ((CBr _ (HSE.out.step HB3.out)).out).mono ?_
    rintro e w4 ⟨rfl, hb⟩
    have A4 := A3.step hb
    have B4 := B3.step hb
    have P4 := P3.step hb
    obtain ⟨r0, r1, r2⟩ := id P4
    have HB4 := Lib.hid (below_nxt HB3.out hb)
    clear hb
    go_wp2_with fail
    refine ((CL _ (HSE.out.step HB4.out) (HA.out.next HB4.out).st (HA.out.next HB4.out).ta).out).mono ?_
    rintro e w5 ⟨rfl, hb⟩
    have A5 := A4.step hb
    have B5 := B4.step hb
    have P5 := P4.step hb
    obtain ⟨y0, y1, y2⟩ := id P5
    have HB5 := Lib.hid (below_nxt HB4.out hb)
    clear hb
    go_wp2_with fail
    refine ((CLr _ (HSE.out.step HB5.out)).out).mono ?_
    rintro e w6 ⟨rfl, hb⟩
    have A6 := A5.step hb
    have B6 := B5.step hb
    have HB6 := Lib.hid (below_nxt HB5.out hb)
    clear hb
    go_wp2_with fail
    refine ((CK _ (HSE.out.step HB6.out)).out).mono ?_
    rintro e w7 ⟨rfl, hb⟩
    have A7 := A6.step hb
    have B7 := B6.step hb
    have HB7 := Lib.hid (below_nxt HB6.out hb)
    clear hb
    go_wp2_with fail
    refine ((CKr _ (HSE.out.step HB7.out)).out).mono ?_
    rintro e w8 ⟨rfl, hb⟩
    have A8 := A7.step hb
    have B8 := B7.step hb
    obtain ⟨f0, f1, f2, f3, f4⟩ := id A8
    obtain ⟨g0, g1, g2, g3, g4⟩ := id B8
    have HB8 := Lib.hid (below_nxt HB7.out hb)
    clear hb
    have eqb := eq_bool
    have hu : (u1 == u1) = true := by simp
    go_wp2_with fail
    refine (awake_any _ (HA.out.next HB8.out)).mono ?_
    rintro e w9 ⟨rfl, hb9⟩
    go_wp2
    exact bodyPost_ret (v := .bool true) (by simp [results, Tryz.results3, go_sem]) rfl ⟨rfl, below_nxt HB8.out hb9⟩
end Go.Proofs.YtekeedccgnbkkaaGreatDoor
