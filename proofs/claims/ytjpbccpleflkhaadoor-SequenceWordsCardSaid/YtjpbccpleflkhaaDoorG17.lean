/- slices.Equal at integers. The examples of the chapter: awake. -/
import Derived.Test.YtjpbccpleflkhaaDoorG06
import Derived.Test.YtjpbccpleflkhaaDoorG10
import Derived.Test.YtjpbccpleflkhaaDoorG15
import Derived.Test.YtjpbccpleflkhaaDoorG16
import Derived.Test.YtjpbccpleflkhaaDoorG11
import Derived.Test.YtjpbccpleflkhaaDoorG12
namespace Go.Proofs.YtjpbccpleflkhaaDoor
open Go.RowKit
set_option maxHeartbeats 4000000 in
set_option maxRecDepth 100000 in
theorem eqI_any (u v : Value) (l m : List Int) (w : World) (hu : SeeI w u l) (hv : SeeI w v m) : Calls Tryd.prog 31 #[u, v] w fun e w' => e = .returned (.bool (decide (l = m))) ∧ Below w.heap.size w w' := by
  obtain ⟨ao, cap, rfl, hcap1, hcap2, hC⟩ := hu
  obtain ⟨bo, bcap, rfl, hbcap1, hbcap2, hD⟩ := hv
  have HC := Lib.hid hC
  have HD := Lib.hid hD
  clear hC hD
  by_cases hlm : l.length = m.length
  · have HNo := Lib.hid (fun i (h : l.getD i 0 ≠ m.getD i 0) => decide_eq_false (Sk.list_ne h))
    have HYes := Lib.hid (fun h => decide_eq_true (Sk.list_eq (0 : Int) hlm h))
    have hq : ((l.length : Int) == (m.length : Int)) = true := by rw [hlm]; simp
    have hqn : (l.length == m.length) = true := by rw [hlm]; simp
    have HLM := Lib.hid hlm
    generalize decide (l = m) = q at *
    clear hlm
    go_enter Tryd.func31, Tryd.ntmps31
    go_wp2
    go_loopw [13] (fun s13 wr => ∃ i : Nat, i ≤ l.length ∧ s13 = .int .i64 (i : Int) ∧ Hid (∀ a, a < i → l.getD a 0 = m.getD a 0) ∧ Hid (Below w.heap.size w wr)) (fun s13 _ => l.length - (intOf s13).toNat)
    case atStart => exact ⟨0, Nat.zero_le _, rfl, Lib.hid (fun a h => by omega), Lib.hid (Below.refl _ _)⟩
    case round =>
      obtain ⟨i, hi, rfl, HJ, HBW⟩ := hrel
      by_cases hil : i < l.length
      · obtain ⟨g, off, rfl, hg, c1⟩ := HC.out.at HBW.out hil
        have him : i < m.length := by rw [← HLM.out]; exact hil
        obtain ⟨g', off', rfl, hg', c2⟩ := HD.out.at HBW.out him
        have himz : (i : Int) < (m.length : Int) := by omega
        have HNi := Lib.hid (HNo.out i)
        have HJ2 : Hid (l.getD i 0 = m.getD i 0 → ∀ a, a < i + 1 → l.getD a 0 = m.getD a 0) := Lib.hid (fun h a ha => by
          by_cases e : a = i
          · rw [e]; exact h
          · exact HJ.out a (by omega))
        clear HNo HYes HJ HC HD
        generalize l.getD i 0 = x at *
        generalize m.getD i 0 = y at *
        have hw2 : IntKind.i64.wrap (i : Int) = (i : Int) := IntWalk.i64_in _ (by omega)
        by_cases hxy : x = y
        · subst hxy
          have HJ3 := Lib.hid (HJ2.out rfl)
          have hxx : (x == x) = true := by simp
          clear HJ2 HNi
          go_wp2
          go_quiet (fail)
          go_wp2
          exact ⟨⟨i + 1, by omega, by first | rfl | go_num, HJ3, Lib.hid (HBW.out.trans (below_drewN _ _))⟩, by simp [intOf]; omega⟩
        · have hv := HNi.out hxy
          have hxx : (x == y) = false := by rw [beq_eq_false_iff_ne]; exact hxy
          clear HJ2 HNi
          go_wp2
          go_quiet (fail)
          go_wp2
          exact bodyPost_ret (v := .bool false) (by simp [results, Tryd.results31, go_sem]) rfl ⟨by rw [hv], HBW.out.trans (below_drewN _ _)⟩
      · obtain rfl : i = l.length := by omega
        have hv := HYes.out HJ.out
        go_wp2
        exact bodyPost_ret (v := .bool true) (by simp [results, Tryd.results31, go_sem]) rfl ⟨by rw [hv], HBW.out⟩
  · have hv : decide (l = m) = false := decide_eq_false (fun e => hlm (by rw [e]))
    have hq : ((l.length : Int) == (m.length : Int)) = false := by rw [beq_eq_false_iff_ne]; omega
    have hqn : (l.length == m.length) = false := by rw [beq_eq_false_iff_ne]; omega
    rw [hv]
    clear hv hlm
    go_enter Tryd.func31, Tryd.ntmps31
    go_wp2
    go_ret
    exact ⟨rfl, Below.refl _ _⟩
set_option maxHeartbeats 4000000 in
set_option maxRecDepth 100000 in
/-- SameEnds of the reference. -/
theorem rSmE_any (u v : Value) (l m : List Bool) (w : World) (hu : SeeB w u l) (hv : SeeB w v m) : Calls Tryd.prog 47 #[u, v] w fun e w' => e = .returned (.bool (decide (l = m))) ∧ Below w.heap.size w w' := by
  obtain ⟨ao, cap, rfl, hcap1, hcap2, hC⟩ := hu
  obtain ⟨bo, bcap, rfl, hbcap1, hbcap2, hD⟩ := hv
  have HC := Lib.hid hC
  have HD := Lib.hid hD
  clear hC hD
  by_cases hlm : l.length = m.length
  · have HNo := Lib.hid (fun i (h : l.getD i false ≠ m.getD i false) => decide_eq_false (Sk.list_ne h))
    have HYes := Lib.hid (fun h => decide_eq_true (Sk.list_eq false hlm h))
    have hqz : ((l.length : Int) != (m.length : Int)) = false := by rw [hlm]; simp
    have HLM := Lib.hid hlm
    generalize decide (l = m) = q at *
    clear hlm
    go_enter Tryd.func47, Tryd.ntmps47
    go_wp2
    go_loopw [5] (fun s5 wr => ∃ i : Nat, i ≤ l.length ∧ s5 = .int .i64 (i : Int) ∧ Hid (∀ a, a < i → l.getD a false = m.getD a false) ∧ Hid (Below w.heap.size w wr)) (fun s5 _ => l.length - (intOf s5).toNat)
    case atStart => exact ⟨0, Nat.zero_le _, rfl, Lib.hid (fun a h => by omega), Lib.hid (Below.refl _ _)⟩
    case round =>
      obtain ⟨i, hi, rfl, HJ, HBW⟩ := hrel
      by_cases hil : i < l.length
      · obtain ⟨g, off, rfl, hg, c1⟩ := HC.out.at HBW.out hil
        have him : i < m.length := by rw [← HLM.out]; exact hil
        obtain ⟨g', off', rfl, hg', c2⟩ := HD.out.at HBW.out him
        have himz : (i : Int) < (m.length : Int) := by omega
        have HNi := Lib.hid (HNo.out i)
        have HJ2 : Hid (l.getD i false = m.getD i false → ∀ a, a < i + 1 → l.getD a false = m.getD a false) := Lib.hid (fun h a ha => by
          by_cases e : a = i
          · rw [e]; exact h
          · exact HJ.out a (by omega))
        clear HNo HYes HJ HC HD
        generalize l.getD i false = x at *
        generalize m.getD i false = y at *
        have hw2 : IntKind.i64.wrap (i : Int) = (i : Int) := IntWalk.i64_in _ (by omega)
        by_cases hxy : x = y
        · subst hxy
          have HJ3 := Lib.hid (HJ2.out rfl)
          have hxx : (x == x) = true := by simp
          clear HJ2 HNi
          go_wp2
          go_quiet (fail)
          go_wp2
          all_goals exact ⟨⟨i + 1, by omega, by first | rfl | go_num, HJ3, Lib.hid (HBW.out.trans (below_drewN _ _))⟩, by simp [intOf]; omega⟩
        · have hv := HNi.out hxy
          have hxx : (x == y) = false := by rw [beq_eq_false_iff_ne]; exact hxy
          clear HJ2 HNi
          go_wp2
          go_quiet (fail)
          go_wp2
          exact bodyPost_ret (v := .bool false) (by simp [results, Tryd.f47, go_sem]) rfl ⟨by rw [hv], HBW.out.trans (below_drewN _ _)⟩
      · obtain rfl : i = l.length := by omega
        have hv := HYes.out HJ.out
        go_wp2
        exact bodyPost_ret (v := .bool true) (by simp [results, Tryd.f47, go_sem]) rfl ⟨by rw [hv], HBW.out⟩
  · have hv : decide (l = m) = false := decide_eq_false (fun e => hlm (by rw [e]))
    have hqz : ((l.length : Int) != (m.length : Int)) = true := by rw [bne_iff_ne]; omega
    rw [hv]
    clear hv hlm
    go_enter Tryd.func47, Tryd.ntmps47
    go_wp2
    go_ret
    exact ⟨rfl, Below.refl _ _⟩
end Go.Proofs.YtjpbccpleflkhaaDoor

namespace Sq
open Sk
def exA : List Stp := [([(0, true)], 0), ([(1, true)], 0), ([(1, false)], 0), ([(0, false)], 0)]
def exB : List Stp := [([(0, true), (1, true)], 0), ([(0, false), (1, false)], 0)]
def wdB : List Str := [(0, true), (1, true), (1, false), (0, false)]
theorem ex_one : seqV (ByteArray.mk #[65, 43, 59, 32, 66, 43, 59, 32, 66, 45, 59, 32, 65, 45]).data.toList = ((2, exA), 0, 0) := by kernel_rfl
theorem ex_two : seqV (ByteArray.mk #[65, 43, 32, 66, 43, 59, 32, 65, 45, 32, 66, 45]).data.toList = ((2, exB), 0, 0) := by kernel_rfl
theorem ex_thr : seqV (ByteArray.mk #[65, 43, 59, 32, 66, 43, 59, 32, 65, 45]).data.toList = ((0, []), 0, 9) := by kernel_rfl
theorem ex_fou : seqV (ByteArray.mk #[65, 43, 59, 32, 66, 45]).data.toList = ((0, []), 0, 14) := by kernel_rfl
theorem ex_end : endV 2 exA 2 = ([true, true], 0) := by kernel_rfl
theorem ex_rep : repV 2 exA = ([3], 0) := by kernel_rfl
theorem ex_wds : wsV 2 exB = (4, 0) := by kernel_rfl
theorem ex_acc : accV 2 exB wdB = (true, 0) := by kernel_rfl
theorem ex_chk : chk 3 exA = 13 := by kernel_rfl
end Sq
namespace Go.Proofs.YtjpbccpleflkhaaDoor
open Go.RowKit Go.Shelf
theorem seeK_four {W : World} {g : Nat} {a b c d : Int} {o p q r : Bool} (hg : g < W.heap.size) (h0 : W.cell? ⟨g, 0, none⟩ = some (.int .i64 a)) (h1 : W.cell? ⟨g, 1, none⟩ = some (.bool o)) (h2 : W.cell? ⟨g, 2, none⟩ = some (.int .i64 b)) (h3 : W.cell? ⟨g, 3, none⟩ = some (.bool p)) (h4 : W.cell? ⟨g, 4, none⟩ = some (.int .i64 c)) (h5 : W.cell? ⟨g, 5, none⟩ = some (.bool q)) (h6 : W.cell? ⟨g, 6, none⟩ = some (.int .i64 d)) (h7 : W.cell? ⟨g, 7, none⟩ = some (.bool r)) : SeeK W (.slice (some ⟨g, 0, none⟩) 4 4) [(a, o), (b, p), (c, q), (d, r)] :=
  ⟨_, 4, rfl, by simp, by omega, fun _ => ⟨g, 0, rfl, hg, fun i hi => by
    rcases (show i = 0 ∨ i = 1 ∨ i = 2 ∨ i = 3 by simp at hi; omega) with rfl | rfl | rfl | rfl
    · exact ⟨h0, h1⟩
    · exact ⟨h2, h3⟩
    · exact ⟨h4, h5⟩
    · exact ⟨h6, h7⟩⟩⟩
theorem seeI_one {W : World} {g : Nat} {a : Int} (hg : g < W.heap.size) (h0 : W.cell? ⟨g, 0, none⟩ = some (.int .i64 a)) : SeeI W (.slice (some ⟨g, 0, none⟩) 1 1) [a] :=
  ⟨_, 1, rfl, by simp, by omega, fun _ => ⟨g, 0, rfl, hg, fun i hi => by
    obtain rfl : i = 0 := by simp at hi; omega
    exact h0⟩⟩
theorem exPar1 (W : World) (h : StQ W) : Calls Tryd.prog 42 #[.string ⟨#[65, 43, 59, 32, 66, 43, 59, 32, 66, 45, 59, 32, 65, 45]⟩] W fun e w' => ∃ ao cap, e = .returned (.tuple #[.agg #[.int .i64 2, .slice ao 4 cap], .int .i64 0, .int .i64 0]) ∧ SeeT w' (.slice ao 4 cap) Sq.exA ∧ Below W.heap.size W w' := by
  have g := qPar_any ⟨#[65, 43, 59, 32, 66, 43, 59, 32, 66, 45, 59, 32, 65, 45]⟩ W h
  rw [Sq.ex_one] at g
  exact g
theorem exPar2 (W : World) (h : StQ W) : Calls Tryd.prog 42 #[.string ⟨#[65, 43, 32, 66, 43, 59, 32, 65, 45, 32, 66, 45]⟩] W fun e w' => ∃ ao cap, e = .returned (.tuple #[.agg #[.int .i64 2, .slice ao 2 cap], .int .i64 0, .int .i64 0]) ∧ SeeT w' (.slice ao 2 cap) Sq.exB ∧ Below W.heap.size W w' := by
  have g := qPar_any ⟨#[65, 43, 32, 66, 43, 59, 32, 65, 45, 32, 66, 45]⟩ W h
  rw [Sq.ex_two] at g
  exact g
theorem exPar3 (W : World) (h : StQ W) : Calls Tryd.prog 42 #[.string ⟨#[65, 43, 59, 32, 66, 43, 59, 32, 65, 45]⟩] W fun e w' => ∃ ao cap, e = .returned (.tuple #[.agg #[.int .i64 0, .slice ao 0 cap], .int .i64 0, .int .i64 9]) ∧ Below W.heap.size W w' := by
  have g := qPar_any ⟨#[65, 43, 59, 32, 66, 43, 59, 32, 65, 45]⟩ W h
  rw [Sq.ex_thr] at g
  exact g.mono (by rintro e w' ⟨ao, cap, rfl, -, hb⟩; exact ⟨ao, cap, rfl, hb⟩)
theorem exPar4 (W : World) (h : StQ W) : Calls Tryd.prog 42 #[.string ⟨#[65, 43, 59, 32, 66, 45]⟩] W fun e w' => ∃ ao cap, e = .returned (.tuple #[.agg #[.int .i64 0, .slice ao 0 cap], .int .i64 0, .int .i64 14]) ∧ Below W.heap.size W w' := by
  have g := qPar_any ⟨#[65, 43, 59, 32, 66, 45]⟩ W h
  rw [Sq.ex_fou] at g
  exact g.mono (by rintro e w' ⟨ao, cap, rfl, -, hb⟩; exact ⟨ao, cap, rfl, hb⟩)
theorem exEnds (v : Value) (W : World) (h : SeeT W v Sq.exA) : Calls Tryd.prog 26 #[.agg #[.int .i64 2, v], .int .i64 2] W fun e w' => ∃ ao cap, e = .returned (.tuple #[.slice ao 2 cap, .int .i64 0]) ∧ SeeB w' (.slice ao 2 cap) [true, true] ∧ Below W.heap.size W w' := by
  have g := qEnd_any 2 v Sq.exA 2 W h
  rw [Sq.ex_end] at g
  exact g
theorem exReps (v : Value) (W : World) (h : SeeT W v Sq.exA) : Calls Tryd.prog 32 #[.agg #[.int .i64 2, v]] W fun e w' => ∃ ao cap, e = .returned (.tuple #[.slice ao 1 cap, .int .i64 0]) ∧ SeeI w' (.slice ao 1 cap) [3] ∧ Below W.heap.size W w' := by
  have g := qRep_any 2 v Sq.exA W h
  rw [Sq.ex_rep] at g
  exact g
theorem exWords (v : Value) (W : World) (h : SeeT W v Sq.exB) : Calls Tryd.prog 19 #[.agg #[.int .i64 2, v]] W fun e w' => e = .returned (.tuple #[.int .i64 4, .int .i64 0]) ∧ Below W.heap.size W w' := by
  have g := qWds_any 2 v Sq.exB W h
  rw [Sq.ex_wds] at g
  exact g
theorem exAcc (v u : Value) (W : World) (h : SeeT W v Sq.exB) (hu : SeeK W u Sq.wdB) : Calls Tryd.prog 34 #[.agg #[.int .i64 2, v], u] W fun e w' => e = .returned (.tuple #[.bool true, .int .i64 0]) ∧ Below W.heap.size W w' := by
  have g := qAcc_any 2 v u Sq.exB Sq.wdB W h hu
  rw [Sq.ex_acc] at g
  exact g
theorem exChk (v : Value) (W : World) (h : SeeT W v Sq.exA) : Calls Tryd.prog 21 #[.agg #[.int .i64 3, v]] W fun e w' => e = .returned (.int .i64 13) ∧ Below W.heap.size W w' := by
  have g := qChk_any 3 v Sq.exA W h
  rw [Sq.ex_chk] at g
  exact g
theorem eqBtt (u v : Value) (W : World) (hs : SeeB W u [true, true]) (he : SeeB W v [true, true]) : Calls Tryd.prog 30 #[u, v] W fun e w' => e = .returned (.bool true) ∧ Below W.heap.size W w' := eqB_any u v _ _ W hs he
theorem eqI3 (u v : Value) (W : World) (hs : SeeI W u [3]) (he : SeeI W v [3]) : Calls Tryd.prog 31 #[u, v] W fun e w' => e = .returned (.bool true) ∧ Below W.heap.size W w' := eqI_any u v _ _ W hs he
set_option maxHeartbeats 8000000 in
set_option maxRecDepth 100000 in
theorem awake14_any (w : World) (hst : StQ w) : Calls Tryd.prog 16 #[] w fun e w' => e = .returned (.bool true) ∧ Below w.heap.size w w' := by
  have HST := Lib.hid hst
  clear hst
  go_enter Tryd.func16, Tryd.ntmps16
  go_wp2_with fail
  refine (exPar1 _ HST.out).mono ?_
  rintro e w1 ⟨ao, cap, rfl, hs1, hb1⟩
  have HB1 := Lib.hid (hb1.alloc hb1.size (.cells #[.int .i64 2, .slice ao 4 cap] 32))
  have HZ1 := Lib.hid hb1.size
  have HR1 := Lib.hid (resP_new w1 (.int .i64 2) (.slice ao 4 cap) 32)
  have H1 := Lib.hid hs1
  have HW1 := Lib.hid (allocB w1 (.cells #[.int .i64 2, .slice ao 4 cap] 32))
  clear hs1 hb1
  obtain ⟨r0, r1, r2, r3, r4⟩ := HR1.out
  go_wp2_with fail
  refine (exEnds _ _ (H1.out.step HW1.out)).mono ?_
  rintro e w2 ⟨bo, bcap, rfl, hs2, hb2⟩
  have HB2 := Lib.hid (below_nxt HB1.out hb2)
  have HR2 := Lib.hid (HR1.out.step hb2)
  have HW2 := Lib.hid (below_nxt HW1.out hb2)
  have HE2 := Lib.hid hs2
  clear hs2 hb2 r0 r1 r2 r3 r4 HB1 HR1 HW1
  obtain ⟨r0, r1, r2, r3, r4⟩ := HR2.out
  go_wp2_with fail
  refine (exReps _ _ (H1.out.step HW2.out)).mono ?_
  rintro e w3 ⟨co, ccap, rfl, hs3, hb3⟩
  have HB3 := Lib.hid (below_nxt HB2.out hb3)
  have HR3 := Lib.hid (HR2.out.step hb3)
  have HW3 := Lib.hid (below_nxt HW2.out hb3)
  have HE3 := Lib.hid (HE2.out.step hb3)
  have HI3 := Lib.hid hs3
  clear hs3 hb3 r0 r1 r2 r3 r4 HB2 HR2 HW2 HE2
  obtain ⟨r0, r1, r2, r3, r4⟩ := HR3.out
  go_wp2_with fail
  refine (eqBtt _ _ _ (HE3.out.step (allocB _ _)) (seeB_two (by simp) (by simp) (by simp))).mono ?_
  rintro e w4 ⟨rfl, hb4⟩
  have hb4' := below_nxt (allocB _ _) hb4
  have HB4 := Lib.hid (below_nxt HB3.out hb4')
  have HR4 := Lib.hid (HR3.out.step hb4')
  have HW4 := Lib.hid (below_nxt HW3.out hb4')
  have HI4 := Lib.hid (HI3.out.step hb4')
  clear hb4 hb4' r0 r1 r2 r3 r4 HB3 HR3 HW3 HE3 HI3
  obtain ⟨r0, r1, r2, r3, r4⟩ := HR4.out
  go_wp2_with fail
  refine (eqI3 _ _ _ (HI4.out.step (allocB _ _)) (seeI_one (by simp) (by simp))).mono ?_
  rintro e w5 ⟨rfl, hb5⟩
  have hb5' := below_nxt (allocB _ _) hb5
  have HB5 := Lib.hid (below_nxt HB4.out hb5')
  have HR5 := Lib.hid (HR4.out.step hb5')
  have HW5 := Lib.hid (below_nxt HW4.out hb5')
  clear hb5 hb5' r0 r1 r2 r3 r4 HB4 HR4 HW4 HI4
  go_wp2_with fail
  refine (exPar2 _ (HST.out.step HB5.out)).mono ?_
  rintro e w6 ⟨do', dcap, rfl, hs6, hb6⟩
  have hb6' := hb6.alloc hb6.size (.cells #[.int .i64 2, .slice do' 2 dcap] 32)
  have HB6 := Lib.hid (below_nxt HB5.out hb6')
  have HR6 := Lib.hid (HR5.out.step hb6')
  have HW6 := Lib.hid (below_nxt HW5.out hb6')
  have HQ6 := Lib.hid (boxP_new w6 (.int .i64 2) (.slice do' 2 dcap) 32).1
  have HT6 := Lib.hid (hs6.step (allocB w6 (.cells #[.int .i64 2, .slice do' 2 dcap] 32)))
  clear hb6 hb6' hs6 HB5 HR5 HW5
  obtain ⟨q0, q1, q2⟩ := HQ6.out
  go_wp2_with fail
  refine (exWords _ _ HT6.out).mono ?_
  rintro e w7 ⟨rfl, hb7⟩
  have HB7 := Lib.hid (below_nxt HB6.out hb7)
  have HR7 := Lib.hid (HR6.out.step hb7)
  have HW7 := Lib.hid (below_nxt HW6.out hb7)
  have HQ7 := Lib.hid (HQ6.out.step hb7)
  have HT7 := Lib.hid (HT6.out.step hb7)
  clear hb7 HB6 HR6 HW6 HQ6 HT6 q0 q1 q2
  obtain ⟨q0, q1, q2⟩ := HQ7.out
  go_wp2_with fail
  refine (exAcc _ _ _ (HT7.out.step (allocB _ _)) (seeK_four (by simp) (by simp) (by simp) (by simp) (by simp) (by simp) (by simp) (by simp) (by simp))).mono ?_
  rintro e w8 ⟨rfl, hb8⟩
  have hb8' := below_nxt (allocB _ _) hb8
  have HB8 := Lib.hid (below_nxt HB7.out hb8')
  have HR8 := Lib.hid (HR7.out.step hb8')
  have HW8 := Lib.hid (below_nxt HW7.out hb8')
  clear hb8 hb8' HB7 HR7 HW7 HQ7 HT7 q0 q1 q2
  go_wp2_with fail
  refine (exPar3 _ (HST.out.step HB8.out)).mono ?_
  rintro e w9 ⟨eo, ecap, rfl, hb9⟩
  have hb9' := hb9.alloc hb9.size (.cells #[.int .i64 0, .slice eo 0 ecap] 32)
  have HB9 := Lib.hid (below_nxt HB8.out hb9')
  have HR9 := Lib.hid (HR8.out.step hb9')
  have HW9 := Lib.hid (below_nxt HW8.out hb9')
  clear hb9 hb9' HB8 HR8 HW8
  go_wp2_with fail
  refine (exPar4 _ (HST.out.step HB9.out)).mono ?_
  rintro e w10 ⟨fo, fcap, rfl, hb10⟩
  have hb10' := hb10.alloc hb10.size (.cells #[.int .i64 0, .slice fo 0 fcap] 32)
  have HB10 := Lib.hid (below_nxt HB9.out hb10')
  have HR10 := Lib.hid (HR9.out.step hb10')
  have HW10 := Lib.hid (below_nxt HW9.out hb10')
  clear hb10 hb10' HB9 HR9 HW9
  obtain ⟨r0, r1, r2, r3, r4⟩ := HR10.out
  go_wp2_with fail
  refine (exChk _ _ (H1.out.step (HW10.out.setCell (p := ⟨w1.heap.size, 0, none⟩) (by simp) _))).mono ?_
  rintro e w11 ⟨rfl, hb11⟩
  have HB11 := Lib.hid (below_nxt (HB10.out.setCell (p := ⟨w1.heap.size, 0, none⟩) HZ1.out _) hb11)
  clear hb11 r0 r1 r2 r3 r4
  go_wp2
  go_ret
  exact ⟨rfl, HB11.out⟩
end Go.Proofs.YtjpbccpleflkhaaDoor
