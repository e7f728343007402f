/- slices.Equal at integers. The examples of the chapter: awake. Ends that came before: plain facts. Repeats of the reference of layer 14. -/
import Derived.Test.YtjpbccpleflkhaaDoorG06
import Derived.Test.YtjpbccpleflkhaaDoorG10
import Derived.Test.YtjpbccpleflkhaaDoorG15
import Derived.Test.YtjpbccpleflkhaaDoorG16
import Derived.Test.YtjpbccpleflkhaaDoorG11
import Derived.Test.YtjpbccpleflkhaaDoorG12
import Derived.Test.YtjpbccpleflkhaaDoorG14
import Derived.BigQuiet
namespace Go.Proofs.YtjpbccpleflkhaaDoor
open Go.RowKit
set_option maxHeartbeats 4000000 in
set_option maxRecDepth 100000 in
theorem eqI_any (u v : Value) (l m : List Int) (w : World) (hu : SeeI w u l) (hv : SeeI w v m) : Calls Tryd.prog 31 #[u, v] w fun e w' => e = .returned (.bool (decide (l = m))) ∧ Below w.heap.size w w' := by
  obtain ⟨ao, cap, rfl, hcap1, hcap2, hC⟩ := hu
  obtain ⟨bo, bcap, rfl, hbcap1, hbcap2, hD⟩ := hv
  have HC := Lib.hid hC
  have HD := Lib.hid hD
  clear hC hD
  by_cases hlm : l.length = m.length
  · have HNo := Lib.hid (fun i (h : l.getD i 0 ≠ m.getD i 0) => decide_eq_false (Sk.list_ne h))
    have HYes := Lib.hid (fun h => decide_eq_true (Sk.list_eq (0 : Int) hlm h))
    have hq : ((l.length : Int) == (m.length : Int)) = true := by rw [hlm]; simp
    have hqn : (l.length == m.length) = true := by rw [hlm]; simp
    have HLM := Lib.hid hlm
    generalize decide (l = m) = q at *
    clear hlm
    go_enter Tryd.func31, Tryd.ntmps31
    go_wp2
    go_loopw [13] (fun s13 wr => ∃ i : Nat, i ≤ l.length ∧ s13 = .int .i64 (i : Int) ∧ Hid (∀ a, a < i → l.getD a 0 = m.getD a 0) ∧ Hid (Below w.heap.size w wr)) (fun s13 _ => l.length - (intOf s13).toNat)
    case atStart => exact ⟨0, Nat.zero_le _, rfl, Lib.hid (fun a h => by omega), Lib.hid (Below.refl _ _)⟩
    case round =>
      obtain ⟨i, hi, rfl, HJ, HBW⟩ := hrel
      by_cases hil : i < l.length
      · obtain ⟨g, off, rfl, hg, c1⟩ := HC.out.at HBW.out hil
        have him : i < m.length := by rw [← HLM.out]; exact hil
        obtain ⟨g', off', rfl, hg', c2⟩ := HD.out.at HBW.out him
        have himz : (i : Int) < (m.length : Int) := by omega
        have HNi := Lib.hid (HNo.out i)
        have HJ2 : Hid (l.getD i 0 = m.getD i 0 → ∀ a, a < i + 1 → l.getD a 0 = m.getD a 0) := Lib.hid (fun h a ha => by
          by_cases e : a = i
          · rw [e]; exact h
          · exact HJ.out a (by omega))
        clear HNo HYes HJ HC HD
        generalize l.getD i 0 = x at *
        generalize m.getD i 0 = y at *
        have hw2 : IntKind.i64.wrap (i : Int) = (i : Int) := IntWalk.i64_in _ (by omega)
        by_cases hxy : x = y
        · subst hxy
          have HJ3 := Lib.hid (HJ2.out rfl)
          have hxx : (x == x) = true := by simp
          clear HJ2 HNi
          go_wp2
          go_quiet (fail)
          go_wp2
          exact ⟨⟨i + 1, by omega, by first | rfl | go_num, HJ3, Lib.hid (HBW.out.trans (below_drewN _ _))⟩, by simp [intOf]; omega⟩
        · have hv := HNi.out hxy
          have hxx : (x == y) = false := by rw [beq_eq_false_iff_ne]; exact hxy
          clear HJ2 HNi
          go_wp2
          go_quiet (fail)
          go_wp2
          exact bodyPost_ret (v := .bool false) (by simp [results, Tryd.results31, go_sem]) rfl ⟨by rw [hv], HBW.out.trans (below_drewN _ _)⟩
      · obtain rfl : i = l.length := by omega
        have hv := HYes.out HJ.out
        go_wp2
        exact bodyPost_ret (v := .bool true) (by simp [results, Tryd.results31, go_sem]) rfl ⟨by rw [hv], HBW.out⟩
  · have hv : decide (l = m) = false := decide_eq_false (fun e => hlm (by rw [e]))
    have hq : ((l.length : Int) == (m.length : Int)) = false := by rw [beq_eq_false_iff_ne]; omega
    have hqn : (l.length == m.length) = false := by rw [beq_eq_false_iff_ne]; omega
    rw [hv]
    clear hv hlm
    go_enter Tryd.func31, Tryd.ntmps31
    go_wp2
    go_ret
    exact ⟨rfl, Below.refl _ _⟩
set_option maxHeartbeats 4000000 in
set_option maxRecDepth 100000 in
/-- SameEnds of the reference. -/
theorem rSmE_any (u v : Value) (l m : List Bool) (w : World) (hu : SeeB w u l) (hv : SeeB w v m) : Calls Tryd.prog 47 #[u, v] w fun e w' => e = .returned (.bool (decide (l = m))) ∧ Below w.heap.size w w' := by
  obtain ⟨ao, cap, rfl, hcap1, hcap2, hC⟩ := hu
  obtain ⟨bo, bcap, rfl, hbcap1, hbcap2, hD⟩ := hv
  have HC := Lib.hid hC
  have HD := Lib.hid hD
  clear hC hD
  by_cases hlm : l.length = m.length
  · have HNo := Lib.hid (fun i (h : l.getD i false ≠ m.getD i false) => decide_eq_false (Sk.list_ne h))
    have HYes := Lib.hid (fun h => decide_eq_true (Sk.list_eq false hlm h))
    have hqz : ((l.length : Int) != (m.length : Int)) = false := by rw [hlm]; simp
    have HLM := Lib.hid hlm
    generalize decide (l = m) = q at *
    clear hlm
    go_enter Tryd.func47, Tryd.ntmps47
    go_wp2
    go_loopw [5] (fun s5 wr => ∃ i : Nat, i ≤ l.length ∧ s5 = .int .i64 (i : Int) ∧ Hid (∀ a, a < i → l.getD a false = m.getD a false) ∧ Hid (Below w.heap.size w wr)) (fun s5 _ => l.length - (intOf s5).toNat)
    case atStart => exact ⟨0, Nat.zero_le _, rfl, Lib.hid (fun a h => by omega), Lib.hid (Below.refl _ _)⟩
    case round =>
      obtain ⟨i, hi, rfl, HJ, HBW⟩ := hrel
      by_cases hil : i < l.length
      · obtain ⟨g, off, rfl, hg, c1⟩ := HC.out.at HBW.out hil
        have him : i < m.length := by rw [← HLM.out]; exact hil
        obtain ⟨g', off', rfl, hg', c2⟩ := HD.out.at HBW.out him
        have himz : (i : Int) < (m.length : Int) := by omega
        have HNi := Lib.hid (HNo.out i)
        have HJ2 : Hid (l.getD i false = m.getD i false → ∀ a, a < i + 1 → l.getD a false = m.getD a false) := Lib.hid (fun h a ha => by
          by_cases e : a = i
          · rw [e]; exact h
          · exact HJ.out a (by omega))
        clear HNo HYes HJ HC HD
        generalize l.getD i false = x at *
        generalize m.getD i false = y at *
        have hw2 : IntKind.i64.wrap (i : Int) = (i : Int) := IntWalk.i64_in _ (by omega)
        by_cases hxy : x = y
        · subst hxy
          have HJ3 := Lib.hid (HJ2.out rfl)
          have hxx : (x == x) = true := by simp
          clear HJ2 HNi
          go_wp2
          go_quiet (fail)
          go_wp2
          all_goals exact ⟨⟨i + 1, by omega, by first | rfl | go_num, HJ3, Lib.hid (HBW.out.trans (below_drewN _ _))⟩, by simp [intOf]; omega⟩
        · have hv := HNi.out hxy
          have hxx : (x == y) = false := by rw [beq_eq_false_iff_ne]; exact hxy
          clear HJ2 HNi
          go_wp2
          go_quiet (fail)
          go_wp2
          exact bodyPost_ret (v := .bool false) (by simp [results, Tryd.f47, go_sem]) rfl ⟨by rw [hv], HBW.out.trans (below_drewN _ _)⟩
      · obtain rfl : i = l.length := by omega
        have hv := HYes.out HJ.out
        go_wp2
        exact bodyPost_ret (v := .bool true) (by simp [results, Tryd.f47, go_sem]) rfl ⟨by rw [hv], HBW.out⟩
  · have hv : decide (l = m) = false := decide_eq_false (fun e => hlm (by rw [e]))
    have hqz : ((l.length : Int) != (m.length : Int)) = true := by rw [bne_iff_ne]; omega
    rw [hv]
    clear hv hlm
    go_enter Tryd.func47, Tryd.ntmps47
    go_wp2
    go_ret
    exact ⟨rfl, Below.refl _ _⟩
end Go.Proofs.YtjpbccpleflkhaaDoor

namespace Sq
open Sk
def exA : List Stp := [([(0, true)], 0), ([(1, true)], 0), ([(1, false)], 0), ([(0, false)], 0)]
def exB : List Stp := [([(0, true), (1, true)], 0), ([(0, false), (1, false)], 0)]
def wdB : List Str := [(0, true), (1, true), (1, false), (0, false)]
theorem ex_one : seqV (ByteArray.mk #[65, 43, 59, 32, 66, 43, 59, 32, 66, 45, 59, 32, 65, 45]).data.toList = ((2, exA), 0, 0) := by kernel_rfl
theorem ex_two : seqV (ByteArray.mk #[65, 43, 32, 66, 43, 59, 32, 65, 45, 32, 66, 45]).data.toList = ((2, exB), 0, 0) := by kernel_rfl
theorem ex_thr : seqV (ByteArray.mk #[65, 43, 59, 32, 66, 43, 59, 32, 65, 45]).data.toList = ((0, []), 0, 9) := by kernel_rfl
theorem ex_fou : seqV (ByteArray.mk #[65, 43, 59, 32, 66, 45]).data.toList = ((0, []), 0, 14) := by kernel_rfl
theorem ex_end : endV 2 exA 2 = ([true, true], 0) := by kernel_rfl
theorem ex_rep : repV 2 exA = ([3], 0) := by kernel_rfl
theorem ex_wds : wsV 2 exB = (4, 0) := by kernel_rfl
theorem ex_acc : accV 2 exB wdB = (true, 0) := by kernel_rfl
theorem ex_chk : chk 3 exA = 13 := by kernel_rfl
end Sq
namespace Go.Proofs.YtjpbccpleflkhaaDoor
open Go.RowKit Go.Shelf
theorem seeK_four {W : World} {g : Nat} {a b c d : Int} {o p q r : Bool} (hg : g < W.heap.size) (h0 : W.cell? ⟨g, 0, none⟩ = some (.int .i64 a)) (h1 : W.cell? ⟨g, 1, none⟩ = some (.bool o)) (h2 : W.cell? ⟨g, 2, none⟩ = some (.int .i64 b)) (h3 : W.cell? ⟨g, 3, none⟩ = some (.bool p)) (h4 : W.cell? ⟨g, 4, none⟩ = some (.int .i64 c)) (h5 : W.cell? ⟨g, 5, none⟩ = some (.bool q)) (h6 : W.cell? ⟨g, 6, none⟩ = some (.int .i64 d)) (h7 : W.cell? ⟨g, 7, none⟩ = some (.bool r)) : SeeK W (.slice (some ⟨g, 0, none⟩) 4 4) [(a, o), (b, p), (c, q), (d, r)] :=
  ⟨_, 4, rfl, by simp, by omega, fun _ => ⟨g, 0, rfl, hg, fun i hi => by
    rcases (show i = 0 ∨ i = 1 ∨ i = 2 ∨ i = 3 by simp at hi; omega) with rfl | rfl | rfl | rfl
    · exact ⟨h0, h1⟩
    · exact ⟨h2, h3⟩
    · exact ⟨h4, h5⟩
    · exact ⟨h6, h7⟩⟩⟩
theorem seeI_one {W : World} {g : Nat} {a : Int} (hg : g < W.heap.size) (h0 : W.cell? ⟨g, 0, none⟩ = some (.int .i64 a)) : SeeI W (.slice (some ⟨g, 0, none⟩) 1 1) [a] :=
  ⟨_, 1, rfl, by simp, by omega, fun _ => ⟨g, 0, rfl, hg, fun i hi => by
    obtain rfl : i = 0 := by simp at hi; omega
    exact h0⟩⟩
theorem exPar1 (W : World) (h : StQ W) : Calls Tryd.prog 42 #[.string ⟨#[65, 43, 59, 32, 66, 43, 59, 32, 66, 45, 59, 32, 65, 45]⟩] W fun e w' => ∃ ao cap, e = .returned (.tuple #[.agg #[.int .i64 2, .slice ao 4 cap], .int .i64 0, .int .i64 0]) ∧ SeeT w' (.slice ao 4 cap) Sq.exA ∧ Below W.heap.size W w' := by
  have g := qPar_any ⟨#[65, 43, 59, 32, 66, 43, 59, 32, 66, 45, 59, 32, 65, 45]⟩ W h
  rw [Sq.ex_one] at g
  exact g
theorem exPar2 (W : World) (h : StQ W) : Calls Tryd.prog 42 #[.string ⟨#[65, 43, 32, 66, 43, 59, 32, 65, 45, 32, 66, 45]⟩] W fun e w' => ∃ ao cap, e = .returned (.tuple #[.agg #[.int .i64 2, .slice ao 2 cap], .int .i64 0, .int .i64 0]) ∧ SeeT w' (.slice ao 2 cap) Sq.exB ∧ Below W.heap.size W w' := by
  have g := qPar_any ⟨#[65, 43, 32, 66, 43, 59, 32, 65, 45, 32, 66, 45]⟩ W h
  rw [Sq.ex_two] at g
  exact g
theorem exPar3 (W : World) (h : StQ W) : Calls Tryd.prog 42 #[.string ⟨#[65, 43, 59, 32, 66, 43, 59, 32, 65, 45]⟩] W fun e w' => ∃ ao cap, e = .returned (.tuple #[.agg #[.int .i64 0, .slice ao 0 cap], .int .i64 0, .int .i64 9]) ∧ Below W.heap.size W w' := by
  have g := qPar_any ⟨#[65, 43, 59, 32, 66, 43, 59, 32, 65, 45]⟩ W h
  rw [Sq.ex_thr] at g
  exact g.mono (by rintro e w' ⟨ao, cap, rfl, -, hb⟩; exact ⟨ao, cap, rfl, hb⟩)
theorem exPar4 (W : World) (h : StQ W) : Calls Tryd.prog 42 #[.string ⟨#[65, 43, 59, 32, 66, 45]⟩] W fun e w' => ∃ ao cap, e = .returned (.tuple #[.agg #[.int .i64 0, .slice ao 0 cap], .int .i64 0, .int .i64 14]) ∧ Below W.heap.size W w' := by
  have g := qPar_any ⟨#[65, 43, 59, 32, 66, 45]⟩ W h
  rw [Sq.ex_fou] at g
  exact g.mono (by rintro e w' ⟨ao, cap, rfl, -, hb⟩; exact ⟨ao, cap, rfl, hb⟩)
theorem exEnds (v : Value) (W : World) (h : SeeT W v Sq.exA) : Calls Tryd.prog 26 #[.agg #[.int .i64 2, v], .int .i64 2] W fun e w' => ∃ ao cap, e = .returned (.tuple #[.slice ao 2 cap, .int .i64 0]) ∧ SeeB w' (.slice ao 2 cap) [true, true] ∧ Below W.heap.size W w' := by
  have g := qEnd_any 2 v Sq.exA 2 W h
  rw [Sq.ex_end] at g
  exact g
theorem exReps (v : Value) (W : World) (h : SeeT W v Sq.exA) : Calls Tryd.prog 32 #[.agg #[.int .i64 2, v]] W fun e w' => ∃ ao cap, e = .returned (.tuple #[.slice ao 1 cap, .int .i64 0]) ∧ SeeI w' (.slice ao 1 cap) [3] ∧ Below W.heap.size W w' := by
  have g := qRep_any 2 v Sq.exA W h
  rw [Sq.ex_rep] at g
  exact g
theorem exWords (v : Value) (W : World) (h : SeeT W v Sq.exB) : Calls Tryd.prog 19 #[.agg #[.int .i64 2, v]] W fun e w' => e = .returned (.tuple #[.int .i64 4, .int .i64 0]) ∧ Below W.heap.size W w' := by
  have g := qWds_any 2 v Sq.exB W h
  rw [Sq.ex_wds] at g
  exact g
theorem exAcc (v u : Value) (W : World) (h : SeeT W v Sq.exB) (hu : SeeK W u Sq.wdB) : Calls Tryd.prog 34 #[.agg #[.int .i64 2, v], u] W fun e w' => e = .returned (.tuple #[.bool true, .int .i64 0]) ∧ Below W.heap.size W w' := by
  have g := qAcc_any 2 v u Sq.exB Sq.wdB W h hu
  rw [Sq.ex_acc] at g
  exact g
theorem exChk (v : Value) (W : World) (h : SeeT W v Sq.exA) : Calls Tryd.prog 21 #[.agg #[.int .i64 3, v]] W fun e w' => e = .returned (.int .i64 13) ∧ Below W.heap.size W w' := by
  have g := qChk_any 3 v Sq.exA W h
  rw [Sq.ex_chk] at g
  exact g
theorem eqBtt (u v : Value) (W : World) (hs : SeeB W u [true, true]) (he : SeeB W v [true, true]) : Calls Tryd.prog 30 #[u, v] W fun e w' => e = .returned (.bool true) ∧ Below W.heap.size W w' := eqB_any u v _ _ W hs he
theorem eqI3 (u v : Value) (W : World) (hs : SeeI W u [3]) (he : SeeI W v [3]) : Calls Tryd.prog 31 #[u, v] W fun e w' => e = .returned (.bool true) ∧ Below W.heap.size W w' := eqI_any u v _ _ W hs he
set_option maxHeartbeats 8000000 in
set_option maxRecDepth 100000 in
theorem awake14_any (w : World) (hst : StQ w) : Calls Tryd.prog 16 #[] w fun e w' => e = .returned (.bool true) ∧ Below w.heap.size w w' := by
  have HST := Lib.hid hst
  clear hst
  go_enter Tryd.func16, Tryd.ntmps16
  go_wp2_with fail
  refine (exPar1 _ HST.out).mono ?_
  rintro e w1 ⟨ao, cap, rfl, hs1, hb1⟩
  have HB1 := Lib.hid (hb1.alloc hb1.size (.cells #[.int .i64 2, .slice ao 4 cap] 32))
  have HZ1 := Lib.hid hb1.size
  have HR1 := Lib.hid (resP_new w1 (.int .i64 2) (.slice ao 4 cap) 32)
  have H1 := Lib.hid hs1
  have HW1 := Lib.hid (allocB w1 (.cells #[.int .i64 2, .slice ao 4 cap] 32))
  clear hs1 hb1
  obtain ⟨r0, r1, r2, r3, r4⟩ := HR1.out
  go_wp2_with fail
  refine (exEnds _ _ (H1.out.step HW1.out)).mono ?_
  rintro e w2 ⟨bo, bcap, rfl, hs2, hb2⟩
  have HB2 := Lib.hid (below_nxt HB1.out hb2)
  have HR2 := Lib.hid (HR1.out.step hb2)
  have HW2 := Lib.hid (below_nxt HW1.out hb2)
  have HE2 := Lib.hid hs2
  clear hs2 hb2 r0 r1 r2 r3 r4 HB1 HR1 HW1
  obtain ⟨r0, r1, r2, r3, r4⟩ := HR2.out
  go_wp2_with fail
  refine (exReps _ _ (H1.out.step HW2.out)).mono ?_
  rintro e w3 ⟨co, ccap, rfl, hs3, hb3⟩
  have HB3 := Lib.hid (below_nxt HB2.out hb3)
  have HR3 := Lib.hid (HR2.out.step hb3)
  have HW3 := Lib.hid (below_nxt HW2.out hb3)
  have HE3 := Lib.hid (HE2.out.step hb3)
  have HI3 := Lib.hid hs3
  clear hs3 hb3 r0 r1 r2 r3 r4 HB2 HR2 HW2 HE2
  obtain ⟨r0, r1, r2, r3, r4⟩ := HR3.out
  go_wp2_with fail
  refine (eqBtt _ _ _ (HE3.out.step (allocB _ _)) (seeB_two (by simp) (by simp) (by simp))).mono ?_
  rintro e w4 ⟨rfl, hb4⟩
  have hb4' := below_nxt (allocB _ _) hb4
  have HB4 := Lib.hid (below_nxt HB3.out hb4')
  have HR4 := Lib.hid (HR3.out.step hb4')
  have HW4 := Lib.hid (below_nxt HW3.out hb4')
  have HI4 := Lib.hid (HI3.out.step hb4')
  clear hb4 hb4' r0 r1 r2 r3 r4 HB3 HR3 HW3 HE3 HI3
  obtain ⟨r0, r1, r2, r3, r4⟩ := HR4.out
  go_wp2_with fail
  refine (eqI3 _ _ _ (HI4.out.step (allocB _ _)) (seeI_one (by simp) (by simp))).mono ?_
  rintro e w5 ⟨rfl, hb5⟩
  have hb5' := below_nxt (allocB _ _) hb5
  have HB5 := Lib.hid (below_nxt HB4.out hb5')
  have HR5 := Lib.hid (HR4.out.step hb5')
  have HW5 := Lib.hid (below_nxt HW4.out hb5')
  clear hb5 hb5' r0 r1 r2 r3 r4 HB4 HR4 HW4 HI4
  go_wp2_with fail
  refine (exPar2 _ (HST.out.step HB5.out)).mono ?_
  rintro e w6 ⟨do', dcap, rfl, hs6, hb6⟩
  have hb6' := hb6.alloc hb6.size (.cells #[.int .i64 2, .slice do' 2 dcap] 32)
  have HB6 := Lib.hid (below_nxt HB5.out hb6')
  have HR6 := Lib.hid (HR5.out.step hb6')
  have HW6 := Lib.hid (below_nxt HW5.out hb6')
  have HQ6 := Lib.hid (boxP_new w6 (.int .i64 2) (.slice do' 2 dcap) 32).1
  have HT6 := Lib.hid (hs6.step (allocB w6 (.cells #[.int .i64 2, .slice do' 2 dcap] 32)))
  clear hb6 hb6' hs6 HB5 HR5 HW5
  obtain ⟨q0, q1, q2⟩ := HQ6.out
  go_wp2_with fail
  refine (exWords _ _ HT6.out).mono ?_
  rintro e w7 ⟨rfl, hb7⟩
  have HB7 := Lib.hid (below_nxt HB6.out hb7)
  have HR7 := Lib.hid (HR6.out.step hb7)
  have HW7 := Lib.hid (below_nxt HW6.out hb7)
  have HQ7 := Lib.hid (HQ6.out.step hb7)
  have HT7 := Lib.hid (HT6.out.step hb7)
  clear hb7 HB6 HR6 HW6 HQ6 HT6 q0 q1 q2
  obtain ⟨q0, q1, q2⟩ := HQ7.out
  go_wp2_with fail
  refine (exAcc _ _ _ (HT7.out.step (allocB _ _)) (seeK_four (by simp) (by simp) (by simp) (by simp) (by simp) (by simp) (by simp) (by simp) (by simp))).mono ?_
  rintro e w8 ⟨rfl, hb8⟩
  have hb8' := below_nxt (allocB _ _) hb8
  have HB8 := Lib.hid (below_nxt HB7.out hb8')
  have HR8 := Lib.hid (HR7.out.step hb8')
  have HW8 := Lib.hid (below_nxt HW7.out hb8')
  clear hb8 hb8' HB7 HR7 HW7 HQ7 HT7 q0 q1 q2
  go_wp2_with fail
  refine (exPar3 _ (HST.out.step HB8.out)).mono ?_
  rintro e w9 ⟨eo, ecap, rfl, hb9⟩
  have hb9' := hb9.alloc hb9.size (.cells #[.int .i64 0, .slice eo 0 ecap] 32)
  have HB9 := Lib.hid (below_nxt HB8.out hb9')
  have HR9 := Lib.hid (HR8.out.step hb9')
  have HW9 := Lib.hid (below_nxt HW8.out hb9')
  clear hb9 hb9' HB8 HR8 HW8
  go_wp2_with fail
  refine (exPar4 _ (HST.out.step HB9.out)).mono ?_
  rintro e w10 ⟨fo, fcap, rfl, hb10⟩
  have hb10' := hb10.alloc hb10.size (.cells #[.int .i64 0, .slice fo 0 fcap] 32)
  have HB10 := Lib.hid (below_nxt HB9.out hb10')
  have HR10 := Lib.hid (HR9.out.step hb10')
  have HW10 := Lib.hid (below_nxt HW9.out hb10')
  clear hb10 hb10' HB9 HR9 HW9
  obtain ⟨r0, r1, r2, r3, r4⟩ := HR10.out
  go_wp2_with fail
  refine (exChk _ _ (H1.out.step (HW10.out.setCell (p := ⟨w1.heap.size, 0, none⟩) (by simp) _))).mono ?_
  rintro e w11 ⟨rfl, hb11⟩
  have HB11 := Lib.hid (below_nxt (HB10.out.setCell (p := ⟨w1.heap.size, 0, none⟩) HZ1.out _) hb11)
  clear hb11 r0 r1 r2 r3 r4
  go_wp2
  go_ret
  exact ⟨rfl, HB11.out⟩
end Go.Proofs.YtjpbccpleflkhaaDoor

namespace Sq
open Sk
/-- Were the ends before step k there before an earlier step? -/
def was (n : Nat) (L : List Stp) (k : Nat) : Bool := (List.range k).any fun i => decide (bh n L i = bh n L k)
/-- The first m steps, of which the ends came before. -/
def rrI (n : Nat) (L : List Stp) (m : Nat) : List Int := ((List.range m).filter (was n L)).map fun k : Nat => (k : Int)
theorem rrI_succ (n : Nat) (L : List Stp) (m : Nat) : rrI n L (m + 1) = if was n L m then rrI n L m ++ [(m : Int)] else rrI n L m := by
  unfold rrI
  rw [List.range_succ, List.filter_append, List.map_append, List.filter_cons]
  cases h : was n L m <;> simp
theorem rrI_one (n : Nat) (L : List Stp) : rrI n L 1 = [] := by rw [show 1 = 0 + 1 from rfl, rrI_succ]; rfl
theorem rrI_len (n : Nat) (L : List Stp) (m : Nat) : (rrI n L m).length ≤ m := by
  unfold rrI
  rw [List.length_map]
  have := List.length_filter_le (was n L) (List.range m)
  rwa [List.length_range] at this
theorem was_iff {n : Nat} {L : List Stp} {k : Nat} : was n L k = true ↔ ∃ i, i < k ∧ bh n L i = bh n L k := by
  unfold was
  rw [List.any_eq_true]
  constructor
  · rintro ⟨i, hi, h⟩; exact ⟨i, List.mem_range.1 hi, of_decide_eq_true h⟩
  · rintro ⟨i, hi, h⟩; exact ⟨i, List.mem_range.2 hi, decide_eq_true h⟩
theorem rpF_map (L : List Stp) : ∀ m, (rpF L (List.range m)).1 = (List.range m).map (bh 6 L)
  | 0 => rfl
  | m + 1 => by rw [List.range_succ, rpF_snoc, List.map_append, ← rpF_map L m]; rfl
theorem rpF_two (L : List Stp) : ∀ {m : Nat}, m ≤ L.length → (rpF L (List.range m)).2 = rrI 6 L m
  | 0, _ => rfl
  | m + 1, hm => by
    rw [List.range_succ, rpF_snoc, rrI_succ, ← rpF_two L (show m ≤ L.length by omega)]
    unfold rpS
    simp only
    rw [rpF_map]
    have h : (m < L.length ∧ bh 6 L m ∈ (List.range m).map (bh 6 L)) ↔ was 6 L m = true := by
      rw [was_iff, List.mem_map]
      constructor
      · rintro ⟨-, i, hi, h⟩; exact ⟨i, List.mem_range.1 hi, h⟩
      · rintro ⟨i, hi, h⟩; exact ⟨by omega, i, List.mem_range.2 hi, h⟩
    by_cases g : was 6 L m = true
    · rw [if_pos (h.2 g), if_pos g]
    · rw [if_neg (fun e => g (h.1 e)), if_neg g]
theorem rpF_end (L : List Stp) : (rpF L (List.range (L.length + 1))).2 = rrI 6 L L.length := by
  rw [List.range_succ, rpF_snoc, ← rpF_two L (Nat.le_refl _)]
  unfold rpS
  rw [if_neg (fun e => by omega)]
theorem bh_drop {n : Nat} {L : List Stp} (h : Rt (n : Int) L) {k : Nat} (hk : k ≤ L.length) : (bh 6 L k).drop n = List.replicate (6 - n) false :=
  bh_low (by have := h.n1; omega) hk (fun i hi => (stE_ok (h.stp i (by omega))).2.1)
theorem bh_same {n : Nat} {L : List Stp} (h : Rt (n : Int) L) {x y : Nat} (hx : x ≤ L.length) (hy : y ≤ L.length) : bh 6 L x = bh 6 L y ↔ bh n L x = bh n L y := by
  have hn : n ≤ 6 := by have := h.n6; omega
  rw [bh_cut hn L x, bh_cut hn L y]
  constructor
  · intro e; rw [e]
  · intro e
    rw [← List.take_append_drop n (bh 6 L x), ← List.take_append_drop n (bh 6 L y), e, bh_drop h hx, bh_drop h hy]
theorem was_same {n : Nat} {L : List Stp} (h : Rt (n : Int) L) {k : Nat} (hk : k ≤ L.length) : was 6 L k = was n L k := by
  apply bool_eq
  rw [was_iff, was_iff]
  constructor
  · rintro ⟨i, hi, e⟩; exact ⟨i, hi, (bh_same h (by omega) hk).1 e⟩
  · rintro ⟨i, hi, e⟩; exact ⟨i, hi, (bh_same h (by omega) hk).2 e⟩
theorem rrI_same {n : Nat} {L : List Stp} (h : Rt (n : Int) L) : rrI 6 L L.length = rrI n L L.length := by
  unfold rrI
  congr 1
  exact List.filter_congr fun k hk => was_same h (by have := List.mem_range.1 hk; omega)
/-- Is one of the first i ends as that before step k? -/
def wasI (n : Nat) (L : List Stp) (k i : Nat) : Bool := (List.range i).any fun i => decide (bh n L i = bh n L k)
theorem wasI_succ (n : Nat) (L : List Stp) (k i : Nat) : wasI n L k (i + 1) = (wasI n L k i || decide (bh n L i = bh n L k)) := by
  unfold wasI
  rw [List.range_succ, List.any_append]; simp
end Sq

namespace Go.Proofs.YtjpbccpleflkhaaDoor
open Go.RowKit Go.Shelf
attribute [local go_sem] Oper.semAt_some
set_option maxHeartbeats 16000000 in
set_option maxRecDepth 100000 in
theorem rRep_any (n : Int) (v : Value) (L : List Sk.Stp) (w : World) (hs : SeeT w v L) : Calls Tryd.prog 33 #[.agg #[.int .i64 n, v]] w (RepP (Sq.repV n L) w) := by
  obtain ⟨i0, hi0, hz0, hz1, hz2⟩ := info_int
  have HS := Lib.hid hs
  obtain ⟨ao, cap, rfl, hcap1, hcap2, -⟩ := hs
  have CC := fun V (h : SeeT V (.slice ao L.length cap) L) => Lib.hid (rChk_any n (.slice ao L.length cap) L V h)
  obtain ⟨P0, L0, z0⟩ := boxP_new w (.int .i64 n) (.slice ao L.length cap) 32
  have HL0 := Lib.hid L0
  have HP0 := Lib.hid P0
  by_cases hc : Sq.chk n L = 0
  · have hR := Sq.chk_ok hc
    obtain ⟨nn, rfl⟩ := Int.eq_ofNat_of_zero_le (show 0 ≤ n by have := hR.n1; omega)
    have hv : Sq.repV (nn : Int) L = (Sq.rrI nn L L.length, 0) := by unfold Sq.repV; rw [if_pos hc, Sq.rpF_end, Sq.rrI_same hR]
    rw [hv]
    rw [hc] at CC
    have hl64 := hR.l64
    have hl1 := hR.l1
    have hn1 := hR.n1
    have hn6 := hR.n6
    have CB := Lib.hid (fun k (hk : k ≤ L.length) V (h : SeeT V (.slice ao L.length cap) L) => rBeh_any nn (.slice ao L.length cap) L k V h (by omega) (by omega) hk (by have := fit_of hR hk; rwa [Int.toNat_natCast] at this))
    clear hc hR hv
    obtain ⟨p0, p1, p2⟩ := P0
    clear L0 z0
    go_enter Tryd.func33, Tryd.ntmps33
    go_wp2_with fail
    refine ((CC _ (HS.out.step HL0.out)).out).mono ?_
    rintro e w1 ⟨rfl, hb1⟩
    have HB1 := Lib.hid (below_nxt HL0.out hb1)
    have HP1 := Lib.hid (HP0.out.step hb1)
    clear hb1 p0 p1 p2
    go_wp2
    go_loopw [5, 6] (fun s5 s6 wr => ∃ k : Nat, 1 ≤ k ∧ k ≤ L.length ∧ s6 = .int .i64 (k : Int) ∧ Hid (RowI (w.heap.size + 1) 3 wr s5 (Sq.rrI nn L k)) ∧ Hid (BoxP wr w.heap.size (.int .i64 (nn : Int)) (.slice ao L.length cap)) ∧ Hid (Below w.heap.size w wr)) (fun _ s6 _ => L.length - (intOf s6).toNat)
    case atStart => exact ⟨1, by omega, by omega, rfl, Lib.hid (by rw [Sq.rrI_one]; exact RowI.nil _ _ _), HP1, HB1⟩
    case round =>
      obtain ⟨k, hk1, hk, rfl, HR, HP, HB⟩ := hrel
      obtain ⟨ro, rc, hro⟩ := HR.out.form
      subst hro
      obtain ⟨p0, p1, p2⟩ := HP.out
      have hwk : IntKind.i64.wrap (k : Int) = (k : Int) := IntWalk.i64_in _ (by omega)
      have hiz : (L.length : Int) ≤ 64 := by omega
      by_cases hkl : k < L.length
      · have HTk := Lib.hid (Sq.rrI_succ nn L k)
        have HLk := Lib.hid (Sq.rrI_len nn L k)
        have CBk := fun V (h : SeeT V (.slice ao L.length cap) L) => Lib.hid (CB.out k hk V h)
        go_wp2
        clear p0 p1 p2
        go_loopw [7, 8] (fun s7 s8 wq => ∃ i : Nat, i ≤ k ∧ s8 = .int .i64 (i : Int) ∧ s7 = .bool (Sq.wasI nn L k i) ∧ Hid (RowI (w.heap.size + 1) 3 wq (.slice ro (Sq.rrI nn L k).length rc) (Sq.rrI nn L k)) ∧ Hid (BoxP wq w.heap.size (.int .i64 (nn : Int)) (.slice ao L.length cap)) ∧ Hid (Below w.heap.size w wq)) (fun _ s8 _ => k - (intOf s8).toNat)
        case atStart => exact ⟨0, Nat.zero_le _, rfl, rfl, HR, HP, HB⟩
        case round =>
          obtain ⟨i, hi, rfl, rfl, HRi, HPi, HBi⟩ := hrel
          have hwi : IntKind.i64.wrap (i : Int) = (i : Int) := IntWalk.i64_in _ (by omega)
          by_cases hik : i < k
          · have HWi := Lib.hid (Sq.wasI_succ nn L k i)
            have CBi := fun V (h : SeeT V (.slice ao L.length cap) L) => Lib.hid (CB.out i (by omega) V h)
            obtain ⟨p0, p1, p2⟩ := HPi.out
            clear CB
            generalize hf : Sq.wasI nn L k i = f at *
            cases f
            · have HE : Hid (Sq.wasI nn L k (i + 1) = decide (Sq.bh nn L i = Sq.bh nn L k)) := Lib.hid (by rw [HWi.out]; rfl)
              generalize hd : decide (Sq.bh nn L i = Sq.bh nn L k) = d at *
              have CE := fun u1 u2 V (h1 : SeeB V u1 (Sq.bh nn L i)) (h2 : SeeB V u2 (Sq.bh nn L k)) => Lib.hid (rSmE_any u1 u2 _ _ V h1 h2)
              rw [hd] at CE
              clear HWi hf hd p0 p1 p2
              have hdr := (Below.refl wr.heap.size wr).drew
              have HBd := Lib.hid (below_nxt HBi.out hdr)
              have HRd := Lib.hid (HRi.out.step hdr)
              have HPd := Lib.hid (HPi.out.step hdr)
              have ST := Lib.hid (HS.out.step HBd.out)
              obtain ⟨-, P1, P2⟩ := id HPd.out
              clear hdr HBi HRi HPi HR HP HB
              go_wp2_with fail
              go_wp2
              go_region_held3 (fun W => W.cell? ⟨w.heap.size, 0, none⟩ = some (.int .i64 (nn : Int)) ∧ W.cell? ⟨w.heap.size, 1, none⟩ = some (.slice ao L.length cap))
                (first | (refine ⟨?_, ?_⟩ <;> with_reducible assumption) | (go_split_ands; refine ⟨?_, ?_⟩ <;> with_reducible assumption))
                (first
                  | (go_at_call 47; (with_reducible refine ((CE _ _ _ U1.out U2.out).out).mono ?_); rintro e wn ⟨rfl, hb⟩; have STq := Lib.hid (ST.out.step hb); have HBq := Lib.hid (below_nxt HBd.out hb); have HRq := Lib.hid (HRd.out.step hb); have HPq := Lib.hid (HPd.out.step hb); clear ST HBd HRd HPd P1 P2; have ST := STq; have HBd := HBq; have HRd := HRq; have HPd := HPq; clear STq HBq HRq HPq; obtain ⟨-, P1, P2⟩ := id HPd.out; clear hb U1 U2)
                  | (go_at_call 44; (with_reducible refine ((CBk _ ST.out).out).mono ?_); rintro e wn ⟨u2, rfl, hse, hb⟩; have U2 := Lib.hid hse; have U1q := Lib.hid (U1.out.step hb); clear U1; have U1 := U1q; clear U1q; have STq := Lib.hid (ST.out.step hb); have HBq := Lib.hid (below_nxt HBd.out hb); have HRq := Lib.hid (HRd.out.step hb); have HPq := Lib.hid (HPd.out.step hb); clear ST HBd HRd HPd P1 P2; have ST := STq; have HBd := HBq; have HRd := HRq; have HPd := HPq; clear STq HBq HRq HPq; obtain ⟨-, P1, P2⟩ := id HPd.out; clear hb hse)
                  | (go_at_call 44; (with_reducible refine ((CBi _ ST.out).out).mono ?_); rintro e wn ⟨u1, rfl, hse, hb⟩; have U1 := Lib.hid hse; have STq := Lib.hid (ST.out.step hb); have HBq := Lib.hid (below_nxt HBd.out hb); have HRq := Lib.hid (HRd.out.step hb); have HPq := Lib.hid (HPd.out.step hb); clear ST HBd HRd HPd P1 P2; have ST := STq; have HBd := HBq; have HRd := HRq; have HPd := HPq; clear STq HBq HRq HPq; obtain ⟨-, P1, P2⟩ := id HPd.out; clear hb hse))
              all_goals (go_wp2; exact ⟨⟨i + 1, by omega, by first | rfl | go_num, by rw [HE.out], HRd, HPd, HBd⟩, by simp [intOf]; omega⟩)
            · have HE : Hid (Sq.wasI nn L k (i + 1) = true) := Lib.hid (by rw [HWi.out]; rfl)
              clear HWi hf
              go_wp2_with fail
              go_quiet (fail)
              go_wp2
              exact ⟨⟨i + 1, by omega, by first | rfl | go_num, by rw [HE.out], Lib.hid (HRi.out.step (below_drewN _ _)), Lib.hid (HPi.out.step (below_drewN _ _)), Lib.hid (HBi.out.trans (below_drewN _ _))⟩, by simp [intOf]; omega⟩
          · obtain rfl : i = k := by omega
            have HW : Hid (Sq.wasI nn L i i = Sq.was nn L i) := Lib.hid rfl
            have hww := HW.out
            obtain ⟨p0, p1, p2⟩ := HPi.out
            rw [hww]
            clear hww HW
            cases hw : Sq.was nn L i
            · have HTn := Lib.hid (show Sq.rrI nn L (i + 1) = Sq.rrI nn L i by rw [HTk.out, hw]; rfl)
              clear hw HTk
              generalize Sq.rrI nn L i = F at *
              go_wp2
              exact ⟨⟨i + 1, by omega, by omega, by first | rfl | go_num, by rw [HTn.out]; exact HRi, HPi, HBi⟩, by simp [intOf]; omega⟩
            · have HTn := Lib.hid (show Sq.rrI nn L (i + 1) = Sq.rrI nn L i ++ [(i : Int)] by rw [HTk.out, hw]; rfl)
              clear hw HTk
              have hz2' := HPi.out.1
              generalize Sq.rrI nn L i = F at *
              clear p0 p1 p2
              go_wp2_with (at_builtin; refine wpList_append_int1 rfl _ _ 54 rfl 3 i0 Tryd.underlying54 hi0 hz0 hz1 hz2 _ F (i : Int) wr.heap.size rfl rfl (w.heap.size + 1) (HRi.out.step (allocB _ _)) (by simp) (by have := HLk.out; omega) (Nat.le_trans (show w.heap.size + 1 ≤ wr.heap.size from hz2') (by simp)) ?_; intro a5 p5 w5 hr5 hg5; have HR5 := Lib.hid hr5; have HP5 := Lib.hid ((HPi.out.step (allocB _ (.cells #[.int .i64 (i : Int)] 3))).blk (hg5.block w.heap.size (Nat.lt_of_lt_of_le hz2' (by simp)) (fun e => by have := (HRi.out.lt _ e.symm).1; omega))); have HB5 := Lib.hid ((HBi.out.alloc HBi.out.size (.cells #[.int .i64 (i : Int)] 3)).grown hg5 (Nat.le_trans HBi.out.size (by simp)) (fun r e => by have := (HRi.out.lt r e).1; omega)); clear hr5 hg5)
              exact ⟨⟨i + 1, by omega, by omega, by first | rfl | go_num, by rw [HTn.out]; exact HR5, HP5, HB5⟩, by simp [intOf]; omega⟩
      · obtain rfl : k = L.length := by omega
        have HSe := Lib.hid HR.out.sees
        clear CB
        generalize Sq.rrI nn L L.length = F at *
        go_wp2
        exact bodyPost_ret (v := .tuple #[.slice ro F.length rc, .int .i64 0]) (by simp [results, Tryd.f33, go_sem]) rfl ⟨ro, rc, rfl, HSe.out, HB.out⟩
  · have hv : Sq.repV n L = ([], Sq.chk n L) := by unfold Sq.repV; rw [if_neg hc]
    rw [hv]
    have hct : (Sq.chk n L != 0) = true := by simpa using hc
    clear hv hc
    generalize Sq.chk n L = c at *
    obtain ⟨p0, p1, p2⟩ := P0
    clear L0 z0
    go_enter Tryd.func33, Tryd.ntmps33
    go_wp2_with fail
    refine ((CC _ (HS.out.step HL0.out)).out).mono ?_
    rintro e w1 ⟨rfl, hb1⟩
    have HB1 := Lib.hid (below_nxt HL0.out hb1)
    clear hb1 p0 p1 p2
    go_wp2
    exact bodyPost_ret (v := .tuple #[.slice none 0 0, .int .i64 c]) (by simp [results, Tryd.f33, go_sem]) rfl ⟨none, 0, rfl, SeeI.nil _, HB1.out⟩
end Go.Proofs.YtjpbccpleflkhaaDoor
