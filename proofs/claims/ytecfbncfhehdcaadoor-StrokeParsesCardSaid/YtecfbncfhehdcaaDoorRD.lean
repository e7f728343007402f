/- Same, and few strokes. -/
import Derived.Test.YtecfbncfhehdcaaDoorRA
namespace Sk
def sameV (l : List Str) (n : Int) (m : List Str) (k : Int) : Bool := decide (n = k) && decide (l = m)
end Sk
namespace Go.Proofs.YtecfbncfhehdcaaDoor
open Go.RowKit
set_option maxHeartbeats 4000000 in
set_option maxRecDepth 100000 in
theorem rSmS_any (u v : Value) (l m : List Sk.Str) (w : World) (hu : SeeK w u l) (hv : SeeK w v m) : Calls Tryd.prog 91 #[u, v] w fun e w' => e = .returned (.bool (decide (l = m))) ∧ Below w.heap.size w w' := by
  obtain ⟨ao, cap, rfl, hcap1, hcap2, hC⟩ := hu
  obtain ⟨bo, bcap, rfl, hbcap1, hbcap2, hD⟩ := hv
  have HC := Lib.hid hC
  have HD := Lib.hid hD
  clear hC hD
  by_cases hlm : l.length = m.length
  · have HNo := Lib.hid (fun i (h : l.getD i Sk.d0 ≠ m.getD i Sk.d0) => decide_eq_false (Sk.list_ne h))
    have HYes := Lib.hid (fun h => decide_eq_true (Sk.list_eq Sk.d0 hlm h))
    have hq : ((l.length : Int) == (m.length : Int)) = true := by rw [hlm]; simp
    have hqn : (l.length == m.length) = true := by rw [hlm]; simp
    have hqz : ((l.length : Int) != (m.length : Int)) = false := by rw [hlm]; simp
    have HLM := Lib.hid hlm
    generalize decide (l = m) = q at *
    clear hlm hq hqn
    go_enter Tryd.func91, Tryd.ntmps91
    go_wp2
    go_loopw [5] (fun s5 wr => ∃ i : Nat, i ≤ l.length ∧ s5 = .int .i64 (i : Int) ∧ Hid (∀ a, a < i → l.getD a Sk.d0 = m.getD a Sk.d0) ∧ Hid (Below w.heap.size w wr)) (fun s5 _ => l.length - (intOf s5).toNat)
    case atStart => exact ⟨0, Nat.zero_le _, rfl, Lib.hid (fun a h => by omega), Lib.hid (Below.refl _ _)⟩
    case round =>
      obtain ⟨i, hi, rfl, HJ, HBW⟩ := hrel
      by_cases hil : i < l.length
      · obtain ⟨g, off, rfl, hg, c1, c1'⟩ := HC.out.at HBW.out hil
        have him : i < m.length := by rw [← HLM.out]; exact hil
        obtain ⟨g', off', rfl, hg', c2, c2'⟩ := HD.out.at HBW.out him
        have himz : (i : Int) < (m.length : Int) := by omega
        have HNi := Lib.hid (HNo.out i)
        have HJ2 : Hid (l.getD i Sk.d0 = m.getD i Sk.d0 → ∀ a, a < i + 1 → l.getD a Sk.d0 = m.getD a Sk.d0) := Lib.hid (fun h a ha => by
          by_cases e : a = i
          · rw [e]; exact h
          · exact HJ.out a (by omega))
        clear HNo HYes HJ HC HD
        generalize l.getD i Sk.d0 = x at *
        generalize m.getD i Sk.d0 = y at *
        obtain ⟨xa, xo⟩ := x
        obtain ⟨ya, yo⟩ := y
        have hw2 : IntKind.i64.wrap (i : Int) = (i : Int) := IntWalk.i64_in _ (by omega)
        by_cases hxy : ((xa, xo) : Sk.Str) = (ya, yo)
        · obtain ⟨rfl, rfl⟩ := Prod.mk.inj hxy
          have HJ3 := Lib.hid (HJ2.out rfl)
          have hxx : (xa == xa) = true := by simp
          have hoo : (xo == xo) = true := by simp
          have hns := neqS xa xa xo xo
          rw [hxx, hoo, Bool.and_self, Bool.not_true] at hns
          clear HJ2 HNi
          go_wp2
          go_quiet (fail)
          go_wp2
          go_roundw
          case rel => exact ⟨i + 1, by omega, by first | rfl | go_num, HJ3, Lib.hid (HBW.out.trans (below_drewN _ _))⟩
          case measure => simp [intOf]; omega
        · have hv := HNi.out hxy
          have hxx : (xa == ya && xo == yo) = false := by
            rw [Bool.and_eq_false_iff, beq_eq_false_iff_ne, beq_eq_false_iff_ne]
            rcases Decidable.em (xa = ya) with h | h
            · exact .inr (fun e => hxy (by rw [h, e]))
            · exact .inl h
          have hns := neqS xa ya xo yo
          rw [hxx, Bool.not_false] at hns
          clear HJ2 HNi
          go_wp2
          go_quiet (fail)
          go_wp2
          exact bodyPost_ret (v := .bool false) (by simp [results, Tryd.results91, go_sem]) rfl ⟨by rw [hv], HBW.out.trans (below_drewN _ _)⟩
      · obtain rfl : i = l.length := by omega
        have hv := HYes.out HJ.out
        go_wp2
        exact bodyPost_ret (v := .bool true) (by simp [results, Tryd.results91, go_sem]) rfl ⟨by rw [hv], HBW.out⟩
  · have hv : decide (l = m) = false := decide_eq_false (fun e => hlm (by rw [e]))
    have hq : ((l.length : Int) == (m.length : Int)) = false := by rw [beq_eq_false_iff_ne]; omega
    have hqn : (l.length == m.length) = false := by rw [beq_eq_false_iff_ne]; omega
    rw [hv]
    clear hv hlm
    go_enter Tryd.func91, Tryd.ntmps91
    go_wp2
    go_ret
    exact ⟨rfl, Below.refl _ _⟩
set_option maxRecDepth 100000 in
theorem sSame_any (u v : Value) (l m : List Sk.Str) (n k : Int) (w : World) (hu : SeeK w u l) (hv : SeeK w v m) : Calls Tryd.prog 66 #[.agg #[u, .int .i64 n], .agg #[v, .int .i64 k]] w fun e w' => e = .returned (.bool (Sk.sameV l n m k)) ∧ Below w.heap.size w w' := by
  have C := fun W (h1 : SeeK W u l) (h2 : SeeK W v m) => Lib.hid (eqK_any u v l m W h1 h2)
  have HU := Lib.hid hu
  have HV := Lib.hid hv
  obtain ⟨ao, cap, rfl, -⟩ := hu
  obtain ⟨bo, bcap, rfl, -⟩ := hv
  obtain ⟨P0, L0, z0⟩ := boxP_new w (.slice ao l.length cap) (.int .i64 n) 70
  obtain ⟨P1, L1, z1⟩ := boxP_new (w.alloc (.cells #[.slice ao l.length cap, .int .i64 n] 70)) (.slice bo m.length bcap) (.int .i64 k) 70
  rw [z0] at P1
  have HB := Lib.hid (below_nxt L0 L1)
  have HUX := Lib.hid (HU.out.step HB.out)
  have HVX := Lib.hid (HV.out.step HB.out)
  obtain ⟨p0, p1, p2⟩ := P0.step L1
  obtain ⟨q0, q1, q2⟩ := P1
  clear P0 L0 L1 z0 z1
  unfold Sk.sameV
  by_cases h : n = k
  · subst h
    rw [decide_eq_true rfl, Bool.true_and]
    have hnn : (n == n) = true := by simp
    go_enter Tryd.func66, Tryd.ntmps66
    go_wp2_with fail
    refine ((C _ HUX.out HVX.out).out).mono ?_
    rintro e w1 ⟨rfl, hb1⟩
    have HB1 := Lib.hid (below_nxt HB.out hb1)
    clear hb1
    go_wp2
    go_ret
    exact ⟨rfl, HB1.out⟩
  · rw [decide_eq_false h, Bool.false_and]
    have hnn : (n == k) = false := by rw [beq_eq_false_iff_ne]; exact h
    go_enter Tryd.func66, Tryd.ntmps66
    go_wp2
    go_ret
    exact ⟨rfl, HB.out⟩
set_option maxRecDepth 100000 in
theorem rSame_any (u v : Value) (l m : List Sk.Str) (n k : Int) (w : World) (hu : SeeK w u l) (hv : SeeK w v m) : Calls Tryd.prog 57 #[.agg #[u, .int .i64 n], .agg #[v, .int .i64 k]] w fun e w' => e = .returned (.bool (Sk.sameV l n m k)) ∧ Below w.heap.size w w' := by
  have C := fun W (h1 : SeeK W u l) (h2 : SeeK W v m) => Lib.hid (rSmS_any u v l m W h1 h2)
  have HU := Lib.hid hu
  have HV := Lib.hid hv
  obtain ⟨ao, cap, rfl, -⟩ := hu
  obtain ⟨bo, bcap, rfl, -⟩ := hv
  obtain ⟨P0, L0, z0⟩ := boxP_new w (.slice ao l.length cap) (.int .i64 n) 70
  obtain ⟨P1, L1, z1⟩ := boxP_new (w.alloc (.cells #[.slice ao l.length cap, .int .i64 n] 70)) (.slice bo m.length bcap) (.int .i64 k) 70
  rw [z0] at P1
  have HB := Lib.hid (below_nxt L0 L1)
  have HUX := Lib.hid (HU.out.step HB.out)
  have HVX := Lib.hid (HV.out.step HB.out)
  obtain ⟨p0, p1, p2⟩ := P0.step L1
  obtain ⟨q0, q1, q2⟩ := P1
  clear P0 L0 L1 z0 z1
  unfold Sk.sameV
  by_cases h : n = k
  · subst h
    rw [decide_eq_true rfl, Bool.true_and]
    have hnn : (n == n) = true := by simp
    go_enter Tryd.func57, Tryd.ntmps57
    go_wp2_with fail
    refine ((C _ HUX.out HVX.out).out).mono ?_
    rintro e w1 ⟨rfl, hb1⟩
    have HB1 := Lib.hid (below_nxt HB.out hb1)
    clear hb1
    go_wp2
    go_ret
    exact ⟨rfl, HB1.out⟩
  · rw [decide_eq_false h, Bool.false_and]
    have hnn : (n == k) = false := by rw [beq_eq_false_iff_ne]; exact h
    go_enter Tryd.func57, Tryd.ntmps57
    go_wp2
    go_ret
    exact ⟨rfl, HB.out⟩
end Go.Proofs.YtecfbncfhehdcaaDoor

