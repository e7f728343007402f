/- slices.Equal, of ends and of strokes. -/
import Derived.Laws.StructEq
import Derived.Test.YtecfbncfhehdcaaDoorQD
namespace Sk
theorem list_eq {α : Type} {l m : List α} (d : α) (h : l.length = m.length) (he : ∀ i, i < l.length → l.getD i d = m.getD i d) : l = m := by
  apply List.ext_getElem h
  intro i h1 h2
  have := he i h1
  rw [List.getD_eq_getElem?_getD, List.getD_eq_getElem?_getD, List.getElem?_eq_getElem h1, List.getElem?_eq_getElem h2] at this
  exact this
theorem list_ne {α : Type} {l m : List α} {d : α} {i : Nat} (h : l.getD i d ≠ m.getD i d) : l ≠ m := fun e => h (by rw [e])
end Sk
namespace Go.Proofs.YtecfbncfhehdcaaDoor
open Go.RowKit
theorem neqS (a b : Int) (o p : Bool) (W : World) : (binOp .neq 47 (.agg #[.int .i64 a, .bool o]) (.agg #[.int .i64 b, .bool p])).run Tryd.prog W = .ok (.bool (!(a == b && o == p))) W := by
  rw [run_neq_struct, run_equalIn_agg W 9999 _ _ _ (by kernel_rfl) (by kernel_rfl)]
  cases hab : (a == b) <;> cases o <;> cases p <;> simp [Op.eqFields, go_sem, hab]
theorem eqlS (a b : Int) (o p : Bool) (W : World) : (binOp .eql 47 (.agg #[.int .i64 a, .bool o]) (.agg #[.int .i64 b, .bool p])).run Tryd.prog W = .ok (.bool (a == b && o == p)) W := by
  rw [run_eql_struct, run_equalIn_agg W 9999 _ _ _ (by kernel_rfl) (by kernel_rfl)]
  cases hab : (a == b) <;> cases o <;> cases p <;> simp [Op.eqFields, go_sem, hab]
set_option maxHeartbeats 4000000 in
set_option maxRecDepth 100000 in
theorem eqB_any (u v : Value) (l m : List Bool) (w : World) (hu : SeeB w u l) (hv : SeeB w v m) : Calls Tryd.prog 30 #[u, v] w fun e w' => e = .returned (.bool (decide (l = m))) ∧ Below w.heap.size w w' := by
  obtain ⟨ao, cap, rfl, hcap1, hcap2, hC⟩ := hu
  obtain ⟨bo, bcap, rfl, hbcap1, hbcap2, hD⟩ := hv
  have HC := Lib.hid hC
  have HD := Lib.hid hD
  clear hC hD
  by_cases hlm : l.length = m.length
  · have HNo := Lib.hid (fun i (h : l.getD i false ≠ m.getD i false) => decide_eq_false (Sk.list_ne h))
    have HYes := Lib.hid (fun h => decide_eq_true (Sk.list_eq false hlm h))
    have hq : ((l.length : Int) == (m.length : Int)) = true := by rw [hlm]; simp
    have hqn : (l.length == m.length) = true := by rw [hlm]; simp
    have HLM := Lib.hid hlm
    generalize decide (l = m) = q at *
    clear hlm
    go_enter Tryd.func30, Tryd.ntmps30
    go_wp2
    go_loopw [13] (fun s13 wr => ∃ i : Nat, i ≤ l.length ∧ s13 = .int .i64 (i : Int) ∧ Hid (∀ a, a < i → l.getD a false = m.getD a false) ∧ Hid (Below w.heap.size w wr)) (fun s13 _ => l.length - (intOf s13).toNat)
    case atStart => exact ⟨0, Nat.zero_le _, rfl, Lib.hid (fun a h => by omega), Lib.hid (Below.refl _ _)⟩
    case round =>
      obtain ⟨i, hi, rfl, HJ, HBW⟩ := hrel
      by_cases hil : i < l.length
      · obtain ⟨g, off, rfl, hg, c1⟩ := HC.out.at HBW.out hil
        have him : i < m.length := by rw [← HLM.out]; exact hil
        obtain ⟨g', off', rfl, hg', c2⟩ := HD.out.at HBW.out him
        have himz : (i : Int) < (m.length : Int) := by omega
        have HNi := Lib.hid (HNo.out i)
        have HJ2 : Hid (l.getD i false = m.getD i false → ∀ a, a < i + 1 → l.getD a false = m.getD a false) := Lib.hid (fun h a ha => by
          by_cases e : a = i
          · rw [e]; exact h
          · exact HJ.out a (by omega))
        clear HNo HYes HJ HC HD
        generalize l.getD i false = x at *
        generalize m.getD i false = y at *
        have hw2 : IntKind.i64.wrap (i : Int) = (i : Int) := IntWalk.i64_in _ (by omega)
        by_cases hxy : x = y
        · subst hxy
          have HJ3 := Lib.hid (HJ2.out rfl)
          have hxx : (x == x) = true := by simp
          clear HJ2 HNi
          go_wp2
          go_quiet (fail)
          go_wp2
          exact ⟨⟨i + 1, by omega, by first | rfl | go_num, HJ3, Lib.hid (HBW.out.trans (below_drewN _ _))⟩, by simp [intOf]; omega⟩
        · have hv := HNi.out hxy
          have hxx : (x == y) = false := by rw [beq_eq_false_iff_ne]; exact hxy
          clear HJ2 HNi
          go_wp2
          go_quiet (fail)
          go_wp2
          exact bodyPost_ret (v := .bool false) (by simp [results, Tryd.results30, go_sem]) rfl ⟨by rw [hv], HBW.out.trans (below_drewN _ _)⟩
      · obtain rfl : i = l.length := by omega
        have hv := HYes.out HJ.out
        go_wp2
        exact bodyPost_ret (v := .bool true) (by simp [results, Tryd.results30, go_sem]) rfl ⟨by rw [hv], HBW.out⟩
  · have hv : decide (l = m) = false := decide_eq_false (fun e => hlm (by rw [e]))
    have hq : ((l.length : Int) == (m.length : Int)) = false := by rw [beq_eq_false_iff_ne]; omega
    have hqn : (l.length == m.length) = false := by rw [beq_eq_false_iff_ne]; omega
    rw [hv]
    clear hv hlm
    go_enter Tryd.func30, Tryd.ntmps30
    go_wp2
    go_ret
    exact ⟨rfl, Below.refl _ _⟩
set_option maxHeartbeats 4000000 in
set_option maxRecDepth 100000 in
theorem eqK_any (u v : Value) (l m : List Sk.Str) (w : World) (hu : SeeK w u l) (hv : SeeK w v m) : Calls Tryd.prog 23 #[u, v] w fun e w' => e = .returned (.bool (decide (l = m))) ∧ Below w.heap.size w w' := by
  obtain ⟨ao, cap, rfl, hcap1, hcap2, hC⟩ := hu
  obtain ⟨bo, bcap, rfl, hbcap1, hbcap2, hD⟩ := hv
  have HC := Lib.hid hC
  have HD := Lib.hid hD
  clear hC hD
  by_cases hlm : l.length = m.length
  · have HNo := Lib.hid (fun i (h : l.getD i Sk.d0 ≠ m.getD i Sk.d0) => decide_eq_false (Sk.list_ne h))
    have HYes := Lib.hid (fun h => decide_eq_true (Sk.list_eq Sk.d0 hlm h))
    have hq : ((l.length : Int) == (m.length : Int)) = true := by rw [hlm]; simp
    have hqn : (l.length == m.length) = true := by rw [hlm]; simp
    have hqz : ((l.length : Int) != (m.length : Int)) = false := by rw [hlm]; simp
    have HLM := Lib.hid hlm
    generalize decide (l = m) = q at *
    clear hlm hq hqn
    go_enter Tryd.func23, Tryd.ntmps23
    go_wp2
    go_loopw [13] (fun s13 wr => ∃ i : Nat, i ≤ l.length ∧ s13 = .int .i64 (i : Int) ∧ Hid (∀ a, a < i → l.getD a Sk.d0 = m.getD a Sk.d0) ∧ Hid (Below w.heap.size w wr)) (fun s13 _ => l.length - (intOf s13).toNat)
    case atStart => exact ⟨0, Nat.zero_le _, rfl, Lib.hid (fun a h => by omega), Lib.hid (Below.refl _ _)⟩
    case round =>
      obtain ⟨i, hi, rfl, HJ, HBW⟩ := hrel
      by_cases hil : i < l.length
      · obtain ⟨g, off, rfl, hg, c1, c1'⟩ := HC.out.at HBW.out hil
        have him : i < m.length := by rw [← HLM.out]; exact hil
        obtain ⟨g', off', rfl, hg', c2, c2'⟩ := HD.out.at HBW.out him
        have himz : (i : Int) < (m.length : Int) := by omega
        have HNi := Lib.hid (HNo.out i)
        have HJ2 : Hid (l.getD i Sk.d0 = m.getD i Sk.d0 → ∀ a, a < i + 1 → l.getD a Sk.d0 = m.getD a Sk.d0) := Lib.hid (fun h a ha => by
          by_cases e : a = i
          · rw [e]; exact h
          · exact HJ.out a (by omega))
        clear HNo HYes HJ HC HD
        generalize l.getD i Sk.d0 = x at *
        generalize m.getD i Sk.d0 = y at *
        obtain ⟨xa, xo⟩ := x
        obtain ⟨ya, yo⟩ := y
        have hw2 : IntKind.i64.wrap (i : Int) = (i : Int) := IntWalk.i64_in _ (by omega)
        by_cases hxy : ((xa, xo) : Sk.Str) = (ya, yo)
        · obtain ⟨rfl, rfl⟩ := Prod.mk.inj hxy
          have HJ3 := Lib.hid (HJ2.out rfl)
          have hxx : (xa == xa) = true := by simp
          have hoo : (xo == xo) = true := by simp
          have hns := neqS xa xa xo xo
          rw [hxx, hoo, Bool.and_self, Bool.not_true] at hns
          clear HJ2 HNi
          go_wp2
          go_quiet (fail)
          go_wp2
          go_roundw
          case rel => exact ⟨i + 1, by omega, by first | rfl | go_num, HJ3, Lib.hid (HBW.out.trans (below_drewN _ _))⟩
          case measure => simp [intOf]; omega
        · have hv := HNi.out hxy
          have hxx : (xa == ya && xo == yo) = false := by
            rw [Bool.and_eq_false_iff, beq_eq_false_iff_ne, beq_eq_false_iff_ne]
            rcases Decidable.em (xa = ya) with h | h
            · exact .inr (fun e => hxy (by rw [h, e]))
            · exact .inl h
          have hns := neqS xa ya xo yo
          rw [hxx, Bool.not_false] at hns
          clear HJ2 HNi
          go_wp2
          go_quiet (fail)
          go_wp2
          exact bodyPost_ret (v := .bool false) (by simp [results, Tryd.results23, go_sem]) rfl ⟨by rw [hv], HBW.out.trans (below_drewN _ _)⟩
      · obtain rfl : i = l.length := by omega
        have hv := HYes.out HJ.out
        go_wp2
        exact bodyPost_ret (v := .bool true) (by simp [results, Tryd.results23, go_sem]) rfl ⟨by rw [hv], HBW.out⟩
  · have hv : decide (l = m) = false := decide_eq_false (fun e => hlm (by rw [e]))
    have hq : ((l.length : Int) == (m.length : Int)) = false := by rw [beq_eq_false_iff_ne]; omega
    have hqn : (l.length == m.length) = false := by rw [beq_eq_false_iff_ne]; omega
    rw [hv]
    clear hv hlm
    go_enter Tryd.func23, Tryd.ntmps23
    go_wp2
    go_ret
    exact ⟨rfl, Below.refl _ _⟩
end Go.Proofs.YtecfbncfhehdcaaDoor

