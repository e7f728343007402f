/- Same, and few strokes. The check of steps of the reference. The way of an actuator in a step, of both. Sequences: plain facts. A range over an iterator that writes a variable of its own between two rounds: what is asked of the iterator, and the law for its caller. -/
import Derived.Test.YtjpbccpleflkhaaDoorG06
import Derived.Test.YtjpbccpleflkhaaDoorG02
import Derived.RangeFuncNested
import Derived.RangeFuncBound
import Derived.RangeFuncCalls
import Derived.RangeFuncLeaves
import Derived.RangeFuncBox
import Derived.Shelf.Abstract
import Derived.Test.YtjpbccpleflkhaaDoorG01
namespace Sk
def sameV (l : List Str) (n : Int) (m : List Str) (k : Int) : Bool := decide (n = k) && decide (l = m)
end Sk
namespace Go.Proofs.YtjpbccpleflkhaaDoor
open Go.RowKit
set_option maxHeartbeats 4000000 in
set_option maxRecDepth 100000 in
theorem rSmS_any (u v : Value) (l m : List Sk.Str) (w : World) (hu : SeeK w u l) (hv : SeeK w v m) : Calls Tryd.prog 91 #[u, v] w fun e w' => e = .returned (.bool (decide (l = m))) ∧ Below w.heap.size w w' := by
  obtain ⟨ao, cap, rfl, hcap1, hcap2, hC⟩ := hu
  obtain ⟨bo, bcap, rfl, hbcap1, hbcap2, hD⟩ := hv
  have HC := Lib.hid hC
  have HD := Lib.hid hD
  clear hC hD
  by_cases hlm : l.length = m.length
  · have HNo := Lib.hid (fun i (h : l.getD i Sk.d0 ≠ m.getD i Sk.d0) => decide_eq_false (Sk.list_ne h))
    have HYes := Lib.hid (fun h => decide_eq_true (Sk.list_eq Sk.d0 hlm h))
    have hq : ((l.length : Int) == (m.length : Int)) = true := by rw [hlm]; simp
    have hqn : (l.length == m.length) = true := by rw [hlm]; simp
    have hqz : ((l.length : Int) != (m.length : Int)) = false := by rw [hlm]; simp
    have HLM := Lib.hid hlm
    generalize decide (l = m) = q at *
    clear hlm hq hqn
    go_enter Tryd.func91, Tryd.ntmps91
    go_wp2
    go_loopw [5] (fun s5 wr => ∃ i : Nat, i ≤ l.length ∧ s5 = .int .i64 (i : Int) ∧ Hid (∀ a, a < i → l.getD a Sk.d0 = m.getD a Sk.d0) ∧ Hid (Below w.heap.size w wr)) (fun s5 _ => l.length - (intOf s5).toNat)
    case atStart => exact ⟨0, Nat.zero_le _, rfl, Lib.hid (fun a h => by omega), Lib.hid (Below.refl _ _)⟩
    case round =>
      obtain ⟨i, hi, rfl, HJ, HBW⟩ := hrel
      by_cases hil : i < l.length
      · obtain ⟨g, off, rfl, hg, c1, c1'⟩ := HC.out.at HBW.out hil
        have him : i < m.length := by rw [← HLM.out]; exact hil
        obtain ⟨g', off', rfl, hg', c2, c2'⟩ := HD.out.at HBW.out him
        have himz : (i : Int) < (m.length : Int) := by omega
        have HNi := Lib.hid (HNo.out i)
        have HJ2 : Hid (l.getD i Sk.d0 = m.getD i Sk.d0 → ∀ a, a < i + 1 → l.getD a Sk.d0 = m.getD a Sk.d0) := Lib.hid (fun h a ha => by
          by_cases e : a = i
          · rw [e]; exact h
          · exact HJ.out a (by omega))
        clear HNo HYes HJ HC HD
        generalize l.getD i Sk.d0 = x at *
        generalize m.getD i Sk.d0 = y at *
        obtain ⟨xa, xo⟩ := x
        obtain ⟨ya, yo⟩ := y
        have hw2 : IntKind.i64.wrap (i : Int) = (i : Int) := IntWalk.i64_in _ (by omega)
        by_cases hxy : ((xa, xo) : Sk.Str) = (ya, yo)
        · obtain ⟨rfl, rfl⟩ := Prod.mk.inj hxy
          have HJ3 := Lib.hid (HJ2.out rfl)
          have hxx : (xa == xa) = true := by simp
          have hoo : (xo == xo) = true := by simp
          have hns := neqS xa xa xo xo
          rw [hxx, hoo, Bool.and_self, Bool.not_true] at hns
          clear HJ2 HNi
          go_wp2
          go_quiet (fail)
          go_wp2
          go_roundw
          case rel => exact ⟨i + 1, by omega, by first | rfl | go_num, HJ3, Lib.hid (HBW.out.trans (below_drewN _ _))⟩
          case measure => simp [intOf]; omega
        · have hv := HNi.out hxy
          have hxx : (xa == ya && xo == yo) = false := by
            rw [Bool.and_eq_false_iff, beq_eq_false_iff_ne, beq_eq_false_iff_ne]
            rcases Decidable.em (xa = ya) with h | h
            · exact .inr (fun e => hxy (by rw [h, e]))
            · exact .inl h
          have hns := neqS xa ya xo yo
          rw [hxx, Bool.not_false] at hns
          clear HJ2 HNi
          go_wp2
          go_quiet (fail)
          go_wp2
          exact bodyPost_ret (v := .bool false) (by simp [results, Tryd.results91, go_sem]) rfl ⟨by rw [hv], HBW.out.trans (below_drewN _ _)⟩
      · obtain rfl : i = l.length := by omega
        have hv := HYes.out HJ.out
        go_wp2
        exact bodyPost_ret (v := .bool true) (by simp [results, Tryd.results91, go_sem]) rfl ⟨by rw [hv], HBW.out⟩
  · have hv : decide (l = m) = false := decide_eq_false (fun e => hlm (by rw [e]))
    have hq : ((l.length : Int) == (m.length : Int)) = false := by rw [beq_eq_false_iff_ne]; omega
    have hqn : (l.length == m.length) = false := by rw [beq_eq_false_iff_ne]; omega
    rw [hv]
    clear hv hlm
    go_enter Tryd.func91, Tryd.ntmps91
    go_wp2
    go_ret
    exact ⟨rfl, Below.refl _ _⟩
set_option maxRecDepth 100000 in
theorem sSame_any (u v : Value) (l m : List Sk.Str) (n k : Int) (w : World) (hu : SeeK w u l) (hv : SeeK w v m) : Calls Tryd.prog 66 #[.agg #[u, .int .i64 n], .agg #[v, .int .i64 k]] w fun e w' => e = .returned (.bool (Sk.sameV l n m k)) ∧ Below w.heap.size w w' := by
  have C := fun W (h1 : SeeK W u l) (h2 : SeeK W v m) => Lib.hid (eqK_any u v l m W h1 h2)
  have HU := Lib.hid hu
  have HV := Lib.hid hv
  obtain ⟨ao, cap, rfl, -⟩ := hu
  obtain ⟨bo, bcap, rfl, -⟩ := hv
  obtain ⟨P0, L0, z0⟩ := boxP_new w (.slice ao l.length cap) (.int .i64 n) 70
  obtain ⟨P1, L1, z1⟩ := boxP_new (w.alloc (.cells #[.slice ao l.length cap, .int .i64 n] 70)) (.slice bo m.length bcap) (.int .i64 k) 70
  rw [z0] at P1
  have HB := Lib.hid (below_nxt L0 L1)
  have HUX := Lib.hid (HU.out.step HB.out)
  have HVX := Lib.hid (HV.out.step HB.out)
  obtain ⟨p0, p1, p2⟩ := P0.step L1
  obtain ⟨q0, q1, q2⟩ := P1
  clear P0 L0 L1 z0 z1
  unfold Sk.sameV
  by_cases h : n = k
  · subst h
    rw [decide_eq_true rfl, Bool.true_and]
    have hnn : (n == n) = true := by simp
    go_enter Tryd.func66, Tryd.ntmps66
    go_wp2_with fail
    refine ((C _ HUX.out HVX.out).out).mono ?_
    rintro e w1 ⟨rfl, hb1⟩
    have HB1 := Lib.hid (below_nxt HB.out hb1)
    clear hb1
    go_wp2
    go_ret
    exact ⟨rfl, HB1.out⟩
  · rw [decide_eq_false h, Bool.false_and]
    have hnn : (n == k) = false := by rw [beq_eq_false_iff_ne]; exact h
    go_enter Tryd.func66, Tryd.ntmps66
    go_wp2
    go_ret
    exact ⟨rfl, HB.out⟩
set_option maxRecDepth 100000 in
theorem rSame_any (u v : Value) (l m : List Sk.Str) (n k : Int) (w : World) (hu : SeeK w u l) (hv : SeeK w v m) : Calls Tryd.prog 57 #[.agg #[u, .int .i64 n], .agg #[v, .int .i64 k]] w fun e w' => e = .returned (.bool (Sk.sameV l n m k)) ∧ Below w.heap.size w w' := by
  have C := fun W (h1 : SeeK W u l) (h2 : SeeK W v m) => Lib.hid (rSmS_any u v l m W h1 h2)
  have HU := Lib.hid hu
  have HV := Lib.hid hv
  obtain ⟨ao, cap, rfl, -⟩ := hu
  obtain ⟨bo, bcap, rfl, -⟩ := hv
  obtain ⟨P0, L0, z0⟩ := boxP_new w (.slice ao l.length cap) (.int .i64 n) 70
  obtain ⟨P1, L1, z1⟩ := boxP_new (w.alloc (.cells #[.slice ao l.length cap, .int .i64 n] 70)) (.slice bo m.length bcap) (.int .i64 k) 70
  rw [z0] at P1
  have HB := Lib.hid (below_nxt L0 L1)
  have HUX := Lib.hid (HU.out.step HB.out)
  have HVX := Lib.hid (HV.out.step HB.out)
  obtain ⟨p0, p1, p2⟩ := P0.step L1
  obtain ⟨q0, q1, q2⟩ := P1
  clear P0 L0 L1 z0 z1
  unfold Sk.sameV
  by_cases h : n = k
  · subst h
    rw [decide_eq_true rfl, Bool.true_and]
    have hnn : (n == n) = true := by simp
    go_enter Tryd.func57, Tryd.ntmps57
    go_wp2_with fail
    refine ((C _ HUX.out HVX.out).out).mono ?_
    rintro e w1 ⟨rfl, hb1⟩
    have HB1 := Lib.hid (below_nxt HB.out hb1)
    clear hb1
    go_wp2
    go_ret
    exact ⟨rfl, HB1.out⟩
  · rw [decide_eq_false h, Bool.false_and]
    have hnn : (n == k) = false := by rw [beq_eq_false_iff_ne]; exact h
    go_enter Tryd.func57, Tryd.ntmps57
    go_wp2
    go_ret
    exact ⟨rfl, HB.out⟩
end Go.Proofs.YtjpbccpleflkhaaDoor

namespace Go.Proofs.YtjpbccpleflkhaaDoor
open Go.RowKit
set_option maxHeartbeats 8000000 in
set_option maxRecDepth 100000 in
theorem rStp_any (v : Value) (l : List Sk.Str) (n : Int) (w : World) (hs : SeeK w v l) : Calls Tryd.prog 90 #[.agg #[v, .int .i64 n]] w fun e w' => e = .returned (.int .i64 (Sk.chkP l n)) ∧ Below w.heap.size w w' := by
  have HS := Lib.hid hs
  obtain ⟨ao, cap, rfl, hcap1, hcap2, hC⟩ := hs
  have HC := Lib.hid hC
  obtain ⟨P0, L0, z0⟩ := boxP_new w (.slice ao l.length cap) (.int .i64 n) 70
  have HL := Lib.hid L0
  have HP := Lib.hid P0
  clear hC L0 P0 z0
  by_cases h1 : l.length = 0
  · have hv : Sk.chkP l n = 13 := if_pos h1
    rw [hv]
    have h1' : ((l.length : Int) == 0) = true := by simpa using h1
    obtain ⟨p0, p1, p2⟩ := HP.out
    clear hv h1
    go_enter Tryd.func90, Tryd.ntmps90
    go_wp2
    all_goals first | (go_ret; exact ⟨rfl, HL.out⟩) | (exfalso; simp_all)
  by_cases h2 : 6 < l.length
  · have hv : Sk.chkP l n = 5 := by unfold Sk.chkP; rw [if_neg h1, if_pos h2]
    rw [hv]
    have h1' : ((l.length : Int) == 0) = false := by simpa using h1
    have h2' : decide (6 < (l.length : Int)) = true := decide_eq_true (by omega)
    obtain ⟨p0, p1, p2⟩ := HP.out
    clear hv h1
    go_enter Tryd.func90, Tryd.ntmps90
    go_wp2
    all_goals first | (go_ret; exact ⟨rfl, HL.out⟩) | (exfalso; simp_all)
  have hv : Sk.chkP l n = if Sk.chkL l = 0 then (if Sk.tim n then 0 else 2) else Sk.chkL l := by unfold Sk.chkP; rw [if_neg h1, if_neg h2]
  have HNo := Lib.hid (fun i (hi : i < l.length) (hb : ∀ a, a < i → Sk.celE l a = 0) (h : Sk.celE l i ≠ 0) => show Sk.chkP l n = Sk.celE l i by
    rw [hv]
    have : Sk.chkL l = Sk.celE l i := Sk.fe_stop hb h hi
    rw [this, if_neg h])
  have HYes := Lib.hid (fun (hb : ∀ a, a < l.length → Sk.celE l a = 0) => show Sk.chkP l n = if Sk.tim n then 0 else 2 by
    rw [hv]
    have : Sk.chkL l = 0 := Sk.fe_all hb
    rw [this, if_pos rfl])
  have h1' : ((l.length : Int) == 0) = false := by simpa using h1
  have h2' : decide (6 < (l.length : Int)) = false := decide_eq_false (by omega)
  have hl6 : l.length ≤ 6 := by omega
  have HE : Hid (∀ i, Sk.celE l i = if Sk.act (l.getD i Sk.d0).1 = true then (if i = 0 then 0 else Sk.ordE (l.getD (i - 1) Sk.d0).1 (l.getD i Sk.d0).1) else 2) := Lib.hid (fun i => rfl)
  clear hv h1 h2
  generalize Sk.chkP l n = q at *
  generalize Sk.celE l = ce at *
  obtain ⟨p0, p1, p2⟩ := HP.out
  go_enter Tryd.func90, Tryd.ntmps90
  go_wp2
  clear p0 p1 p2
  go_loopw [3] (fun s3 wr => ∃ i : Nat, i ≤ l.length ∧ s3 = .int .i64 (i : Int) ∧ Hid (∀ a, a < i → ce a = 0) ∧ Hid (Below w.heap.size w wr) ∧ Hid (BoxP wr w.heap.size (.slice ao l.length cap) (.int .i64 n))) (fun s3 _ => l.length - (intOf s3).toNat)
  case atStart => exact ⟨0, Nat.zero_le _, rfl, Lib.hid (fun a h => by omega), HL, HP⟩
  case round =>
    clear HP HL
    obtain ⟨i, hi, rfl, HJ, HBW, HP⟩ := hrel
    by_cases hil : i < l.length
    · obtain ⟨g, off, rfl, hg, c1, -⟩ := HC.out.at HBW.out hil
      have HEi := Lib.hid (HE.out i)
      have HNi := Lib.hid (HNo.out i hil HJ.out)
      have HJ2 : Hid (ce i = 0 → ∀ a, a < i + 1 → ce a = 0) := Lib.hid (fun h a ha => by
        by_cases e : a = i
        · rw [e]; exact h
        · exact HJ.out a (by omega))
      have HAT := HC
      obtain ⟨p0, p1, p2⟩ := HP.out
      have hwi : IntKind.i64.wrap (i : Int) = (i : Int) := IntWalk.i64_in _ (by omega)
      clear HNo HYes HE hi
      generalize hx : (l.getD i Sk.d0).1 = x at *
      generalize ce i = cei at *
      go_wp2_with fail
      refine (rAct_any x _).mono ?_
      rintro e w1 ⟨rfl, hb1⟩
      have HB1 := Lib.hid (below_nxt HBW.out hb1)
      have HPA := Lib.hid (HP.out.step hb1)
      clear hb1 c1 HP p0 p1 p2
      cases hact : Sk.act x
      · rw [hact] at HEi
        have hc0 : cei = 2 := HEi.out
        have hq := HNi.out (by omega)
        subst hc0
        subst hq
        clear HEi HNi HJ2 HJ hx
        go_wp2
        go_ret
        exact ⟨rfl, HB1.out⟩
      · rw [hact] at HEi
        by_cases hi0 : i = 0
        · have hc0 : cei = 0 := by rw [HEi.out, if_pos rfl, if_pos hi0]
          have HJ3 := Lib.hid (HJ2.out hc0)
          subst hi0
          clear HEi HNi HJ2 HJ hx hact hc0
          go_wp2
          go_quiet (fail)
          go_wp2
          go_quiet (fail)
          go_wp2
          exact ⟨⟨0 + 1, by omega, by first | rfl | go_num, HJ3, Lib.hid (HB1.out.trans (below_drewN _ _)), Lib.hid (HPA.out.step (below_drewN _ _))⟩, by simp [intOf]; omega⟩
        · obtain ⟨k, rfl⟩ : ∃ k, i = k + 1 := ⟨i - 1, by omega⟩
          obtain ⟨g', off', he, -, d1, -⟩ := HAT.out.at HB1.out (i := k) (by omega)
          simp only [Option.some.injEq, Addr.mk.injEq, and_true] at he
          obtain ⟨rfl, rfl⟩ := he
          obtain ⟨g', off', he, -, c1, -⟩ := HAT.out.at HB1.out (i := k + 1) hil
          simp only [Option.some.injEq, Addr.mk.injEq, and_true] at he
          obtain ⟨rfl, rfl⟩ := he
          rw [hx] at c1
          have hc0 : cei = Sk.ordE (l.getD k Sk.d0).1 x := by rw [HEi.out, if_pos rfl, if_neg hi0, Nat.add_sub_cancel]
          unfold Sk.ordE at hc0
          clear HEi hi0 hx hact
          generalize (l.getD k Sk.d0).1 = y at *
          obtain ⟨p0, p1, p2⟩ := HPA.out
          have hw1 : IntKind.i64.wrap ((k : Int) + 1 - 1) = (k : Int) := by rw [show (k : Int) + 1 - 1 = (k : Int) by omega]; exact IntWalk.i64_in _ (by omega)
          have hw2 : IntKind.i64.wrap (k : Int) = (k : Int) := IntWalk.i64_in _ (by omega)
          have hkl : (k : Int) < (l.length : Int) := by omega
          have hk1l : (k : Int) + 1 < (l.length : Int) := by omega
          by_cases hxy : x = y
          · rw [if_pos hxy] at hc0
            have hq := HNi.out (by omega)
            have hxyt : (x == y) = true := by simpa using hxy
            subst hc0
            subst hq
            clear HNi HJ2 HJ
            go_wp2
            go_quiet (fail)
            go_wp2
            go_ret
            first | exact ⟨rfl, HB1.out.trans (below_drewN _ _)⟩ | exact ⟨rfl, (HB1.out.trans (below_drewN _ _)).trans (below_drewN _ _)⟩
          · rw [if_neg hxy] at hc0
            have hxyt : (x == y) = false := by simpa using hxy
            by_cases hlt : x < y
            · rw [if_pos hlt] at hc0
              have hq := HNi.out (by omega)
              have hltt : decide (x < y) = true := decide_eq_true hlt
              subst hc0
              subst hq
              clear HNi HJ2 HJ
              go_wp2
              go_quiet (fail)
              go_wp2
              go_quiet (fail)
              go_wp2
              go_ret
              first | exact ⟨rfl, HB1.out.trans (below_drewN _ _)⟩ | exact ⟨rfl, (HB1.out.trans (below_drewN _ _)).trans (below_drewN _ _)⟩
            · rw [if_neg hlt] at hc0
              have HJ3 := Lib.hid (HJ2.out hc0)
              have hltt : decide (x < y) = false := decide_eq_false hlt
              clear HNi HJ2 HJ hc0
              go_wp2
              go_quiet (fail)
              go_wp2
              go_quiet (fail)
              go_wp2
              exact ⟨⟨k + 1 + 1, by omega, by first | rfl | go_num, HJ3, Lib.hid (HB1.out.trans (below_drewN _ _)), Lib.hid (HPA.out.step (below_drewN _ _))⟩, by simp [intOf]; omega⟩
    · obtain rfl : i = l.length := by omega
      have hq := HYes.out HJ.out
      have HT := fun W => Lib.hid (rTime_any n W)
      clear HNo HYes HE HJ
      obtain ⟨p0, p1, p2⟩ := HP.out
      have htm : Tm.isT n = Sk.tim n := by unfold Tm.isT Sk.tim; rw [Bool.decide_and]
      rw [htm] at HT
      cases htn : Sk.tim n <;> rw [htn] at HT hq
      · rw [if_neg (by decide)] at hq
        subst hq
        go_wp2_with fail
        refine ((HT _).out).mono ?_
        rintro e w2 ⟨rfl, rfl⟩
        go_wp2
        go_ret
        exact ⟨rfl, HBW.out⟩
      · rw [if_pos rfl] at hq
        subst hq
        go_wp2_with fail
        refine ((HT _).out).mono ?_
        rintro e w2 ⟨rfl, rfl⟩
        go_wp2
        go_ret
        exact ⟨rfl, HBW.out⟩
end Go.Proofs.YtjpbccpleflkhaaDoor

namespace Sk
/-- The way of an actuator. -/
def wayV : List Str → Int → Int
  | [], _ => 0
  | x :: l, k => if x.1 = k then (if x.2 then 1 else -1) else wayV l k
theorem way_at {k : Int} : ∀ {l : List Str} {i : Nat}, (∀ a, a < i → (l.getD a d0).1 ≠ k) → i < l.length → (l.getD i d0).1 = k → wayV l k = if (l.getD i d0).2 then 1 else -1
  | [], i, _, hi, _ => by simp at hi
  | x :: l, 0, _, _, h => by
    have h' : x.1 = k := h
    show (if x.1 = k then _ else _) = _
    rw [if_pos h']; rfl
  | x :: l, i + 1, hb, hi, h => by
    have h0 : x.1 ≠ k := hb 0 (by omega)
    show (if x.1 = k then _ else _) = _
    rw [if_neg h0]
    exact way_at (fun a ha => hb (a + 1) (by omega)) (by simpa using hi) h
theorem way_no {k : Int} : ∀ {l : List Str}, (∀ a, a < l.length → (l.getD a d0).1 ≠ k) → wayV l k = 0
  | [], _ => rfl
  | x :: l, hb => by
    have h0 : x.1 ≠ k := hb 0 (by simp)
    show (if x.1 = k then _ else _) = _
    rw [if_neg h0]
    exact way_no (fun a ha => hb (a + 1) (by simpa using ha))
def hasV (l : List Str) (n k : Int) : Int × Int := if chkP l n = 0 then (if chkS k = 0 then (wayV l k, 0) else (0, chkS k)) else (0, chkP l n)
end Sk
namespace Go.Proofs.YtjpbccpleflkhaaDoor
open Go.RowKit
def HasP (q : Int × Int) (w : World) (e : Ending) (w' : World) : Prop := e = .returned (.tuple #[.int .i64 q.1, .int .i64 q.2]) ∧ Below w.heap.size w w'
set_option maxHeartbeats 8000000 in
set_option maxRecDepth 100000 in
theorem rWay_any (v : Value) (l : List Sk.Str) (n k : Int) (w : World) (hs : SeeK w v l) : Calls Tryd.prog 94 #[.agg #[v, .int .i64 n], .int .i64 k] w fun e w' => e = .returned (.int .i64 (Sk.wayV l k)) ∧ Below w.heap.size w w' := by
  obtain ⟨ao, cap, rfl, hcap1, hcap2, hC⟩ := hs
  have HC := Lib.hid hC
  obtain ⟨P0, L0, z0⟩ := boxP_new w (.slice ao l.length cap) (.int .i64 n) 70
  have HL := Lib.hid L0
  have HP := Lib.hid P0
  clear hC L0 P0 z0
  have HAt := Lib.hid (fun i hb hi h => Sk.way_at (l := l) (k := k) (i := i) hb hi h)
  have HNone := Lib.hid (fun hb => Sk.way_no (l := l) (k := k) hb)
  generalize Sk.wayV l k = q at *
  go_enter Tryd.func94, Tryd.ntmps94
  go_wp2
  go_loopw [5] (fun s5 wr => ∃ i : Nat, i ≤ l.length ∧ s5 = .int .i64 (i : Int) ∧ Hid (∀ a, a < i → (l.getD a Sk.d0).1 ≠ k) ∧ Hid (Below w.heap.size w wr) ∧ Hid (BoxP wr w.heap.size (.slice ao l.length cap) (.int .i64 n))) (fun s5 _ => l.length - (intOf s5).toNat)
  case atStart => exact ⟨0, Nat.zero_le _, rfl, Lib.hid (fun a h => by omega), HL, HP⟩
  case round =>
    clear HP HL
    obtain ⟨i, hi, rfl, HJ, HBW, HP⟩ := hrel
    obtain ⟨p0, p1, p2⟩ := HP.out
    by_cases hil : i < l.length
    · obtain ⟨g, off, rfl, hg, c1, c2⟩ := HC.out.at HBW.out hil
      have HAi := Lib.hid (HAt.out i HJ.out hil)
      have HJ2 : Hid ((l.getD i Sk.d0).1 ≠ k → ∀ a, a < i + 1 → (l.getD a Sk.d0).1 ≠ k) := Lib.hid (fun h a ha => by
        by_cases e : a = i
        · rw [e]; exact h
        · exact HJ.out a (by omega))
      have hwi : IntKind.i64.wrap (i : Int) = (i : Int) := IntWalk.i64_in _ (by omega)
      clear HAt HNone HJ
      generalize (l.getD i Sk.d0).1 = x at *
      generalize (l.getD i Sk.d0).2 = o at *
      by_cases hxk : x = k
      · have hq := HAi.out hxk
        have hxt : (x == k) = true := by simpa using hxk
        clear HAi HJ2
        cases o
        · rw [if_neg (by decide)] at hq
          subst hq
          go_wp2
          go_ret
          exact ⟨rfl, HBW.out⟩
        · rw [if_pos rfl] at hq
          subst hq
          go_wp2
          go_ret
          exact ⟨rfl, HBW.out⟩
      · have HJ3 := Lib.hid (HJ2.out hxk)
        have hxt : (x == k) = false := by simpa using hxk
        clear HAi HJ2
        go_wp2
        exact ⟨⟨i + 1, by omega, by first | rfl | go_num, HJ3, HBW, HP⟩, by simp [intOf]; omega⟩
    · obtain rfl : i = l.length := by omega
      have hq := HNone.out HJ.out
      subst hq
      go_wp2
      go_ret
      exact ⟨rfl, HBW.out⟩
set_option maxHeartbeats 8000000 in
set_option maxRecDepth 100000 in
theorem sHas_any (v : Value) (l : List Sk.Str) (n k : Int) (w : World) (hs : SeeK w v l) : Calls Tryd.prog 39 #[.agg #[v, .int .i64 n], .int .i64 k] w (HasP (Sk.hasV l n k) w) := by
  have CC := fun W (h : SeeK W v l) => Lib.hid (sStp_any v l n W h)
  have HS := Lib.hid hs
  obtain ⟨ao, cap, rfl, hcap1, hcap2, hC⟩ := hs
  have HC := Lib.hid hC
  obtain ⟨P0, L0, z0⟩ := boxP_new w (.slice ao l.length cap) (.int .i64 n) 70
  have HL := Lib.hid L0
  have HP := Lib.hid P0
  have HSX := Lib.hid (HS.out.step L0)
  clear hC L0 P0 z0
  obtain ⟨p0, p1, p2⟩ := HP.out
  by_cases h1 : Sk.chkP l n = 0
  · have hv : Sk.hasV l n k = if Sk.chkS k = 0 then (Sk.wayV l k, 0) else (0, Sk.chkS k) := if_pos h1
    rw [h1] at CC
    rw [hv]
    have CA := fun W => Lib.hid (sChk_any k false W)
    by_cases hck : Sk.chkS k = 0
    · rw [if_pos hck]
      rw [hck] at CA
      have HAt := Lib.hid (fun i hb hi h => Sk.way_at (l := l) (k := k) (i := i) hb hi h)
      have HNone := Lib.hid (fun hb => Sk.way_no (l := l) (k := k) hb)
      clear hv h1 hck
      generalize Sk.wayV l k = q at *
      go_enter Tryd.func39, Tryd.ntmps39
      go_wp2_with fail
      refine ((CC _ HSX.out).out).mono ?_
      rintro e w1 ⟨rfl, hb1⟩
      have HB1 := Lib.hid (below_nxt HL.out hb1)
      have HP1 := Lib.hid (HP.out.step hb1)
      clear hb1 p0 p1 p2 HP CC HL
      obtain ⟨p0, p1, p2⟩ := HP1.out
      go_wp2_with fail
      refine ((CA _).out).mono ?_
      rintro e w2 ⟨rfl, hb2⟩
      have HB2 := Lib.hid (below_nxt HB1.out hb2)
      obtain ⟨q0, q1, q2⟩ := HP1.out.step hb2
      clear hb2 p0 p1 p2 HP1 CA HB1
      go_wp2
      clear q0 q1 q2
      go_loopw [24] (fun s24 wr => ∃ i : Nat, i ≤ l.length ∧ s24 = .int .i64 (i : Int) ∧ Hid (∀ a, a < i → (l.getD a Sk.d0).1 ≠ k) ∧ Hid (Below w.heap.size w wr)) (fun s24 _ => l.length - (intOf s24).toNat)
      case atStart => exact ⟨0, Nat.zero_le _, rfl, Lib.hid (fun a h => by omega), HB2⟩
      case round =>
        clear HB2
        obtain ⟨i, hi, rfl, HJ, HBW⟩ := hrel
        by_cases hil : i < l.length
        · obtain ⟨g, off, rfl, hg, c1, c2⟩ := HC.out.at HBW.out hil
          have HAi := Lib.hid (HAt.out i HJ.out hil)
          have HJ2 : Hid ((l.getD i Sk.d0).1 ≠ k → ∀ a, a < i + 1 → (l.getD a Sk.d0).1 ≠ k) := Lib.hid (fun h a ha => by
            by_cases e : a = i
            · rw [e]; exact h
            · exact HJ.out a (by omega))
          clear HAt HNone HJ
          generalize (l.getD i Sk.d0).1 = x at *
          generalize (l.getD i Sk.d0).2 = o at *
          obtain ⟨P1, L1, z1⟩ := boxP_new wr (.int .i64 x) (.bool o) 47
          have HB3 := Lib.hid (below_nxt HBW.out L1)
          obtain ⟨p0, p1, p2⟩ := P1
          clear L1 z1
          by_cases hxk : x = k
          · have hq := HAi.out hxk
            have hxt : (x == k) = true := by simpa using hxk
            clear HAi HJ2
            cases o
            · rw [if_neg (by decide)] at hq
              subst hq
              go_wp2
              exact bodyPost_ret (v := .tuple #[.int .i64 (-1), .int .i64 0]) (by simp [results, Tryd.results39, go_sem]) rfl ⟨rfl, by rw [← hxk]; exact HB3.out⟩
            · rw [if_pos rfl] at hq
              subst hq
              go_wp2
              exact bodyPost_ret (v := .tuple #[.int .i64 1, .int .i64 0]) (by simp [results, Tryd.results39, go_sem]) rfl ⟨rfl, by rw [← hxk]; exact HB3.out⟩
          · have HJ3 := Lib.hid (HJ2.out hxk)
            have hxt : (x == k) = false := by simpa using hxk
            clear HAi HJ2
            go_wp2
            exact ⟨⟨i + 1, by omega, by first | rfl | go_num, HJ3, HB3⟩, by simp [intOf]; omega⟩
        · obtain rfl : i = l.length := by omega
          have hq := HNone.out HJ.out
          subst hq
          go_wp2
          exact bodyPost_ret (v := .tuple #[.int .i64 0, .int .i64 0]) (by simp [results, Tryd.results39, go_sem]) rfl ⟨rfl, HBW.out⟩
    · rw [if_neg hck]
      generalize Sk.chkS k = d at *
      have hd : (d == 0) = false := by rw [beq_eq_false_iff_ne]; exact hck
      clear hv h1 hck
      go_enter Tryd.func39, Tryd.ntmps39
      go_wp2_with fail
      refine ((CC _ HSX.out).out).mono ?_
      rintro e w1 ⟨rfl, hb1⟩
      have HB1 := Lib.hid (below_nxt HL.out hb1)
      clear hb1
      go_wp2_with fail
      refine ((CA _).out).mono ?_
      rintro e w2 ⟨rfl, hb2⟩
      have HB2 := Lib.hid (below_nxt HB1.out hb2)
      clear hb2
      go_wp2
      exact bodyPost_ret (v := .tuple #[.int .i64 0, .int .i64 d]) (by simp [results, Tryd.results39, go_sem]) rfl ⟨rfl, HB2.out⟩
  · have hv : Sk.hasV l n k = (0, Sk.chkP l n) := if_neg h1
    rw [hv]
    generalize Sk.chkP l n = c at *
    have hc : (c == 0) = false := by rw [beq_eq_false_iff_ne]; exact h1
    clear hv h1
    go_enter Tryd.func39, Tryd.ntmps39
    go_wp2_with fail
    refine ((CC _ HSX.out).out).mono ?_
    rintro e w1 ⟨rfl, hb1⟩
    have HB1 := Lib.hid (below_nxt HL.out hb1)
    clear hb1
    go_wp2
    exact bodyPost_ret (v := .tuple #[.int .i64 0, .int .i64 c]) (by simp [results, Tryd.results39, go_sem]) rfl ⟨rfl, HB1.out⟩
end Go.Proofs.YtjpbccpleflkhaaDoor

namespace Sq
open Sk
/-- The ends behind the first k steps, of so many actuators. -/
def bh (n : Nat) (L : List Stp) (k : Nat) : List Bool := (L.take k).foldl (fun E x => aft x.1 E) (List.replicate n false)
theorem bh_zero (n : Nat) (L : List Stp) : bh n L 0 = List.replicate n false := rfl
theorem bh_succ (n : Nat) {L : List Stp} {k : Nat} (h : k < L.length) : bh n L (k + 1) = aft (L.getD k t0).1 (bh n L k) := by
  unfold bh
  rw [List.take_succ_eq_append_getElem h, List.foldl_append, List.getD_eq_getElem?_getD, List.getElem?_eq_getElem h]
  rfl
theorem fold_len (L : List Stp) : ∀ E : List Bool, (L.foldl (fun E x => aft x.1 E) E).length = E.length := by
  induction L with
  | nil => intro E; rfl
  | cons x L ih => intro E; rw [List.foldl_cons, ih, aft_len]
theorem bh_len (n : Nat) (L : List Stp) (k : Nat) : (bh n L k).length = n := by unfold bh; rw [fold_len, List.length_replicate]
theorem aft_cut (n : Nat) (l : List Str) : ∀ E : List Bool, aft l (E.take n) = (aft l E).take n := by
  unfold aft
  induction l with
  | nil => intro E; rfl
  | cons x l ih => intro E; rw [List.foldl_cons, List.foldl_cons, ← ih]; congr 1; unfold put1; rw [List.take_set]
theorem fold_cut (n : Nat) (L : List Stp) : ∀ E : List Bool, L.foldl (fun E x => aft x.1 E) (E.take n) = (L.foldl (fun E x => aft x.1 E) E).take n := by
  induction L with
  | nil => intro E; rfl
  | cons x L ih => intro E; rw [List.foldl_cons, List.foldl_cons, ← ih, aft_cut]
theorem bh_cut {n m : Nat} (h : n ≤ m) (L : List Stp) (k : Nat) : bh n L k = (bh m L k).take n := by
  unfold bh
  rw [← fold_cut, List.take_replicate, Nat.min_eq_left h]
/-- Are all actuators below a number? -/
def low (n : Nat) (l : List Str) : Bool := l.all fun x => decide (x.1 < (n : Int))
theorem low_iff {n : Nat} {l : List Str} : low n l = true ↔ ∀ i, i < l.length → (l.getD i d0).1 < (n : Int) := by
  unfold low
  rw [List.all_eq_true]
  constructor
  · intro h i hi
    rw [List.getD_eq_getElem?_getD, List.getElem?_eq_getElem hi]
    simpa using h _ (List.getElem_mem hi)
  · intro h x hx
    obtain ⟨i, hi, rfl⟩ := List.mem_iff_getElem.1 hx
    have := h i hi
    rw [List.getD_eq_getElem?_getD, List.getElem?_eq_getElem hi] at this
    simpa using this
theorem low_no {n : Nat} {l : List Str} {i : Nat} (hi : i < l.length) (h : ¬ (l.getD i d0).1 < (n : Int)) : low n l = false := by
  cases g : low n l with
  | false => rfl
  | true => exact absurd (low_iff.1 g i hi) h
theorem sui_cut {n : Nat} {l : List Str} {E : List Bool} (hn : n ≤ E.length) (hl : low n l = true) (hp : ∀ i, i < l.length → 0 ≤ (l.getD i d0).1) : sui l (E.take n) = sui l E := by
  apply bool_eq
  rw [sui_iff, sui_iff]
  refine forall_congr' fun i => forall_congr' fun hi => ?_
  have h1 := low_iff.1 hl i hi
  have h2 := hp i hi
  unfold sui1
  rw [List.length_take, Nat.min_eq_left hn]
  have h3 : ∀ m, m < n → (E.take n).getD m false = E.getD m false := fun m hm => by
    rw [List.getD_eq_getElem?_getD, List.getD_eq_getElem?_getD, List.getElem?_take_of_lt hm]
  rw [h3 _ (by omega), decide_eq_true h1, decide_eq_true (show (l.getD i d0).1 < (E.length : Int) by omega)]
/-- The error of a step. -/
def stE (n : Nat) (L : List Stp) (k : Nat) : Int :=
  if chkP (L.getD k t0).1 (L.getD k t0).2 = 0 then (if low n (L.getD k t0).1 then (if sui (L.getD k t0).1 (bh n L k) then 0 else 14) else 6) else chkP (L.getD k t0).1 (L.getD k t0).2
/-- Does an actuator move in some step? -/
def mvs (L : List Stp) (a : Nat) : Bool := L.any fun x => decide (wayV x.1 (a : Int) ≠ 0)
/-- The steps in which an actuator moves. -/
def mvL (L : List Stp) (a : Int) : List Nat := (List.range L.length).filter fun k => decide (wayV (L.getD k t0).1 a ≠ 0)
def chk3 (n : Nat) (L : List Stp) : Int := if (bh n L L.length).any id then 9 else (if (List.range n).all (mvs L) then 0 else 13)
def chk2 (n : Nat) (L : List Stp) : Int := if fe (stE n L) L.length = 0 then chk3 n L else fe (stE n L) L.length
/-- The error of a sequence. -/
def chk (n : Int) (L : List Stp) : Int := if 1 ≤ n ∧ n ≤ 6 then (if L.length = 0 then 13 else (if 64 < L.length then 5 else chk2 n.toNat L)) else 2
/-- What a right sequence is. -/
structure Rt (n : Int) (L : List Stp) : Prop where
  n1 : 1 ≤ n
  n6 : n ≤ 6
  l1 : 0 < L.length
  l64 : L.length ≤ 64
  stp : ∀ k, k < L.length → stE n.toNat L k = 0
  end_ : (bh n.toNat L L.length).any id = false
  mov : ∀ a, a < n.toNat → mvs L a = true
theorem chk_ok {n : Int} {L : List Stp} (h : chk n L = 0) : Rt n L := by
  unfold chk at h
  by_cases h1 : 1 ≤ n ∧ n ≤ 6
  · rw [if_pos h1] at h
    by_cases h2 : L.length = 0
    · rw [if_pos h2] at h; omega
    rw [if_neg h2] at h
    by_cases h3 : 64 < L.length
    · rw [if_pos h3] at h; omega
    rw [if_neg h3] at h
    unfold chk2 at h
    by_cases h4 : fe (stE n.toNat L) L.length = 0
    · rw [if_pos h4] at h
      unfold chk3 at h
      cases h5 : (bh n.toNat L L.length).any id with
      | true => rw [h5] at h; simp at h
      | false =>
        rw [h5, if_neg (by decide)] at h
        cases h6 : (List.range n.toNat).all (mvs L) with
        | false => rw [h6] at h; simp at h
        | true =>
          refine ⟨h1.1, h1.2, by omega, by omega, fun k hk => fe_no h4 k hk, h5, fun a ha => ?_⟩
          exact List.all_eq_true.1 h6 a (List.mem_range.2 ha)
    · rw [if_neg h4] at h; exact absurd h h4
  · rw [if_neg h1] at h; omega
theorem stE_ok {n : Nat} {L : List Stp} {k : Nat} (h : stE n L k = 0) : chkP (L.getD k t0).1 (L.getD k t0).2 = 0 ∧ low n (L.getD k t0).1 = true ∧ sui (L.getD k t0).1 (bh n L k) = true := by
  unfold stE at h
  by_cases h1 : chkP (L.getD k t0).1 (L.getD k t0).2 = 0
  · rw [if_pos h1] at h
    cases h2 : low n (L.getD k t0).1 with
    | false => rw [h2] at h; simp at h
    | true =>
      rw [h2, if_pos rfl] at h
      cases h3 : sui (L.getD k t0).1 (bh n L k) with
      | false => rw [h3] at h; simp at h
      | true => exact ⟨h1, rfl, rfl⟩
  · rw [if_neg h1] at h; exact absurd h h1
/-- The error of a step, by the ends of six actuators. -/
theorem stE_six {n : Nat} (hn : n ≤ 6) (L : List Stp) (k : Nat) : stE n L k = if chkP (L.getD k t0).1 (L.getD k t0).2 = 0 then (if low n (L.getD k t0).1 then (if sui (L.getD k t0).1 (bh 6 L k) then 0 else 14) else 6) else chkP (L.getD k t0).1 (L.getD k t0).2 := by
  unfold stE
  by_cases h1 : chkP (L.getD k t0).1 (L.getD k t0).2 = 0
  · rw [if_pos h1, if_pos h1]
    cases h2 : low n (L.getD k t0).1 with
    | false => simp
    | true =>
      have hR := (chkP_ok h1).1
      rw [bh_cut hn, sui_cut (by rw [bh_len]; exact hn) h2 (fun i hi => (hR.act i hi).1)]
  · rw [if_neg h1, if_neg h1]
/-- Does Apply go on behind step k? -/
def okS (L : List Stp) (k : Nat) : Bool := decide (chkP (L.getD k t0).1 (L.getD k t0).2 = 0) && sui (L.getD k t0).1 (bh 6 L k)
theorem okS_of {n : Nat} (hn : n ≤ 6) {L : List Stp} {k : Nat} (h : stE n L k = 0) : okS L k = true := by
  rw [stE_six hn] at h
  unfold okS
  by_cases h1 : chkP (L.getD k t0).1 (L.getD k t0).2 = 0
  · rw [if_pos h1] at h
    cases h2 : low n (L.getD k t0).1 with
    | false => rw [h2] at h; simp at h
    | true =>
      rw [h2, if_pos rfl] at h
      cases h3 : sui (L.getD k t0).1 (bh 6 L k) with
      | false => rw [h3] at h; simp at h
      | true => rw [decide_eq_true h1]; rfl
  · rw [if_neg h1] at h; exact absurd h h1
theorem app_six (L : List Stp) (k : Nat) : appV (L.getD k t0).1 (L.getD k t0).2 (bh 6 L k) = if okS L k then (aft (L.getD k t0).1 (bh 6 L k), 0) else ([], if chkP (L.getD k t0).1 (L.getD k t0).2 = 0 then 14 else chkP (L.getD k t0).1 (L.getD k t0).2) := by
  unfold appV okS
  by_cases h1 : chkP (L.getD k t0).1 (L.getD k t0).2 = 0
  · rw [if_pos h1, if_neg (by rw [bh_len]; omega), decide_eq_true h1, if_pos h1, Bool.true_and]
  · rw [if_neg h1, decide_eq_false h1, if_neg h1]; rfl
/-- Ends that no step moves stay in. -/
theorem put_drop {n : Nat} {E : List Bool} {x : Str} (h : x.1.toNat < n) : (put1 E x).drop n = E.drop n := by
  unfold put1; rw [List.drop_set, if_pos h]
theorem aft_low {n : Nat} (hn : 0 < n) {l : List Str} (h : low n l = true) : ∀ E : List Bool, (aft l E).drop n = E.drop n := by
  unfold aft
  induction l with
  | nil => intro E; rfl
  | cons x l ih =>
    intro E
    unfold low at h
    rw [List.all_cons, Bool.and_eq_true, decide_eq_true_iff] at h
    rw [List.foldl_cons, ih h.2, put_drop (by omega)]
theorem bh_low {n m : Nat} (hn : 0 < n) {L : List Stp} : ∀ {k : Nat}, k ≤ L.length → (∀ i, i < k → low n (L.getD i t0).1 = true) → (bh m L k).drop n = List.replicate (m - n) false
  | 0, _, _ => by rw [bh_zero, List.drop_replicate]
  | k + 1, hk, h => by rw [bh_succ m (by omega), aft_low hn (h k (by omega)), bh_low hn (by omega) (fun i hi => h i (by omega))]
/-- All are in, of six as of n. -/
theorem any_six {n : Nat} (hn : 0 < n) (hn6 : n ≤ 6) {L : List Stp} (h : ∀ i, i < L.length → stE n L i = 0) : (bh 6 L L.length).any id = (bh n L L.length).any id := by
  have h1 := bh_low (m := 6) hn (Nat.le_refl _) (fun i hi => (stE_ok (h i hi)).2.1)
  rw [← List.take_append_drop n (bh 6 L L.length), h1, ← bh_cut hn6, List.any_append]
  have : (List.replicate (6 - n) false).any id = false := by simp
  rw [this, Bool.or_false]
theorem any_eq (m : Nat) (E : List Bool) (h : E.length = m) : E.any id = decide (E ≠ List.replicate m false) := by
  subst h
  induction E with
  | nil => rfl
  | cons b E ih =>
    rw [List.any_cons, ih, List.length_cons, List.replicate_succ]
    cases b <;> simp
/-- The ends go on up to step m, and no further. -/
def Upto (L : List Stp) (m : Nat) : Prop := m ≤ L.length ∧ (∀ j, j < m → okS L j = true) ∧ (m < L.length → okS L m = false)
theorem range_pre {m : Nat} : ∀ {pre : List Nat} {rest : List Nat}, List.range m = pre ++ rest → pre = List.range pre.length := fun {pre rest} h => by
  have h1 : (List.range m).take pre.length = pre := by rw [h]; simp
  rw [List.take_range] at h1
  have h2 : pre.length ≤ m := by have := congrArg List.length h; simp at this; omega
  rw [Nat.min_eq_left h2] at h1
  exact h1.symm
end Sq

namespace Go.Proofs.YtjpbccpleflkhaaDoor
open Go.RowKit

/-- It abides new blocks, and turns of block b. -/
def AbO {β : Type} (b : Nat) (J : β → World → Prop) : Prop := ∀ s W W' row, J s W → W.grownBy W' row → (∀ r, row = some r → r = b) → J s W'
/-- It abides new blocks, and turns of the four blocks from B on. -/
def AbR {β : Type} (B : Nat) (J : β → World → Prop) : Prop := ∀ s W W' row, J s W → W.grownBy W' row → (∀ r, row = some r → B ≤ r ∧ r < B + 4) → J s W'
/-- The blocks of a set lie as they lay, and so do all variables of type T from block B on. -/
def KpS (Pr : Nat → Prop) (T : TypeId) (B : Nat) (W W' : World) : Prop := (∀ b, Pr b → W'.heap[b]? = W.heap[b]?) ∧ ∀ (b : Nat) (c : Array Value), B ≤ b → W.heap[b]? = some (.cells c T) → W'.heap[b]? = some (.cells c T)
/-- The two records of the loop lie as they lay. -/
def Rec2 (B : Nat) (W W' : World) : Prop := W'.heap[B]? = W.heap[B]? ∧ W'.heap[B + 1]? = W.heap[B + 1]?
theorem KpS.refl (Pr : Nat → Prop) (T : TypeId) (B : Nat) (W : World) : KpS Pr T B W W := ⟨fun _ _ => rfl, fun _ _ _ h => h⟩
theorem KpS.trans {Pr : Nat → Prop} {T : TypeId} {B : Nat} {X Y Z : World} (h : KpS Pr T B X Y) (k : KpS Pr T B Y Z) : KpS Pr T B X Z := ⟨fun b hb => (k.1 b hb).trans (h.1 b hb), fun b c hB hb => k.2 b c hB (h.2 b c hB hb)⟩
theorem Rec2.refl (B : Nat) (W : World) : Rec2 B W W := ⟨rfl, rfl⟩
theorem Rec2.trans {B : Nat} {X Y Z : World} (h : Rec2 B X Y) (k : Rec2 B Y Z) : Rec2 B X Z := ⟨k.1.trans h.1, k.2.trans h.2⟩
theorem Rec2.setCell {B : Nat} (W : World) {a : Addr} (v : Value) (h : a.block ≠ B ∧ a.block ≠ B + 1) : Rec2 B W (W.setCell a v) := ⟨Below.heap_setCell _ _ _ _ (fun e => h.1 e.symm), Below.heap_setCell _ _ _ _ (fun e => h.2 e.symm)⟩
theorem Rec2.grown {B : Nat} {W W' : World} {row : Option Nat} (hg : W.grownBy W' row) (hz : B + 2 ≤ W.heap.size) (hr : ∀ r, row = some r → r ≠ B ∧ r ≠ B + 1) : Rec2 B W W' :=
  ⟨hg.block _ (by omega) (fun e => (hr _ e.symm).1 rfl), hg.block _ (by omega) (fun e => (hr _ e.symm).2 rfl)⟩
theorem Rec2.below {B : Nat} {W W' : World} (hb : Below W.heap.size W W') (hz : B + 2 ≤ W.heap.size) : Rec2 B W W' := ⟨hb.block _ (by omega), hb.block _ (by omega)⟩
/-- A step that turns one block, which is not of the set, and no variable of type T. -/
theorem KpS.grown {Pr : Nat → Prop} {T : TypeId} {B : Nat} {W W' : World} {row : Option Nat} (hg : W.grownBy W' row) (hz : ∀ b, Pr b → b < W.heap.size) (hr : ∀ r, row = some r → ¬ Pr r ∧ (B ≤ r → ∀ c, W.heap[r]? ≠ some (.cells c T))) : KpS Pr T B W W' :=
  ⟨fun b hb => hg.block b (hz b hb) (fun e => (hr b e.symm).1 hb), fun b c hB hb => (hg.block b (Array.getElem?_eq_some_iff.1 hb).1 (fun e => (hr b e.symm).2 hB c hb)).trans hb⟩
theorem KpS.below {Pr : Nat → Prop} {T : TypeId} {B : Nat} {W W' : World} (hb : Below W.heap.size W W') (hz : ∀ b, Pr b → b < W.heap.size) : KpS Pr T B W W' :=
  ⟨fun b h => hb.block b (hz b h), fun b _ _ h => (hb.block b (Array.getElem?_eq_some_iff.1 h).1).trans h⟩
theorem KpS.setCell {Pr : Nat → Prop} {T : TypeId} {B : Nat} (W : World) {a : Addr} (v : Value) (h : ¬ Pr a.block) (hT : B ≤ a.block → ∀ c, W.heap[a.block]? ≠ some (.cells c T)) : KpS Pr T B W (W.setCell a v) :=
  ⟨fun _ hb => Below.heap_setCell _ _ _ _ (fun e => h (e ▸ hb)), fun _ c hB hb => (Below.heap_setCell _ _ _ _ (fun e => hT (e ▸ hB) c (by rw [← e]; exact hb))).trans hb⟩
theorem KpS.putObj {Pr : Nat → Prop} {T : TypeId} {B : Nat} (W : World) {l : Nat} {o : Obj} (o' : Obj) (h : ¬ Pr l) (ho : W.heap[l]? = some o) (hT : ∀ c, o ≠ .cells c T) : KpS Pr T B W (W.putObj l o') :=
  ⟨fun _ hb => World.putObj_heap_other (fun e => h (e ▸ hb)), fun b c _ hb => (World.putObj_heap_other (fun e => by subst e; rw [ho] at hb; exact hT c (Option.some.inj hb))).trans hb⟩
theorem AbR.abO {β : Type} {B : Nat} {J : β → World → Prop} (h : AbR B J) : AbO (B + 3) J := fun s W W' row hs hg hr => h s W W' row hs hg (fun r e => by have := hr r e; omega)
theorem AbR.alloc {β : Type} {B : Nat} {J : β → World → Prop} (h : AbR B J) {s : β} {W : World} (o : Obj) (hs : J s W) : J s (W.alloc o) :=
  h s W _ none hs ⟨rfl, rfl, rfl, by simp, fun k hk _ => (allocB W o).block k hk⟩ (fun r e => by cases e)
theorem AbR.putObj {β : Type} {B : Nat} {J : β → World → Prop} (h : AbR B J) {s : β} {W : World} {l : Nat} (o : Obj) (hs : J s W) (h1 : B ≤ l) (h2 : l < B + 4) : J s (W.putObj l o) :=
  h s W _ (some l) hs (grownBy_putObj' W l o) (fun r e => by cases e; exact ⟨h1, h2⟩)

/-- What an iterator does whose own variable is the second block behind the two of the loop. -/
def SeqO {α : Type} (F : Fence) (n : Nat) (P : Program) (g : Nat) (lb : Array Value) (encs : α → Array Value) (Pr : Nat → Prop) (T : TypeId) (S Sp : List α → Prop) (N B : Nat) (w : World) : Prop :=
  ∀ (J Jx : List α → World → Prop) (W : World), Below w.heap.size w W → W.heap.size = B + 2 → AbO (B + 3) J → AbO (B + 3) Jx →
    (∀ pre x W1, J pre W1 → B + 4 ≤ W1.heap.size → pre.length < N → YieldAt F (n - 1) P (B + 1) (encs x) W1 fun e W' =>
      (e = .returned (.bool true) ∧ J (pre ++ [x]) W' ∧ KpS Pr T B W1 W') ∨ (e = .returned (.bool false) ∧ Jx (pre ++ [x]) W')) →
    J [] W →
    CallsIn F n P g (#[.func (.yield (B + 1)) #[] #[]] ++ lb) W fun e W' => (∃ v, e = .returned v) ∧ ((∃ xs, S xs ∧ J xs W') ∨ (∃ pre, Sp pre ∧ Jx pre W'))

/-- How a round may be left. -/
def outO {α : Type} (B : Nat) (Pr : Nat → Prop) (T : TypeId) (I : List α → World → Prop) (Ix : Code → List α → World → Prop) (xs : List α) (W : World) : Exit → Act → World → Prop
  | .normal, _, W' => Rec2 B W W' ∧ KpS Pr T B W W' ∧ I xs W'
  | .ret, _, W' => Rec2 B W W' ∧ Ix .ret xs W'
  | .exit id, _, W' => Rec2 B W W' ∧ Ix (.exit id) xs W'
  | .goto t, _, W' => Rec2 B W W' ∧ Ix (.goto t) xs W'
  | .panic _, _, _ => False
  | .outgrown, _, _ => False

/-- **The law for the caller.** -/
theorem wpIn_rangeO {F : Fence} {n : Nat} {P : Program} {α : Type} {g : Operand} {ps : Array Tmp} {assign body : Code} {Q : Exit → Act → World → Prop} {a : Act} {w : World} {B : Nat} (hB : w.heap.size = B)
    (hro : F.round = none) (h1 : 1 ≤ n) {gf : Nat} {lb : Array Value} (hg : a.eval g = .func (.func gf) #[] lb) (hFg : F.fn gf) (eg : ∀ args w, (callFunc gf args).run P w = .ok (.enter gf args) w)
    {encs : α → Array Value} {Pr : Nat → Prop} {T : TypeId} {S Sp : List α → Prop} {N : Nat} {w0 : World} (hb0 : Below w0.heap.size w0 w) (hseq : SeqO F (n - 1) P gf lb encs Pr T S Sp N B w0) (hP1 : ¬ Pr (B + 1)) (hps : ∀ x, (encs x).size = ps.size)
    (I : List α → World → Prop) (Ix : Code → List α → World → Prop) (hI : AbR B I) (hIx : ∀ c, AbR B (Ix c)) (h0 : I [] w) (Ax : α → Act → World → Prop) (hAx : ∀ x a', AbR B (fun (_ : Unit) W => Ax x a' W))
    (hassign : ∀ (pre : List α) (x : α) (W : World) (K : Act → World → Prop), I pre W → B + 4 ≤ W.heap.size → (∀ a' W', Rec2 B W W' → KpS Pr T B W W' → B + 4 ≤ W'.heap.size → I pre W' → Ax x a' W' → K a' W') →
      assign.wpIn (F.inRound (B + 1)) (n - 1 - 1) P (Exit.then K (fun _ _ _ => False)) { tmps := (ps.zip (encs x)).foldl (fun t (p, v) => t.setIfInBounds p v) a.tmps, defers := [] } W)
    (hbody : ∀ (pre : List α) (x : α) (a' : Act) (W : World), B + 4 ≤ W.heap.size → I pre W → Ax x a' W → pre.length < N → body.wpIn (F.inRound (B + 1)) (n - 1 - 1) P (outO B Pr T I Ix (pre ++ [x]) W) a' W)
    (hdone : ∀ (xs : List α) (W : World), S xs → I xs W → W.heap[B]? = some (.deferred (some [])) → Q .normal { a with defers := { target := .collected B, args := #[] } :: a.defers } W)
    (hstop : ∀ (c : Code) (pre : List α) (W : World), Sp pre → Ix c pre W → W.heap[B]? = some (.deferred (some [])) → c.wpIn F n P Q { a with defers := { target := .collected B, args := #[] } :: a.defers } W) :
    (Code.rangeFunc g ps assign body).wpIn F n P Q a w := by
  subst hB
  refine wpIn_rangeFunc (fun fn hfn => ?_)
  rw [hro]
  obtain ⟨R, hR⟩ : ∃ R : LoopState → Option Code → Loop, R = fun s p => { state := s, pending := p, fn, tmps := a.tmps, params := ps, assign, body, defers := w.heap.size } := ⟨_, rfl⟩
  have hst : ∀ s p, (R s p).state = s := fun s p => by rw [hR]
  have hpe : ∀ s p, (R s p).pending = p := fun s p => by rw [hR]
  have hto : ∀ s p s', { R s p with state := s' } = R s' p := fun s p s' => by rw [hR]
  have hto2 : ∀ s p s' p', { R s p with state := s', pending := p' } = R s' p' := fun s p s' p' => by rw [hR]
  let W1 := (w.alloc (.deferred (some []))).alloc (.loop (R .ready none))
  have hz : W1.heap.size = w.heap.size + 2 := by simp [W1]
  have hD : W1.heap[w.heap.size]? = some (.deferred (some [])) := ((allocB _ _).block _ (by simp)).trans (World.alloc_heap_new w _)
  have hL : W1.heap[w.heap.size + 1]? = some (.loop (R .ready none)) := by
    have h := World.alloc_heap_new (w.alloc (.deferred (some []))) (.loop (R .ready none))
    rw [World.size_alloc] at h; exact h
  have hI1 : I [] W1 := hI.alloc _ (hI.alloc _ h0)
  have hb1 : Below w0.heap.size w0 W1 := hb0.trans (((allocB w _).alloc (by simp) _).mono hb0.size)
  -- the invariants, with the records beside them
  let J : List α → World → Prop := fun pre W => I pre W ∧ W.heap[w.heap.size + 1]? = some (.loop (R .ready none)) ∧ W.heap[w.heap.size]? = some (.deferred (some []))
  let Jx : List α → World → Prop := fun pre W => ∃ c, Ix c pre W ∧ W.heap[w.heap.size + 1]? = some (.loop (R .done (some c))) ∧ W.heap[w.heap.size]? = some (.deferred (some []))
  have stays : ∀ {A A' : World} {row : Option Nat} {k : Nat} {o : Obj}, A.grownBy A' row → (∀ r, row = some r → r = w.heap.size + 3) → k < w.heap.size + 2 → A.heap[k]? = some o → A'.heap[k]? = some o := fun {A A' row k o} hg hr hk ho =>
    (hg.block k (Array.getElem?_eq_some_iff.1 ho).1 (fun e => by have := hr k e.symm; omega)).trans ho
  have hJ : AbO (w.heap.size + 3) J := fun s A A' row h hg hr => ⟨hI.abO s A A' row h.1 hg hr, stays hg hr (by omega) h.2.1, stays hg hr (by omega) h.2.2⟩
  have hJx : AbO (w.heap.size + 3) Jx := fun s A A' row h hg hr => by
    obtain ⟨c, h1, h2, h3⟩ := h
    exact ⟨c, (hIx c).abO s A A' row h1 hg hr, stays hg hr (by omega) h2, stays hg hr (by omega) h3⟩
  refine ⟨w.heap.size + 1, [{ target := .collected w.heap.size, args := #[] }], W1, { target := .fn (.func gf) lb, args := #[.func (.yield (w.heap.size + 1)) #[] #[]] }, W1, gf, #[.func (.yield (w.heap.size + 1)) #[] #[]] ++ lb, W1, by
    rw [run_enterLoop_outer]
    show _ = Result.ok _ ((w.alloc (.deferred (some []))).alloc (.loop (R .ready none)))
    rw [hR], by simp only [resolve, hg]; simp [go_sem], (fun f' hf' => by simp [Target.leads] at hf'; subst hf'; exact hFg), by simp [invoke, go_sem, eg], fun _ => h1, ?_⟩
  refine (hseq J Jx W1 hb1 hz hJ hJx ?_ ⟨hI1, hL, hD⟩).mono ?_
  · -- a round
    intro pre x W ⟨hi, hl, hd⟩ hsz hlen
    have hy := run_yield (P := P) (args := encs x) hl (by rw [hR]; exact hps x)
    rw [hR] at hy
    refine ⟨fn, _, assign, body, hy, roundIn_of_wpIn hfn (hassign pre x W _ hi hsz (fun a' Wa hrc hkp hsz' hia hax => ?_))⟩
    have hl' := hrc.2.trans hl
    have hd' := hrc.1.trans hd
    refine ⟨_, run_beginRound hl' (hst _ _), ?_⟩
    rw [hto]
    generalize hWb : Wa.putObj (w.heap.size + 1) (.loop (R .busy none)) = Wb
    have hlb : Wb.heap[w.heap.size + 1]? = some (.loop (R .busy none)) := by rw [← hWb]; exact World.putObj_heap_same (by omega)
    have hdb : Wb.heap[w.heap.size]? = some (.deferred (some [])) := by rw [← hWb]; exact (World.putObj_heap_other (by omega)).trans hd'
    have hkb : KpS Pr T w.heap.size Wa Wb := by rw [← hWb]; exact KpS.putObj _ _ hP1 hl' (fun c e => by cases e)
    have hzb : Wb.heap.size = Wa.heap.size := by rw [← hWb]; simp [World.putObj]
    have hib : I pre Wb := by rw [← hWb]; exact hI.putObj _ hia (by omega) (by omega)
    have haxb : Ax x a' Wb := by rw [← hWb]; exact (hAx x a').putObj (s := ()) _ hax (by omega) (by omega)
    refine wpIn_mono (hbody pre x a' Wb (by omega) hib haxb hlen) ?_
    -- behind the body
    have fin : ∀ (jump : Option Code) (W3 : World), Rec2 w.heap.size Wb W3 →
        W3.heap[w.heap.size + 1]? = some (.loop (R .busy none)) ∧
        (Instr.endRound (w.heap.size + 1) jump).run P W3 = .ok (.bool jump.isNone) (W3.putObj (w.heap.size + 1) (.loop (R (if jump.isNone then .ready else .done) jump))) ∧
        (W3.putObj (w.heap.size + 1) (.loop (R (if jump.isNone then .ready else .done) jump))).heap[w.heap.size + 1]? = some (.loop (R (if jump.isNone then .ready else .done) jump)) ∧
        (W3.putObj (w.heap.size + 1) (.loop (R (if jump.isNone then .ready else .done) jump))).heap[w.heap.size]? = some (.deferred (some [])) := fun jump W3 hk => by
      have hl3 := hk.2.trans hlb
      have hd3 := hk.1.trans hdb
      have he := run_endRound (P := P) jump hl3
      rw [hto2] at he
      exact ⟨hl3, he, World.putObj_heap_same (Array.getElem?_eq_some_iff.1 hl3).1, (World.putObj_heap_other (by omega)).trans hd3⟩
    intro e a3 W3 hp
    cases e with
    | normal =>
      obtain ⟨f0, f1, f2, f3⟩ := fin none W3 hp.1
      exact ⟨_, _, f1, .inl ⟨rfl, ⟨hI.putObj _ hp.2.2 (by omega) (by omega), f2, f3⟩, (hkp.trans hkb).trans (hp.2.1.trans (KpS.putObj _ _ hP1 f0 (fun c e => by cases e)))⟩⟩
    | ret =>
      obtain ⟨-, f1, f2, f3⟩ := fin (some .ret) W3 hp.1
      exact ⟨_, _, f1, .inr ⟨rfl, .ret, (hIx _).putObj _ hp.2 (by omega) (by omega), f2, f3⟩⟩
    | exit id =>
      obtain ⟨-, f1, f2, f3⟩ := fin (some (.exit id)) W3 hp.1
      exact ⟨_, _, f1, .inr ⟨rfl, .exit id, (hIx _).putObj _ hp.2 (by omega) (by omega), f2, f3⟩⟩
    | goto t =>
      obtain ⟨-, f1, f2, f3⟩ := fin (some (.goto t)) W3 hp.1
      exact ⟨_, _, f1, .inr ⟨rfl, .goto t, (hIx _).putObj _ hp.2 (by omega) (by omega), f2, f3⟩⟩
    | panic ch => exact hp.elim
    | outgrown => exact hp.elim
  · -- behind the iterator
    rintro e W2 ⟨⟨v, rfl⟩, (⟨xs, hS, hi, hl, hd⟩ | ⟨pre, hSp, c, hi, hl, hd⟩)⟩
    · have he := run_endLoop (P := P) hl (by rw [hst]; simp)
      rw [hpe] at he
      exact ⟨none, _, he, hdone xs _ hS (hI.putObj _ hi (by omega) (by omega)) ((World.putObj_heap_other (by omega)).trans hd)⟩
    · have he := run_endLoop (P := P) hl (by rw [hst]; simp)
      rw [hpe] at he
      exact ⟨some c, _, he, hstop c pre _ hSp ((hIx c).putObj _ hi (by omega) (by omega)) ((World.putObj_heap_other (by omega)).trans hd)⟩
end Go.Proofs.YtjpbccpleflkhaaDoor
