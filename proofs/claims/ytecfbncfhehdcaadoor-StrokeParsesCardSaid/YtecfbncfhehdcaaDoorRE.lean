/- The check of steps of the reference. -/
import Derived.Test.YtecfbncfhehdcaaDoorRD
namespace Go.Proofs.YtecfbncfhehdcaaDoor
open Go.RowKit
set_option maxHeartbeats 8000000 in
set_option maxRecDepth 100000 in
theorem rStp_any (v : Value) (l : List Sk.Str) (n : Int) (w : World) (hs : SeeK w v l) : Calls Tryd.prog 90 #[.agg #[v, .int .i64 n]] w fun e w' => e = .returned (.int .i64 (Sk.chkP l n)) ∧ Below w.heap.size w w' := by
  have HS := Lib.hid hs
  obtain ⟨ao, cap, rfl, hcap1, hcap2, hC⟩ := hs
  have HC := Lib.hid hC
  obtain ⟨P0, L0, z0⟩ := boxP_new w (.slice ao l.length cap) (.int .i64 n) 70
  have HL := Lib.hid L0
  have HP := Lib.hid P0
  clear hC L0 P0 z0
  by_cases h1 : l.length = 0
  · have hv : Sk.chkP l n = 13 := if_pos h1
    rw [hv]
    have h1' : ((l.length : Int) == 0) = true := by simpa using h1
    obtain ⟨p0, p1, p2⟩ := HP.out
    clear hv h1
    go_enter Tryd.func90, Tryd.ntmps90
    go_wp2
    all_goals first | (go_ret; exact ⟨rfl, HL.out⟩) | (exfalso; simp_all)
  by_cases h2 : 6 < l.length
  · have hv : Sk.chkP l n = 5 := by unfold Sk.chkP; rw [if_neg h1, if_pos h2]
    rw [hv]
    have h1' : ((l.length : Int) == 0) = false := by simpa using h1
    have h2' : decide (6 < (l.length : Int)) = true := decide_eq_true (by omega)
    obtain ⟨p0, p1, p2⟩ := HP.out
    clear hv h1
    go_enter Tryd.func90, Tryd.ntmps90
    go_wp2
    all_goals first | (go_ret; exact ⟨rfl, HL.out⟩) | (exfalso; simp_all)
  have hv : Sk.chkP l n = if Sk.chkL l = 0 then (if Sk.tim n then 0 else 2) else Sk.chkL l := by unfold Sk.chkP; rw [if_neg h1, if_neg h2]
  have HNo := Lib.hid (fun i (hi : i < l.length) (hb : ∀ a, a < i → Sk.celE l a = 0) (h : Sk.celE l i ≠ 0) => show Sk.chkP l n = Sk.celE l i by
    rw [hv]
    have : Sk.chkL l = Sk.celE l i := Sk.fe_stop hb h hi
    rw [this, if_neg h])
  have HYes := Lib.hid (fun (hb : ∀ a, a < l.length → Sk.celE l a = 0) => show Sk.chkP l n = if Sk.tim n then 0 else 2 by
    rw [hv]
    have : Sk.chkL l = 0 := Sk.fe_all hb
    rw [this, if_pos rfl])
  have h1' : ((l.length : Int) == 0) = false := by simpa using h1
  have h2' : decide (6 < (l.length : Int)) = false := decide_eq_false (by omega)
  have hl6 : l.length ≤ 6 := by omega
  have HE : Hid (∀ i, Sk.celE l i = if Sk.act (l.getD i Sk.d0).1 = true then (if i = 0 then 0 else Sk.ordE (l.getD (i - 1) Sk.d0).1 (l.getD i Sk.d0).1) else 2) := Lib.hid (fun i => rfl)
  clear hv h1 h2
  generalize Sk.chkP l n = q at *
  generalize Sk.celE l = ce at *
  obtain ⟨p0, p1, p2⟩ := HP.out
  go_enter Tryd.func90, Tryd.ntmps90
  go_wp2
  clear p0 p1 p2
  go_loopw [3] (fun s3 wr => ∃ i : Nat, i ≤ l.length ∧ s3 = .int .i64 (i : Int) ∧ Hid (∀ a, a < i → ce a = 0) ∧ Hid (Below w.heap.size w wr) ∧ Hid (BoxP wr w.heap.size (.slice ao l.length cap) (.int .i64 n))) (fun s3 _ => l.length - (intOf s3).toNat)
  case atStart => exact ⟨0, Nat.zero_le _, rfl, Lib.hid (fun a h => by omega), HL, HP⟩
  case round =>
    clear HP HL
    obtain ⟨i, hi, rfl, HJ, HBW, HP⟩ := hrel
    by_cases hil : i < l.length
    · obtain ⟨g, off, rfl, hg, c1, -⟩ := HC.out.at HBW.out hil
      have HEi := Lib.hid (HE.out i)
      have HNi := Lib.hid (HNo.out i hil HJ.out)
      have HJ2 : Hid (ce i = 0 → ∀ a, a < i + 1 → ce a = 0) := Lib.hid (fun h a ha => by
        by_cases e : a = i
        · rw [e]; exact h
        · exact HJ.out a (by omega))
      have HAT := HC
      obtain ⟨p0, p1, p2⟩ := HP.out
      have hwi : IntKind.i64.wrap (i : Int) = (i : Int) := IntWalk.i64_in _ (by omega)
      clear HNo HYes HE hi
      generalize hx : (l.getD i Sk.d0).1 = x at *
      generalize ce i = cei at *
      go_wp2_with fail
      refine (rAct_any x _).mono ?_
      rintro e w1 ⟨rfl, hb1⟩
      have HB1 := Lib.hid (below_nxt HBW.out hb1)
      have HPA := Lib.hid (HP.out.step hb1)
      clear hb1 c1 HP p0 p1 p2
      cases hact : Sk.act x
      · rw [hact] at HEi
        have hc0 : cei = 2 := HEi.out
        have hq := HNi.out (by omega)
        subst hc0
        subst hq
        clear HEi HNi HJ2 HJ hx
        go_wp2
        go_ret
        exact ⟨rfl, HB1.out⟩
      · rw [hact] at HEi
        by_cases hi0 : i = 0
        · have hc0 : cei = 0 := by rw [HEi.out, if_pos rfl, if_pos hi0]
          have HJ3 := Lib.hid (HJ2.out hc0)
          subst hi0
          clear HEi HNi HJ2 HJ hx hact hc0
          go_wp2
          go_quiet (fail)
          go_wp2
          go_quiet (fail)
          go_wp2
          exact ⟨⟨0 + 1, by omega, by first | rfl | go_num, HJ3, Lib.hid (HB1.out.trans (below_drewN _ _)), Lib.hid (HPA.out.step (below_drewN _ _))⟩, by simp [intOf]; omega⟩
        · obtain ⟨k, rfl⟩ : ∃ k, i = k + 1 := ⟨i - 1, by omega⟩
          obtain ⟨g', off', he, -, d1, -⟩ := HAT.out.at HB1.out (i := k) (by omega)
          simp only [Option.some.injEq, Addr.mk.injEq, and_true] at he
          obtain ⟨rfl, rfl⟩ := he
          obtain ⟨g', off', he, -, c1, -⟩ := HAT.out.at HB1.out (i := k + 1) hil
          simp only [Option.some.injEq, Addr.mk.injEq, and_true] at he
          obtain ⟨rfl, rfl⟩ := he
          rw [hx] at c1
          have hc0 : cei = Sk.ordE (l.getD k Sk.d0).1 x := by rw [HEi.out, if_pos rfl, if_neg hi0, Nat.add_sub_cancel]
          unfold Sk.ordE at hc0
          clear HEi hi0 hx hact
          generalize (l.getD k Sk.d0).1 = y at *
          obtain ⟨p0, p1, p2⟩ := HPA.out
          have hw1 : IntKind.i64.wrap ((k : Int) + 1 - 1) = (k : Int) := by rw [show (k : Int) + 1 - 1 = (k : Int) by omega]; exact IntWalk.i64_in _ (by omega)
          have hw2 : IntKind.i64.wrap (k : Int) = (k : Int) := IntWalk.i64_in _ (by omega)
          have hkl : (k : Int) < (l.length : Int) := by omega
          have hk1l : (k : Int) + 1 < (l.length : Int) := by omega
          by_cases hxy : x = y
          · rw [if_pos hxy] at hc0
            have hq := HNi.out (by omega)
            have hxyt : (x == y) = true := by simpa using hxy
            subst hc0
            subst hq
            clear HNi HJ2 HJ
            go_wp2
            go_quiet (fail)
            go_wp2
            go_ret
            first | exact ⟨rfl, HB1.out.trans (below_drewN _ _)⟩ | exact ⟨rfl, (HB1.out.trans (below_drewN _ _)).trans (below_drewN _ _)⟩
          · rw [if_neg hxy] at hc0
            have hxyt : (x == y) = false := by simpa using hxy
            by_cases hlt : x < y
            · rw [if_pos hlt] at hc0
              have hq := HNi.out (by omega)
              have hltt : decide (x < y) = true := decide_eq_true hlt
              subst hc0
              subst hq
              clear HNi HJ2 HJ
              go_wp2
              go_quiet (fail)
              go_wp2
              go_quiet (fail)
              go_wp2
              go_ret
              first | exact ⟨rfl, HB1.out.trans (below_drewN _ _)⟩ | exact ⟨rfl, (HB1.out.trans (below_drewN _ _)).trans (below_drewN _ _)⟩
            · rw [if_neg hlt] at hc0
              have HJ3 := Lib.hid (HJ2.out hc0)
              have hltt : decide (x < y) = false := decide_eq_false hlt
              clear HNi HJ2 HJ hc0
              go_wp2
              go_quiet (fail)
              go_wp2
              go_quiet (fail)
              go_wp2
              exact ⟨⟨k + 1 + 1, by omega, by first | rfl | go_num, HJ3, Lib.hid (HB1.out.trans (below_drewN _ _)), Lib.hid (HPA.out.step (below_drewN _ _))⟩, by simp [intOf]; omega⟩
    · obtain rfl : i = l.length := by omega
      have hq := HYes.out HJ.out
      have HT := fun W => Lib.hid (rTime_any n W)
      clear HNo HYes HE HJ
      obtain ⟨p0, p1, p2⟩ := HP.out
      have htm : Tm.isT n = Sk.tim n := by unfold Tm.isT Sk.tim; rw [Bool.decide_and]
      rw [htm] at HT
      cases htn : Sk.tim n <;> rw [htn] at HT hq
      · rw [if_neg (by decide)] at hq
        subst hq
        go_wp2_with fail
        refine ((HT _).out).mono ?_
        rintro e w2 ⟨rfl, rfl⟩
        go_wp2
        go_ret
        exact ⟨rfl, HBW.out⟩
      · rw [if_pos rfl] at hq
        subst hq
        go_wp2_with fail
        refine ((HT _).out).mono ?_
        rintro e w2 ⟨rfl, rfl⟩
        go_wp2
        go_ret
        exact ⟨rfl, HBW.out⟩
end Go.Proofs.YtecfbncfhehdcaaDoor

