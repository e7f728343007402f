/- The check of steps, of package stroke. -/
import Derived.Test.YtecfbncfhehdcaaDoorQC
import Derived.StillTailTactics
namespace Go.Proofs.YtecfbncfhehdcaaDoor
open Go.RowKit
set_option maxHeartbeats 4000000 in
set_option maxRecDepth 100000 in
theorem sStp_any (v : Value) (l : List Sk.Str) (n : Int) (w : World) (hs : SeeK w v l) : Calls Tryd.prog 54 #[.agg #[v, .int .i64 n]] w fun e w' => e = .returned (.int .i64 (Sk.chkP l n)) ∧ Below w.heap.size w w' := by
  have HS := Lib.hid hs
  obtain ⟨ao, cap, rfl, hcap1, hcap2, hC⟩ := hs
  have HC := Lib.hid hC
  obtain ⟨P0, L0, z0⟩ := boxP_new w (.slice ao l.length cap) (.int .i64 n) 70
  have HL := Lib.hid L0
  have HP := Lib.hid P0
  clear hC L0 P0 z0
  by_cases h1 : l.length = 0
  · have hv : Sk.chkP l n = 13 := if_pos h1
    rw [hv]
    have h1' : ((l.length : Int) == 0) = true := by simpa using h1
    obtain ⟨p0, p1, p2⟩ := HP.out
    clear hv h1
    go_enter Tryd.func54, Tryd.ntmps54
    go_wp2
    all_goals first | (go_ret; exact ⟨rfl, HL.out⟩) | (exfalso; simp_all)
  by_cases h2 : 6 < l.length
  · have hv : Sk.chkP l n = 5 := by unfold Sk.chkP; rw [if_neg h1, if_pos h2]
    rw [hv]
    have h1' : ((l.length : Int) == 0) = false := by simpa using h1
    have h2' : decide (6 < (l.length : Int)) = true := decide_eq_true (by omega)
    obtain ⟨p0, p1, p2⟩ := HP.out
    clear hv h1
    go_enter Tryd.func54, Tryd.ntmps54
    go_wp2
    all_goals first | (go_ret; exact ⟨rfl, HL.out⟩) | (exfalso; simp_all)
  have hv : Sk.chkP l n = if Sk.chkL l = 0 then (if Sk.tim n then 0 else 2) else Sk.chkL l := by unfold Sk.chkP; rw [if_neg h1, if_neg h2]
  have HNo := Lib.hid (fun i (hi : i < l.length) (hb : ∀ a, a < i → Sk.celE l a = 0) (h : Sk.celE l i ≠ 0) => show Sk.chkP l n = Sk.celE l i by
    rw [hv]
    have : Sk.chkL l = Sk.celE l i := Sk.fe_stop hb h hi
    rw [this, if_neg h])
  have HYes := Lib.hid (fun (hb : ∀ a, a < l.length → Sk.celE l a = 0) => show Sk.chkP l n = if Sk.tim n then 0 else 2 by
    rw [hv]
    have : Sk.chkL l = 0 := Sk.fe_all hb
    rw [this, if_pos rfl])
  have h1' : ((l.length : Int) == 0) = false := by simpa using h1
  have h2' : decide (6 < (l.length : Int)) = false := decide_eq_false (by omega)
  have hl6 : l.length ≤ 6 := by omega
  have HE : Hid (∀ i, Sk.celE l i = if Sk.chkS (l.getD i Sk.d0).1 = 0 then (if i = 0 then 0 else Sk.ordE (l.getD (i - 1) Sk.d0).1 (l.getD i Sk.d0).1) else Sk.chkS (l.getD i Sk.d0).1) := Lib.hid (fun i => by
    unfold Sk.celE Sk.chkS
    cases Sk.act (l.getD i Sk.d0).1 <;> simp)
  clear hv h1 h2
  generalize Sk.chkP l n = q at *
  generalize Sk.celE l = ce at *
  obtain ⟨p0, p1, p2⟩ := HP.out
  go_enter Tryd.func54, Tryd.ntmps54
  go_wp2
  clear p0 p1 p2
  go_loopw [18] (fun s18 wr => ∃ i : Nat, i ≤ l.length ∧ s18 = .int .i64 (i : Int) ∧ Hid (∀ a, a < i → ce a = 0) ∧ Hid (Below w.heap.size w wr) ∧ Hid (BoxP wr w.heap.size (.slice ao l.length cap) (.int .i64 n))) (fun s18 _ => l.length - (intOf s18).toNat)
  case atStart => exact ⟨0, Nat.zero_le _, rfl, Lib.hid (fun a h => by omega), HL, HP⟩
  case round =>
    clear HP HL
    obtain ⟨i, hi, rfl, HJ, HBW, HP⟩ := hrel
    by_cases hil : i < l.length
    · obtain ⟨g, off, rfl, hg, c1, c2⟩ := HC.out.at HBW.out hil
      have HEi := Lib.hid (HE.out i)
      have HNi := Lib.hid (HNo.out i hil HJ.out)
      have HJ2 : Hid (ce i = 0 → ∀ a, a < i + 1 → ce a = 0) := Lib.hid (fun h a ha => by
        by_cases e : a = i
        · rw [e]; exact h
        · exact HJ.out a (by omega))
      have HAT := HC
      clear HNo HYes HE hi
      generalize hx : (l.getD i Sk.d0).1 = x at *
      generalize (l.getD i Sk.d0).2 = o at *
      generalize ce i = cei at *
      obtain ⟨P1, L1, z1⟩ := boxP_new wr (.int .i64 x) (.bool o) 47
      have HP1 := Lib.hid P1
      have HL1 := Lib.hid L1
      clear P1 L1 z1
      go_wp2_with fail
      refine (sChk_any x o _).mono ?_
      rintro e w1 ⟨rfl, hb1⟩
      have HB1 := Lib.hid (below_nxt (below_nxt HBW.out HL1.out) hb1)
      have HPA := Lib.hid ((HP.out.step HL1.out).step hb1)
      have HPB := Lib.hid (HP1.out.step hb1)
      have HC1 := Lib.hid (HL1.out.trans (hb1.mono HL1.out.size))
      clear hb1 c1 c2 HP HP1 HL1
      rcases Sk.chkS_or x with hx0 | hx2
      · rw [hx0] at HEi ⊢
        by_cases hi0 : i = 0
        · have hc0 : cei = 0 := by rw [HEi.out, if_pos rfl, if_pos hi0]
          have HJ3 := Lib.hid (HJ2.out hc0)
          subst hi0
          clear HEi HNi HJ2 HJ hx hx0 hc0
          go_wp2
          exact ⟨⟨0 + 1, by omega, by first | rfl | go_num, HJ3, HB1, HPA⟩, by simp [intOf]; omega⟩
        · obtain ⟨k, rfl⟩ : ∃ k, i = k + 1 := ⟨i - 1, by omega⟩
          obtain ⟨g', off', he, -, d1, d2⟩ := HAT.out.at HB1.out (i := k) (by omega)
          simp only [Option.some.injEq, Addr.mk.injEq, and_true] at he
          obtain ⟨rfl, rfl⟩ := he
          have hc0 : cei = Sk.ordE (l.getD k Sk.d0).1 x := by rw [HEi.out, if_pos rfl, if_neg hi0, Nat.add_sub_cancel]
          clear HEi hi0 hx hx0
          generalize (l.getD k Sk.d0).1 = y at *
          generalize (l.getD k Sk.d0).2 = oy at *
          subst hc0
          obtain ⟨p0, p1, p2⟩ := HPA.out
          obtain ⟨q0, q1, q2⟩ := HPB.out
          have hw1 : IntKind.i64.wrap ((k : Int) + 1 - 1) = (k : Int) := by rw [show (k : Int) + 1 - 1 = (k : Int) by omega]; exact IntWalk.i64_in _ (by omega)
          have hw2 : IntKind.i64.wrap (k : Int) = (k : Int) := IntWalk.i64_in _ (by omega)
          have hkl : (k : Int) < (l.length : Int) := by omega
          go_wp2
          refine wp_region_still_tail 7 (by kernel_rfl) (by kernel_rfl) ?_
          simp only [List.take_succ_cons, List.take_zero, List.drop_succ_cons, List.drop_zero]
          repeat still_step
          change wpList _ _ _ _ _ w1.drew
          have HB1d := Lib.hid (HB1.out.drew)
          have HPAd := Lib.hid (HPA.out.step (Below.refl w1.heap.size w1).drew)
          clear HB1 HPA HPB p0 p1 p2 q0 q1 q2 d1 d2
          go_wp2_with fail
          refine (sOrd_any y x oy o _).mono ?_
          rintro e w2 ⟨rfl, hb2⟩
          have HB2 := Lib.hid (below_nxt HB1d.out hb2)
          have HP2 := Lib.hid (HPAd.out.step hb2)
          clear hb2 HB1d HPAd
          generalize hce : Sk.ordE y x = ce' at *
          by_cases h0 : ce' = 0
          · have HJ3 := Lib.hid (HJ2.out h0)
            subst h0
            clear HNi HJ2 HJ
            go_wp2
            exact ⟨⟨k + 1 + 1, by omega, by first | rfl | go_num, HJ3, HB2, HP2⟩, by simp [intOf]; omega⟩
          · have hq := HNi.out h0
            subst hq
            have h0' : (q == 0) = false := by simpa using h0
            clear HNi HJ2 HJ h0
            go_wp2
            go_ret
            exact ⟨rfl, HB2.out⟩
      · have hc0 : cei = 2 := by rw [HEi.out, hx2, if_neg (by omega)]
        rw [hx2]
        have hq := HNi.out (by omega)
        subst hc0
        subst hq
        clear HEi HNi HJ2 HJ hx hx2
        go_wp2
        go_ret
        exact ⟨rfl, HB1.out⟩
    · obtain rfl : i = l.length := by omega
      have hq := HYes.out HJ.out
      clear HNo HYes HE HJ
      obtain ⟨p0, p1, p2⟩ := HP.out
      have hti : Sk.tim n = true ↔ 0 ≤ n ∧ n ≤ 1000000 := Sk.tim_iff
      cases htn : Sk.tim n <;> rw [htn] at hti hq <;> clear htn
      · simp only [Bool.false_eq_true, false_iff] at hti
        rw [if_neg (by decide)] at hq
        subst hq
        by_cases hn : n < 0
        · clear hti
          go_wp2
          go_ret
          exact ⟨rfl, HBW.out⟩
        · have hn2 : 1000000 < n := by omega
          clear hti hn
          go_wp2
          all_goals first | (go_ret; exact ⟨rfl, HBW.out⟩) | (exfalso; omega)
      · obtain ⟨hn1, hn2⟩ := hti.1 rfl
        rw [if_pos rfl] at hq
        subst hq
        clear hti
        go_wp2
        all_goals first | (go_ret; exact ⟨rfl, HBW.out⟩) | (exfalso; omega)
end Go.Proofs.YtecfbncfhehdcaaDoor

