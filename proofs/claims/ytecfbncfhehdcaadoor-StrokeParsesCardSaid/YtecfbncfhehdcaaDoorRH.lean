/- Fits of the reference. -/
import Derived.Test.YtecfbncfhehdcaaDoorRG
namespace Go.Proofs.YtecfbncfhehdcaaDoor
open Go.RowKit
def givV (l : List Sk.Str) (n : Int) (E : List Bool) : Int := if Sk.chkP l n = 0 then (if 6 < E.length then 5 else 0) else Sk.chkP l n
set_option maxHeartbeats 8000000 in
set_option maxRecDepth 100000 in
theorem rSui_any (v ev : Value) (l : List Sk.Str) (n : Int) (E : List Bool) (w : World) (hs : SeeK w v l) (he : SeeB w ev E) (hR : Sk.RtL l) : Calls Tryd.prog 93 #[.agg #[v, .int .i64 n], ev] w fun e w' => e = .returned (.bool (Sk.sui l E)) ∧ Below w.heap.size w w' := by
  obtain ⟨ao, cap, rfl, hcap1, hcap2, hC⟩ := hs
  obtain ⟨eo, ecap, rfl, hecap1, hecap2, hCE⟩ := he
  have HC := Lib.hid hC
  have HCE := Lib.hid hCE
  obtain ⟨P0, L0, z0⟩ := boxP_new w (.slice ao l.length cap) (.int .i64 n) 70
  have HL := Lib.hid L0
  have HP := Lib.hid P0
  have HNo := Lib.hid (fun i (hi : i < l.length) (h : Sk.sui1 E (l.getD i Sk.d0) = false) => Sk.sui_no hi h)
  have HYes := Lib.hid (fun (h : ∀ i, i < l.length → Sk.sui1 E (l.getD i Sk.d0) = true) => Sk.sui_iff.2 h)
  have HAct := Lib.hid hR.act
  have hl6 := hR.le6
  clear hC hCE L0 P0 z0 hR
  generalize Sk.sui l E = q at *
  go_enter Tryd.func93, Tryd.ntmps93
  go_wp2
  go_loopw [5] (fun s5 wr => ∃ i : Nat, i ≤ l.length ∧ s5 = .int .i64 (i : Int) ∧ Hid (∀ a, a < i → Sk.sui1 E (l.getD a Sk.d0) = true) ∧ Hid (Below w.heap.size w wr) ∧ Hid (BoxP wr w.heap.size (.slice ao l.length cap) (.int .i64 n))) (fun s5 _ => l.length - (intOf s5).toNat)
  case atStart => exact ⟨0, Nat.zero_le _, rfl, Lib.hid (fun a h => by omega), HL, HP⟩
  case round =>
    clear HP HL
    obtain ⟨i, hi, rfl, HJ, HBW, HP⟩ := hrel
    obtain ⟨x0, x1, x2⟩ := HP.out
    have hwi : IntKind.i64.wrap (i : Int) = (i : Int) := IntWalk.i64_in _ (by omega)
    by_cases hil : i < l.length
    · obtain ⟨g, off, rfl, hg, c1, c2⟩ := HC.out.at HBW.out hil
      have HNi := Lib.hid (HNo.out i hil)
      have hact := HAct.out i hil
      have HJ2 : Hid (Sk.sui1 E (l.getD i Sk.d0) = true → ∀ a, a < i + 1 → Sk.sui1 E (l.getD a Sk.d0) = true) := Lib.hid (fun h a ha => by
        by_cases e : a = i
        · rw [e]; exact h
        · exact HJ.out a (by omega))
      clear HNo HYes HJ HAct
      generalize l.getD i Sk.d0 = y at *
      obtain ⟨x, o⟩ := y
      simp only at hact c1 c2
      obtain ⟨k, rfl⟩ := Int.eq_ofNat_of_zero_le hact.1
      rw [Sk.sui1_lt] at HNi HJ2
      obtain ⟨P1, L1, z1⟩ := boxP_new wr (.int .i64 (k : Int)) (.bool o) 47
      have HB1 := Lib.hid (below_nxt HBW.out L1)
      have HP1 := Lib.hid (HP.out.step L1)
      obtain ⟨p0, p1, p2⟩ := P1
      clear L1 z1
      by_cases hk : k < E.length
      · obtain ⟨ge, oe, rfl, hge, d1⟩ := HCE.out.at HBW.out hk
        have d2 := (allocB wr (.cells #[.int .i64 (k : Int), .bool o] 47)).cell (p := ⟨ge, oe + k, none⟩) (Nat.lt_of_lt_of_le hge HBW.out.size)
        rw [d1] at d2
        have hd : decide (E.length ≤ k) = false := decide_eq_false (by omega)
        have hkz : (k : Int) < (E.length : Int) := by omega
        rw [decide_eq_true hk, Bool.true_and] at HNi HJ2
        generalize E.getD k false = b at *
        cases hbo : (b != o)
        · have hq := HNi.out hbo
          have hbo' : (b == o) = true := by revert hbo; cases b <;> cases o <;> decide
          subst hq
          clear HNi HJ2 hbo d1
          go_wp2
          go_quiet (fail)
          go_wp2
          go_ret
          exact ⟨rfl, HB1.out.trans (below_drewN _ _)⟩
        · have HJ3 := Lib.hid (HJ2.out hbo)
          have hbo' : (b == o) = false := by revert hbo; cases b <;> cases o <;> decide
          clear HNi HJ2 hbo d1
          go_wp2
          go_quiet (fail)
          go_wp2
          exact ⟨⟨i + 1, by omega, by first | rfl | go_num, HJ3, Lib.hid (HB1.out.trans (below_drewN _ _)), Lib.hid (HP1.out.step (below_drewN _ _))⟩, by simp [intOf]; omega⟩
      · have hq := HNi.out (by rw [decide_eq_false hk]; rfl)
        have hd : decide (E.length ≤ k) = true := decide_eq_true (by omega)
        subst hq
        clear HNi HJ2
        go_wp2
        go_quiet (fail)
        go_wp2
        go_ret
        exact ⟨rfl, HB1.out.trans (below_drewN _ _)⟩
    · obtain rfl : i = l.length := by omega
      have hq := HYes.out HJ.out
      subst hq
      clear HNo HYes HJ HAct
      go_wp2
      go_ret
      exact ⟨rfl, HBW.out⟩
theorem givV_ok {l : List Sk.Str} {n : Int} {E : List Bool} (h : givV l n E = 0) : Sk.chkP l n = 0 ∧ E.length ≤ 6 := by
  unfold givV at h
  by_cases h1 : Sk.chkP l n = 0
  · rw [if_pos h1] at h
    by_cases h6 : 6 < E.length
    · rw [if_pos h6] at h; omega
    · exact ⟨h1, by omega⟩
  · rw [if_neg h1] at h; exact absurd h h1
theorem fit_good {l : List Sk.Str} {n : Int} {E : List Bool} (h : givV l n E = 0) : Sk.fitV l n E = (Sk.sui l E, 0) := by
  obtain ⟨h1, h2⟩ := givV_ok h
  unfold Sk.fitV; rw [if_pos h1, if_neg (by omega)]
theorem fit_bad {l : List Sk.Str} {n : Int} {E : List Bool} (h : givV l n E ≠ 0) : Sk.fitV l n E = (false, givV l n E) := by
  unfold givV at h ⊢; unfold Sk.fitV
  by_cases h1 : Sk.chkP l n = 0
  · rw [if_pos h1] at h ⊢
    rw [if_pos h1]
    by_cases h6 : 6 < E.length
    · rw [if_pos h6, if_pos h6]
    · rw [if_neg h6] at h; exact absurd rfl h
  · rw [if_neg h1, if_neg h1]
theorem app_good {l : List Sk.Str} {n : Int} {E : List Bool} (h : givV l n E = 0) : Sk.appV l n E = if Sk.sui l E then (Sk.aft l E, 0) else ([], 14) := by
  obtain ⟨h1, h2⟩ := givV_ok h
  unfold Sk.appV; rw [if_pos h1, if_neg (by omega)]
theorem app_bad {l : List Sk.Str} {n : Int} {E : List Bool} (h : givV l n E ≠ 0) : Sk.appV l n E = ([], givV l n E) := by
  unfold givV at h ⊢; unfold Sk.appV
  by_cases h1 : Sk.chkP l n = 0
  · rw [if_pos h1] at h ⊢
    rw [if_pos h1]
    by_cases h6 : 6 < E.length
    · rw [if_pos h6, if_pos h6]
    · rw [if_neg h6] at h; exact absurd rfl h
  · rw [if_neg h1, if_neg h1]
end Go.Proofs.YtecfbncfhehdcaaDoor

