/- Fits of package stroke. -/
import Derived.Test.YtecfbncfhehdcaaDoorQE
namespace Sk
theorem sui1_lt {E : List Bool} {k : Nat} {o : Bool} : sui1 E ((k : Int), o) = (decide (k < E.length) && (E.getD k false != o)) := by unfold sui1; simp
end Sk
namespace Go.Proofs.YtecfbncfhehdcaaDoor
open Go.RowKit
def FitP (q : Bool × Int) (w : World) (e : Ending) (w' : World) : Prop := e = .returned (.tuple #[.bool q.1, .int .i64 q.2]) ∧ Below w.heap.size w w'
set_option maxHeartbeats 4000000 in
set_option maxRecDepth 100000 in
theorem sFit_any (v ev : Value) (l : List Sk.Str) (n : Int) (E : List Bool) (w : World) (hs : SeeK w v l) (he : SeeB w ev E) : Calls Tryd.prog 72 #[.agg #[v, .int .i64 n], ev] w (FitP (Sk.fitV l n E) w) := by
  have CC := fun W (h : SeeK W v l) => Lib.hid (sStp_any v l n W h)
  have HS := Lib.hid hs
  have HE := Lib.hid he
  obtain ⟨ao, cap, rfl, hcap1, hcap2, hC⟩ := hs
  obtain ⟨eo, ecap, rfl, hecap1, hecap2, hCE⟩ := he
  have HC := Lib.hid hC
  have HCE := Lib.hid hCE
  obtain ⟨P0, L0, z0⟩ := boxP_new w (.slice ao l.length cap) (.int .i64 n) 70
  have HL := Lib.hid L0
  have HP := Lib.hid P0
  have HSX := Lib.hid (HS.out.step L0)
  clear hC hCE L0 P0 z0
  by_cases h1 : Sk.chkP l n = 0
  · obtain ⟨hR, hn1, hn2⟩ := Sk.chkP_ok h1
    have hv : Sk.fitV l n E = if 6 < E.length then (false, 5) else (Sk.sui l E, 0) := if_pos h1
    rw [h1] at CC
    by_cases h6 : 6 < E.length
    · have hv2 : Sk.fitV l n E = (false, 5) := by rw [hv, if_pos h6]
      rw [hv2]
      have h6' : decide (6 < (E.length : Int)) = true := decide_eq_true (by omega)
      clear hv hv2 h1 h6 hR
      go_enter Tryd.func72, Tryd.ntmps72
      go_wp2_with fail
      refine ((CC _ HSX.out).out).mono ?_
      rintro e w1 ⟨rfl, hb1⟩
      have HB1 := Lib.hid (below_nxt HL.out hb1)
      clear hb1
      go_wp2
      exact bodyPost_ret (v := .tuple #[.bool false, .int .i64 5]) (by simp [results, Tryd.results72, go_sem]) rfl ⟨rfl, HB1.out⟩
    · have hv2 : Sk.fitV l n E = (Sk.sui l E, 0) := by rw [hv, if_neg h6]
      have h6' : decide (6 < (E.length : Int)) = false := decide_eq_false (by omega)
      have HNo := Lib.hid (fun i (hi : i < l.length) (h : Sk.sui1 E (l.getD i Sk.d0) = false) => show Sk.fitV l n E = (false, 0) by rw [hv2, Sk.sui_no hi h])
      have HYes := Lib.hid (fun (h : ∀ i, i < l.length → Sk.sui1 E (l.getD i Sk.d0) = true) => show Sk.fitV l n E = (true, 0) by rw [hv2, Sk.sui_iff.2 h])
      have HAct := Lib.hid hR.act
      have hl6 := hR.le6
      have hE6 : E.length ≤ 6 := by omega
      clear hv hv2 h1 h6 hR
      generalize Sk.fitV l n E = q at *
      go_enter Tryd.func72, Tryd.ntmps72
      go_wp2_with fail
      refine ((CC _ HSX.out).out).mono ?_
      rintro e w1 ⟨rfl, hb1⟩
      have HB1 := Lib.hid (below_nxt HL.out hb1)
      obtain ⟨p0, p1, p2⟩ := HP.out.step hb1
      clear hb1
      go_wp2
      clear p0 p1 p2
      go_loopw [20] (fun s18 wr => ∃ i : Nat, i ≤ l.length ∧ s18 = .int .i64 (i : Int) ∧ Hid (∀ a, a < i → Sk.sui1 E (l.getD a Sk.d0) = true) ∧ Hid (Below w.heap.size w wr)) (fun s18 _ => l.length - (intOf s18).toNat)
      case atStart => exact ⟨0, Nat.zero_le _, rfl, Lib.hid (fun a h => by omega), HB1⟩
      case round =>
        clear HP HL HB1
        obtain ⟨i, hi, rfl, HJ, HBW⟩ := hrel
        by_cases hil : i < l.length
        · obtain ⟨g, off, rfl, hg, c1, c2⟩ := HC.out.at HBW.out hil
          have HNi := Lib.hid (HNo.out i hil)
          have hact := HAct.out i hil
          have HJ2 : Hid (Sk.sui1 E (l.getD i Sk.d0) = true → ∀ a, a < i + 1 → Sk.sui1 E (l.getD a Sk.d0) = true) := Lib.hid (fun h a ha => by
            by_cases e : a = i
            · rw [e]; exact h
            · exact HJ.out a (by omega))
          clear HNo HYes HJ HAct
          generalize l.getD i Sk.d0 = y at *
          obtain ⟨x, o⟩ := y
          simp only at hact c1 c2
          obtain ⟨k, rfl⟩ := Int.eq_ofNat_of_zero_le hact.1
          rw [Sk.sui1_lt] at HNi HJ2
          obtain ⟨P1, L1, z1⟩ := boxP_new wr (.int .i64 (k : Int)) (.bool o) 47
          have HB1 := Lib.hid (below_nxt HBW.out L1)
          obtain ⟨p0, p1, p2⟩ := P1
          clear L1 z1
          by_cases hk : k < E.length
          · obtain ⟨ge, oe, rfl, hge, d1⟩ := HCE.out.at HBW.out hk
            have d2 := (allocB wr (.cells #[.int .i64 (k : Int), .bool o] 47)).cell (p := ⟨ge, oe + k, none⟩) (Nat.lt_of_lt_of_le hge HBW.out.size)
            rw [d1] at d2
            have hd : decide (E.length ≤ k) = false := decide_eq_false (by omega)
            have hkz : (k : Int) < (E.length : Int) := by omega
            rw [decide_eq_true hk, Bool.true_and] at HNi HJ2
            generalize E.getD k false = b at *
            cases hbo : (b != o)
            · have hq := HNi.out hbo
              have hbo' : (b == o) = true := by revert hbo; cases b <;> cases o <;> decide
              subst hq
              clear HNi HJ2 hbo d1
              go_wp2
              go_quiet (fail)
              go_wp2
              exact bodyPost_ret (v := .tuple #[.bool false, .int .i64 0]) (by simp [results, Tryd.results72, go_sem]) rfl ⟨rfl, HB1.out.trans (below_drewN _ _)⟩
            · have HJ3 := Lib.hid (HJ2.out hbo)
              have hbo' : (b == o) = false := by revert hbo; cases b <;> cases o <;> decide
              clear HNi HJ2 hbo d1
              go_wp2
              go_quiet (fail)
              go_wp2
              exact ⟨⟨i + 1, by omega, by first | rfl | go_num, HJ3, Lib.hid (HB1.out.trans (below_drewN _ _))⟩, by simp [intOf]; omega⟩
          · have hq := HNi.out (by rw [decide_eq_false hk]; rfl)
            have hd : decide (E.length ≤ k) = true := decide_eq_true (by omega)
            subst hq
            clear HNi HJ2
            go_wp2
            go_quiet (fail)
            go_wp2
            exact bodyPost_ret (v := .tuple #[.bool false, .int .i64 0]) (by simp [results, Tryd.results72, go_sem]) rfl ⟨rfl, HB1.out.trans (below_drewN _ _)⟩
        · obtain rfl : i = l.length := by omega
          have hq := HYes.out HJ.out
          subst hq
          clear HNo HYes HJ HAct
          go_wp2
          exact bodyPost_ret (v := .tuple #[.bool true, .int .i64 0]) (by simp [results, Tryd.results72, go_sem]) rfl ⟨rfl, HBW.out⟩
  · have hv : Sk.fitV l n E = (false, Sk.chkP l n) := if_neg h1
    rw [hv]
    have h1' : (Sk.chkP l n == 0) = false := by simpa using h1
    clear hv h1
    generalize Sk.chkP l n = q at *
    go_enter Tryd.func72, Tryd.ntmps72
    go_wp2_with fail
    refine ((CC _ HSX.out).out).mono ?_
    rintro e w1 ⟨rfl, hb1⟩
    have HB1 := Lib.hid (below_nxt HL.out hb1)
    clear hb1
    go_wp2
    exact bodyPost_ret (v := .tuple #[.bool false, .int .i64 q]) (by simp [results, Tryd.results72, go_sem]) rfl ⟨rfl, HB1.out⟩
end Go.Proofs.YtecfbncfhehdcaaDoor

