/- Moves of package sequence: its call. SameSteps of the reference. Same of package sequence: slices.EqualFunc over steps. Same of the reference; Text of package sequence. moves and Few of the reference of layer 14. -/
import Derived.Test.YtjpbccpleflkhaaDoorG12
import Derived.Test.YtjpbccpleflkhaaDoorG08
import Derived.Test.YtjpbccpleflkhaaDoorG03
import Derived.Test.YtjpbccpleflkhaaDoorG07
namespace Sq
open Sk
/-- What Moves answers. -/
def movV (n : Int) (L : List Stp) (a : Int) : List Int × Int := if chk n L = 0 then (if 0 ≤ a ∧ a < n then (mvI L a L.length, 0) else ([], 2)) else ([], chk n L)
end Sq
namespace Go.Proofs.YtjpbccpleflkhaaDoor
open Go.RowKit Go.Shelf
attribute [local go_sem] Oper.semAt_some
set_option maxHeartbeats 8000000 in
set_option maxRecDepth 100000 in
theorem qMov_any (n : Int) (v : Value) (L : List Sk.Stp) (a : Int) (w : World) (hs : SeeT w v L) : Calls Tryd.prog 28 #[.agg #[.int .i64 n, v], .int .i64 a] w (RepP (Sq.movV n L a) w) := by
  have HS := Lib.hid hs
  obtain ⟨ao, cap, rfl, hcap1, hcap2, -⟩ := hs
  have CC := fun V (h : SeeT V (.slice ao L.length cap) L) => Lib.hid (qChk_any n (.slice ao L.length cap) L V h)
  obtain ⟨P0, L0, z0⟩ := boxP_new w (.int .i64 n) (.slice ao L.length cap) 32
  have HL0 := Lib.hid L0
  have HP0 := Lib.hid P0
  by_cases hc : Sq.chk n L = 0
  · rw [hc] at CC
    have hR := Sq.chk_ok hc
    have hl64 := hR.l64
    by_cases ha : 0 ≤ a ∧ a < n
    · have hv : Sq.movV n L a = (Sq.mvI L a L.length, 0) := by unfold Sq.movV; rw [if_pos hc, if_pos ha]
      rw [hv]
      obtain ⟨ha0, han⟩ := ha
      have CM := fun V (h : SeeT V (.slice ao L.length cap) L) => Lib.hid (sMov_any n (.slice ao L.length cap) L a V h hl64)
      clear hc hR hv
      obtain ⟨p0, p1, p2⟩ := P0
      clear L0 z0
      generalize Sq.mvI L a L.length = M at *
      go_enter Tryd.func28, Tryd.ntmps28
      go_wp2_with fail
      refine ((CC _ (HS.out.step HL0.out)).out).mono ?_
      rintro e w1 ⟨rfl, hb1⟩
      have HB1 := Lib.hid (below_nxt HL0.out hb1)
      have HP1 := Lib.hid (HP0.out.step hb1)
      have HS1 := Lib.hid (HS.out.step HB1.out)
      obtain ⟨q0, q1, q2⟩ := HP1.out
      clear hb1 p0 p1 p2
      go_wp2_with fail
      refine ((CM _ HS1.out).out).mono ?_
      rintro e w2 ⟨a2, c2, rfl, hse, hb2⟩
      have HB2 := Lib.hid (below_nxt HB1.out hb2)
      have HSE := Lib.hid hse
      clear hb2 hse q0 q1 q2
      go_wp2
      exact bodyPost_ret (v := .tuple #[.slice a2 M.length c2, .int .i64 0]) (by simp [results, Tryd.f28, go_sem]) rfl ⟨a2, c2, rfl, HSE.out, HB2.out⟩
    · have hv : Sq.movV n L a = ([], 2) := by unfold Sq.movV; rw [if_pos hc, if_neg ha]
      rw [hv]
      have hn1 := hR.n1
      clear hc hR hv
      obtain ⟨p0, p1, p2⟩ := P0
      clear L0 z0
      rcases (show a < 0 ∨ (0 ≤ a ∧ n ≤ a) by omega) with h1 | ⟨h1, h2⟩
      all_goals
        clear ha
        go_enter Tryd.func28, Tryd.ntmps28
        go_wp2_with fail
        refine ((CC _ (HS.out.step HL0.out)).out).mono ?_
        rintro e w1 ⟨rfl, hb1⟩
        have HB1 := Lib.hid (below_nxt HL0.out hb1)
        have HP1 := Lib.hid (HP0.out.step hb1)
        obtain ⟨q0, q1, q2⟩ := HP1.out
        clear hb1 p0 p1 p2
        go_wp2
        exact bodyPost_ret (v := .tuple #[.slice none 0 0, .int .i64 2]) (by simp [results, Tryd.f28, go_sem]) rfl ⟨none, 0, rfl, SeeI.nil _, HB1.out⟩
  · have hv : Sq.movV n L a = ([], Sq.chk n L) := by unfold Sq.movV; rw [if_neg hc]
    rw [hv]
    have hct : (Sq.chk n L != 0) = true := by simpa using hc
    clear hv hc
    generalize Sq.chk n L = c at *
    obtain ⟨p0, p1, p2⟩ := P0
    clear L0 z0
    go_enter Tryd.func28, Tryd.ntmps28
    go_wp2_with fail
    refine ((CC _ (HS.out.step HL0.out)).out).mono ?_
    rintro e w1 ⟨rfl, hb1⟩
    have HB1 := Lib.hid (below_nxt HL0.out hb1)
    clear hb1 p0 p1 p2
    go_wp2
    exact bodyPost_ret (v := .tuple #[.slice none 0 0, .int .i64 c]) (by simp [results, Tryd.f28, go_sem]) rfl ⟨none, 0, rfl, SeeI.nil _, HB1.out⟩
end Go.Proofs.YtjpbccpleflkhaaDoor

namespace Sk
theorem stp_eq {x y : Stp} (h : sameV x.1 x.2 y.1 y.2 = true) : x = y := by
  unfold sameV at h
  rw [Bool.and_eq_true, decide_eq_true_iff, decide_eq_true_iff] at h
  exact Prod.ext h.2 h.1
theorem stp_ne {x y : Stp} (h : sameV x.1 x.2 y.1 y.2 = false) : x ≠ y := by
  rintro rfl
  unfold sameV at h
  simp at h
end Sk
namespace Go.Proofs.YtjpbccpleflkhaaDoor
open Go.RowKit
set_option maxHeartbeats 8000000 in
set_option maxRecDepth 100000 in
theorem rSmT_any (u v : Value) (L M : List Sk.Stp) (w : World) (hu : SeeT w u L) (hv : SeeT w v M) : Calls Tryd.prog 14 #[u, v] w fun e w' => e = .returned (.bool (decide (L = M))) ∧ Below w.heap.size w w' := by
  obtain ⟨ao, cap, rfl, hcap1, hcap2, hC⟩ := hu
  obtain ⟨bo, bcap, rfl, hbcap1, hbcap2, hD⟩ := hv
  have HC := Lib.hid hC
  have HD := Lib.hid hD
  clear hC hD
  by_cases hlm : L.length = M.length
  · have HNo := Lib.hid (fun i (h : L.getD i Sk.t0 ≠ M.getD i Sk.t0) => decide_eq_false (Sk.list_ne h))
    have HYes := Lib.hid (fun h => decide_eq_true (Sk.list_eq Sk.t0 hlm h))
    have hqz : ((L.length : Int) != (M.length : Int)) = false := by rw [hlm]; simp
    have HLM := Lib.hid hlm
    generalize decide (L = M) = q at *
    clear hlm
    go_enter Tryd.func14, Tryd.ntmps14
    go_wp2
    go_loopw [5] (fun s5 wr => ∃ i : Nat, i ≤ L.length ∧ s5 = .int .i64 (i : Int) ∧ Hid (∀ a, a < i → L.getD a Sk.t0 = M.getD a Sk.t0) ∧ Hid (Below w.heap.size w wr)) (fun s5 _ => L.length - (intOf s5).toNat)
    case atStart => exact ⟨0, Nat.zero_le _, rfl, Lib.hid (fun a h => by omega), Lib.hid (Below.refl _ _)⟩
    case round =>
      obtain ⟨i, hi, rfl, HJ, HBW⟩ := hrel
      have hwi : IntKind.i64.wrap (i : Int) = (i : Int) := IntWalk.i64_in _ (by omega)
      by_cases hil : i < L.length
      · have him : i < M.length := by rw [← HLM.out]; exact hil
        obtain ⟨g, off, ak, ck, rfl, hg, c1, c2, hk⟩ := (HC.out.step HBW.out).at (Below.refl _ _) hil
        obtain ⟨g', off', bk, dk, rfl, hg', d1, d2, hk'⟩ := (HD.out.step HBW.out).at (Below.refl _ _) him
        have himz : (i : Int) < (M.length : Int) := by omega
        have HNi := Lib.hid (HNo.out i)
        have HJ2 : Hid (L.getD i Sk.t0 = M.getD i Sk.t0 → ∀ a, a < i + 1 → L.getD a Sk.t0 = M.getD a Sk.t0) := Lib.hid (fun h a ha => by
          by_cases e : a = i
          · rw [e]; exact h
          · exact HJ.out a (by omega))
        clear HNo HYes HJ HC HD
        generalize L.getD i Sk.t0 = x at *
        generalize M.getD i Sk.t0 = y at *
        obtain ⟨l, n⟩ := x
        obtain ⟨m, k⟩ := y
        simp only at c1 c2 d1 d2 hk hk'
        have hd := (Below.refl wr.heap.size wr).drew
        have SU := Lib.hid (hk.step hd)
        have SV := Lib.hid (hk'.step hd)
        have HB := Lib.hid (HBW.out.trans (hd.mono HBW.out.size))
        have P1 := (hd.cell (p := ⟨g, off + i * 2, none⟩) hg).trans c1
        have P2 := (hd.cell (p := ⟨g, off + i * 2 + 1, none⟩) hg).trans c2
        have P3 := (hd.cell (p := ⟨g', off' + i * 2, none⟩) hg').trans d1
        have P4 := (hd.cell (p := ⟨g', off' + i * 2 + 1, none⟩) hg').trans d2
        have CS := fun W (h : SeeK W (.slice ak l.length ck) l) (h2 : SeeK W (.slice bk m.length dk) m) => Lib.hid (rSame_any (.slice ak l.length ck) (.slice bk m.length dk) l m n k W h h2)
        have HE := Lib.hid (Sk.stp_eq (x := (l, n)) (y := (m, k)))
        have HN := Lib.hid (Sk.stp_ne (x := (l, n)) (y := (m, k)))
        simp only at HE HN
        clear hk hk' hd
        generalize Sk.sameV l n m k = f at *
        cases f
        · have hq := HNi.out (HN.out rfl)
          clear HE HN HNi HJ2
          go_wp2
          go_region_held3 (fun W => W.cell? ⟨g, off + i * 2, none⟩ = some (.slice ak l.length ck) ∧ W.cell? ⟨g, off + i * 2 + 1, none⟩ = some (.int .i64 n) ∧ W.cell? ⟨g', off' + i * 2, none⟩ = some (.slice bk m.length dk) ∧ W.cell? ⟨g', off' + i * 2 + 1, none⟩ = some (.int .i64 k))
            (first | (refine ⟨?_, ?_, ?_, ?_⟩ <;> with_reducible assumption) | (go_split_ands; refine ⟨?_, ?_, ?_, ?_⟩ <;> with_reducible assumption))
            (first | (go_at_call 57; (with_reducible refine ((CS _ SU.out SV.out).out).mono ?_); rintro e wn ⟨rfl, hb⟩; have HBq := Lib.hid (HB.out.trans (hb.mono HB.out.size)); have P1q := (hb.cell (p := ⟨g, off + i * 2, none⟩) (Nat.lt_of_lt_of_le hg (by simp))).trans P1; have P2q := (hb.cell (p := ⟨g, off + i * 2 + 1, none⟩) (Nat.lt_of_lt_of_le hg (by simp))).trans P2; have P3q := (hb.cell (p := ⟨g', off' + i * 2, none⟩) (Nat.lt_of_lt_of_le hg' (by simp))).trans P3; have P4q := (hb.cell (p := ⟨g', off' + i * 2 + 1, none⟩) (Nat.lt_of_lt_of_le hg' (by simp))).trans P4; clear HB P1 P2 P3 P4 hb; have HB := HBq; have P1 := P1q; have P2 := P2q; have P3 := P3q; have P4 := P4q; clear HBq P1q P2q P3q P4q))
          all_goals (go_wp2; go_ret; exact ⟨(by rw [hq]; rfl), HB.out⟩)
        · have HJ3 := Lib.hid (HJ2.out (HE.out rfl))
          clear HE HN HNi HJ2
          go_wp2
          go_region_held3 (fun W => W.cell? ⟨g, off + i * 2, none⟩ = some (.slice ak l.length ck) ∧ W.cell? ⟨g, off + i * 2 + 1, none⟩ = some (.int .i64 n) ∧ W.cell? ⟨g', off' + i * 2, none⟩ = some (.slice bk m.length dk) ∧ W.cell? ⟨g', off' + i * 2 + 1, none⟩ = some (.int .i64 k))
            (first | (refine ⟨?_, ?_, ?_, ?_⟩ <;> with_reducible assumption) | (go_split_ands; refine ⟨?_, ?_, ?_, ?_⟩ <;> with_reducible assumption))
            (first | (go_at_call 57; (with_reducible refine ((CS _ SU.out SV.out).out).mono ?_); rintro e wn ⟨rfl, hb⟩; have HBq := Lib.hid (HB.out.trans (hb.mono HB.out.size)); have P1q := (hb.cell (p := ⟨g, off + i * 2, none⟩) (Nat.lt_of_lt_of_le hg (by simp))).trans P1; have P2q := (hb.cell (p := ⟨g, off + i * 2 + 1, none⟩) (Nat.lt_of_lt_of_le hg (by simp))).trans P2; have P3q := (hb.cell (p := ⟨g', off' + i * 2, none⟩) (Nat.lt_of_lt_of_le hg' (by simp))).trans P3; have P4q := (hb.cell (p := ⟨g', off' + i * 2 + 1, none⟩) (Nat.lt_of_lt_of_le hg' (by simp))).trans P4; clear HB P1 P2 P3 P4 hb; have HB := HBq; have P1 := P1q; have P2 := P2q; have P3 := P3q; have P4 := P4q; clear HBq P1q P2q P3q P4q))
          all_goals (go_wp2; exact ⟨⟨i + 1, by omega, by first | rfl | go_num, HJ3, HB⟩, by simp [intOf]; omega⟩)
      · obtain rfl : i = L.length := by omega
        have hv := HYes.out HJ.out
        go_wp2
        go_ret
        exact ⟨(by rw [hv]; rfl), HBW.out⟩
  · have hv : decide (L = M) = false := decide_eq_false (fun e => hlm (by rw [e]))
    have hq : ((L.length : Int) == (M.length : Int)) = false := by rw [beq_eq_false_iff_ne]; omega
    have hqn : (L.length == M.length) = false := by rw [beq_eq_false_iff_ne]; omega
    rw [hv]
    clear hv hlm
    go_enter Tryd.func14, Tryd.ntmps14
    go_wp2
    go_ret
    exact ⟨rfl, Below.refl _ _⟩
end Go.Proofs.YtjpbccpleflkhaaDoor

namespace Go.Proofs.YtjpbccpleflkhaaDoor
open Go.RowKit Go.Shelf
attribute [local go_sem] Oper.semAt_some
set_option maxHeartbeats 8000000 in
set_option maxRecDepth 100000 in
theorem eqF_any (u v : Value) (L M : List Sk.Stp) (w : World) (hu : SeeT w u L) (hv : SeeT w v M) : Calls Tryd.prog 65 #[u, v, .func (.func 66) #[] #[]] w fun e w' => e = .returned (.bool (decide (L = M))) ∧ Below w.heap.size w w' := by
  obtain ⟨ao, cap, rfl, hcap1, hcap2, hC⟩ := hu
  obtain ⟨bo, bcap, rfl, hbcap1, hbcap2, hD⟩ := hv
  have HC := Lib.hid hC
  have HD := Lib.hid hD
  clear hC hD
  by_cases hlm : L.length = M.length
  · have HNo := Lib.hid (fun i (h : L.getD i Sk.t0 ≠ M.getD i Sk.t0) => decide_eq_false (Sk.list_ne h))
    have HYes := Lib.hid (fun h => decide_eq_true (Sk.list_eq Sk.t0 hlm h))
    have hqz : ((L.length : Int) != (M.length : Int)) = false := by rw [hlm]; simp
    have HLM := Lib.hid hlm
    generalize decide (L = M) = q at *
    clear hlm
    go_enter Tryd.func65, Tryd.ntmps65
    go_wp2
    go_loopw [17] (fun s17 wr => ∃ i : Nat, i ≤ L.length ∧ s17 = .int .i64 (i : Int) ∧ Hid (∀ a, a < i → L.getD a Sk.t0 = M.getD a Sk.t0) ∧ Hid (Below w.heap.size w wr)) (fun s17 _ => L.length - (intOf s17).toNat)
    case atStart => exact ⟨0, Nat.zero_le _, rfl, Lib.hid (fun a h => by omega), Lib.hid (Below.refl _ _)⟩
    case round =>
      obtain ⟨i, hi, rfl, HJ, HBW⟩ := hrel
      by_cases hil : i < L.length
      · have him : i < M.length := by rw [← HLM.out]; exact hil
        obtain ⟨g, off, ak, ck, rfl, hg, c1, c2, hk⟩ := (HC.out.step HBW.out).at (Below.refl _ _) hil
        obtain ⟨g', off', bk, dk, rfl, hg', d1, d2, hk'⟩ := (HD.out.step HBW.out).at (Below.refl _ _) him
        have himz : (i : Int) < (M.length : Int) := by omega
        have HNi := Lib.hid (HNo.out i)
        have HJ2 : Hid (L.getD i Sk.t0 = M.getD i Sk.t0 → ∀ a, a < i + 1 → L.getD a Sk.t0 = M.getD a Sk.t0) := Lib.hid (fun h a ha => by
          by_cases e : a = i
          · rw [e]; exact h
          · exact HJ.out a (by omega))
        clear HNo HYes HJ HC HD
        generalize L.getD i Sk.t0 = x at *
        generalize M.getD i Sk.t0 = y at *
        obtain ⟨l, n⟩ := x
        obtain ⟨m, k⟩ := y
        simp only at c1 c2 d1 d2 hk hk'
        have L1 := allocB wr (.cells #[.slice ak l.length ck, .int .i64 n] 70)
        have L2 := allocB (wr.alloc (.cells #[.slice ak l.length ck, .int .i64 n] 70)) (.cells #[.slice bk m.length dk, .int .i64 k] 70)
        have e1 := (L1.cell (p := ⟨g', off' + i * 2, none⟩) hg').trans d1
        have e2 := (L1.cell (p := ⟨g', off' + i * 2 + 1, none⟩) hg').trans d2
        obtain ⟨P1, -, -⟩ := boxP_new wr (.slice ak l.length ck) (.int .i64 n) 70
        obtain ⟨P2, -, -⟩ := boxP_new (wr.alloc (.cells #[.slice ak l.length ck, .int .i64 n] 70)) (.slice bk m.length dk) (.int .i64 k) 70
        have P1' := P1.step L2
        obtain ⟨p0, p1, p2⟩ := P1'
        obtain ⟨q0, q1, q2⟩ := P2
        have SU := Lib.hid ((hk.step L1).step L2)
        have SV := Lib.hid ((hk'.step L1).step L2)
        have HB := Lib.hid (below_nxt (below_nxt HBW.out L1) L2)
        have CS := fun W (h : SeeK W (.slice ak l.length ck) l) (h2 : SeeK W (.slice bk m.length dk) m) => Lib.hid (sSame_any (.slice ak l.length ck) (.slice bk m.length dk) l m n k W h h2)
        have HE := Lib.hid (Sk.stp_eq (x := (l, n)) (y := (m, k)))
        have HN := Lib.hid (Sk.stp_ne (x := (l, n)) (y := (m, k)))
        simp only at HE HN
        clear hk hk' L1 L2 P1
        generalize Sk.sameV l n m k = f at *
        cases f
        · have hq := HNi.out (HN.out rfl)
          clear HE HN HNi HJ2
          go_wp2_with fail
          refine ((CS _ SU.out SV.out).out).mono ?_
          rintro e w1 ⟨rfl, hb1⟩
          have HB1 := Lib.hid (below_nxt HB.out hb1)
          clear hb1
          go_wp2
          go_ret
          exact ⟨(by rw [hq]; rfl), HB1.out⟩
        · have HJ3 := Lib.hid (HJ2.out (HE.out rfl))
          clear HE HN HNi HJ2
          go_wp2_with fail
          refine ((CS _ SU.out SV.out).out).mono ?_
          rintro e w1 ⟨rfl, hb1⟩
          have HB1 := Lib.hid (below_nxt HB.out hb1)
          clear hb1
          go_wp2
          exact ⟨⟨i + 1, by omega, by first | rfl | go_num, HJ3, HB1⟩, by simp [intOf]; omega⟩
      · obtain rfl : i = L.length := by omega
        have hv := HYes.out HJ.out
        go_wp2
        go_ret
        exact ⟨(by rw [hv]; rfl), HBW.out⟩
  · have hv : decide (L = M) = false := decide_eq_false (fun e => hlm (by rw [e]))
    have hq : ((L.length : Int) == (M.length : Int)) = false := by rw [beq_eq_false_iff_ne]; omega
    have hqn : (L.length == M.length) = false := by rw [beq_eq_false_iff_ne]; omega
    rw [hv]
    clear hv hlm
    go_enter Tryd.func65, Tryd.ntmps65
    go_wp2
    go_ret
    exact ⟨rfl, Below.refl _ _⟩
set_option maxHeartbeats 8000000 in
set_option maxRecDepth 100000 in
theorem qSame_any (n k : Int) (u v : Value) (L M : List Sk.Stp) (w : World) (hu : SeeT w u L) (hv : SeeT w v M) : Calls Tryd.prog 24 #[.agg #[.int .i64 n, u], .agg #[.int .i64 k, v]] w fun e w' => e = .returned (.bool (decide (n = k ∧ L = M))) ∧ Below w.heap.size w w' := by
  have HU := Lib.hid hu
  have HV := Lib.hid hv
  obtain ⟨ao, cap, rfl, -⟩ := hu
  obtain ⟨bo, bcap, rfl, -⟩ := hv
  have CE := fun W (h : SeeT W (.slice ao L.length cap) L) (h2 : SeeT W (.slice bo M.length bcap) M) => Lib.hid (eqF_any (.slice ao L.length cap) (.slice bo M.length bcap) L M W h h2)
  have L1 := allocB w (.cells #[.int .i64 n, .slice ao L.length cap] 32)
  have L2 := allocB (w.alloc (.cells #[.int .i64 n, .slice ao L.length cap] 32)) (.cells #[.int .i64 k, .slice bo M.length bcap] 32)
  obtain ⟨P1, -, -⟩ := boxP_new w (.int .i64 n) (.slice ao L.length cap) 32
  obtain ⟨P2, -, -⟩ := boxP_new (w.alloc (.cells #[.int .i64 n, .slice ao L.length cap] 32)) (.int .i64 k) (.slice bo M.length bcap) 32
  obtain ⟨p0, p1, p2⟩ := P1.step L2
  obtain ⟨q0, q1, q2⟩ := P2
  have SU := Lib.hid ((HU.out.step L1).step L2)
  have SV := Lib.hid ((HV.out.step L1).step L2)
  have HB := Lib.hid (below_nxt L1 L2)
  clear P1 L1 L2
  by_cases hnk : n = k
  · subst hnk
    rw [show decide (n = n ∧ L = M) = decide (L = M) from decide_eq_decide.2 ⟨fun h => h.2, fun h => ⟨rfl, h⟩⟩]
    generalize decide (L = M) = q at *
    go_enter Tryd.func24, Tryd.ntmps24
    go_wp2_with fail
    refine ((CE _ SU.out SV.out).out).mono ?_
    rintro e w1 ⟨rfl, hb1⟩
    have HB1 := Lib.hid (below_nxt HB.out hb1)
    clear hb1
    go_wp2
    go_ret
    exact ⟨rfl, HB1.out⟩
  · rw [show decide (n = k ∧ L = M) = false from decide_eq_false (fun h => hnk h.1)]
    have hq : (n == k) = false := by rw [beq_eq_false_iff_ne]; exact hnk
    clear hnk
    go_enter Tryd.func24, Tryd.ntmps24
    go_wp2
    go_ret
    exact ⟨rfl, HB.out⟩
end Go.Proofs.YtjpbccpleflkhaaDoor

namespace Sq
open Sk
/-- What Text answers. -/
def txtV (n : Int) (L : List Stp) : List UInt8 × Int := if chk n L = 0 then fmtV L else ([], chk n L)
end Sq
namespace Go.Proofs.YtjpbccpleflkhaaDoor
open Go.RowKit Go.Shelf
attribute [local go_sem] Oper.semAt_some
set_option maxHeartbeats 8000000 in
set_option maxRecDepth 100000 in
theorem rSame14_any (n k : Int) (u v : Value) (L M : List Sk.Stp) (w : World) (hu : SeeT w u L) (hv : SeeT w v M) : Calls Tryd.prog 25 #[.agg #[.int .i64 n, u], .agg #[.int .i64 k, v]] w fun e w' => e = .returned (.bool (decide (n = k ∧ L = M))) ∧ Below w.heap.size w w' := by
  have HU := Lib.hid hu
  have HV := Lib.hid hv
  obtain ⟨ao, cap, rfl, -⟩ := hu
  obtain ⟨bo, bcap, rfl, -⟩ := hv
  have CE := fun W (h : SeeT W (.slice ao L.length cap) L) (h2 : SeeT W (.slice bo M.length bcap) M) => Lib.hid (rSmT_any (.slice ao L.length cap) (.slice bo M.length bcap) L M W h h2)
  have L1 := allocB w (.cells #[.int .i64 n, .slice ao L.length cap] 32)
  have L2 := allocB (w.alloc (.cells #[.int .i64 n, .slice ao L.length cap] 32)) (.cells #[.int .i64 k, .slice bo M.length bcap] 32)
  obtain ⟨P1, -, -⟩ := boxP_new w (.int .i64 n) (.slice ao L.length cap) 32
  obtain ⟨P2, -, -⟩ := boxP_new (w.alloc (.cells #[.int .i64 n, .slice ao L.length cap] 32)) (.int .i64 k) (.slice bo M.length bcap) 32
  obtain ⟨p0, p1, p2⟩ := P1.step L2
  obtain ⟨q0, q1, q2⟩ := P2
  have SU := Lib.hid ((HU.out.step L1).step L2)
  have SV := Lib.hid ((HV.out.step L1).step L2)
  have HB := Lib.hid (below_nxt L1 L2)
  clear P1 L1 L2
  by_cases hnk : n = k
  · subst hnk
    rw [show decide (n = n ∧ L = M) = decide (L = M) from decide_eq_decide.2 ⟨fun h => h.2, fun h => ⟨rfl, h⟩⟩]
    generalize decide (L = M) = q at *
    go_enter Tryd.func25, Tryd.ntmps25
    go_wp2_with fail
    refine ((CE _ SU.out SV.out).out).mono ?_
    rintro e w1 ⟨rfl, hb1⟩
    have HB1 := Lib.hid (below_nxt HB.out hb1)
    clear hb1
    go_wp2
    go_ret
    exact ⟨rfl, HB1.out⟩
  · rw [show decide (n = k ∧ L = M) = false from decide_eq_false (fun h => hnk h.1)]
    have hq : (n == k) = false := by rw [beq_eq_false_iff_ne]; exact hnk
    clear hnk
    go_enter Tryd.func25, Tryd.ntmps25
    go_wp2
    go_ret
    exact ⟨rfl, HB.out⟩
set_option maxHeartbeats 8000000 in
set_option maxRecDepth 100000 in
theorem qTxt_any (n : Int) (v : Value) (L : List Sk.Stp) (w : World) (hst : St w) (hs : SeeT w v L) : Calls Tryd.prog 41 #[.agg #[.int .i64 n, v]] w (FmtP (Sq.txtV n L) w) := by
  have HS := Lib.hid hs
  have HST := Lib.hid hst
  obtain ⟨ao, cap, rfl, hcap1, hcap2, -⟩ := hs
  have CC := fun V (h : SeeT V (.slice ao L.length cap) L) => Lib.hid (qChk_any n (.slice ao L.length cap) L V h)
  have CF := fun V (h0 : St V) (h : SeeT V (.slice ao L.length cap) L) => Lib.hid (sFmt_any (.slice ao L.length cap) L V h0 h)
  obtain ⟨P0, L0, z0⟩ := boxP_new w (.int .i64 n) (.slice ao L.length cap) 32
  have HL0 := Lib.hid L0
  have HP0 := Lib.hid P0
  clear hst
  by_cases hc : Sq.chk n L = 0
  · have hv : Sq.txtV n L = Sk.fmtV L := by unfold Sq.txtV; rw [if_pos hc]
    rw [hv]
    rw [hc] at CC
    obtain ⟨p0, p1, p2⟩ := P0
    clear L0 z0 hv hc
    generalize Sk.fmtV L = F at *
    go_enter Tryd.func41, Tryd.ntmps41
    go_wp2_with fail
    refine ((CC _ (HS.out.step HL0.out)).out).mono ?_
    rintro e w1 ⟨rfl, hb1⟩
    have HB1 := Lib.hid (below_nxt HL0.out hb1)
    have HP1 := Lib.hid (HP0.out.step hb1)
    obtain ⟨q0, q1, q2⟩ := HP1.out
    clear hb1 p0 p1 p2
    go_wp2_with fail
    refine ((CF _ (HST.out.next HB1.out) (HS.out.step HB1.out)).out).mono ?_
    rintro e w2 ⟨rfl, hb2⟩
    have HB2 := Lib.hid (below_nxt HB1.out hb2)
    clear hb2 q0 q1 q2
    go_wp2
    exact bodyPost_ret (v := .tuple #[.string ⟨F.1.toArray⟩, .int .i64 F.2]) (by simp [results, Tryd.f41, go_sem]) rfl ⟨rfl, HB2.out⟩
  · have hv : Sq.txtV n L = ([], Sq.chk n L) := by unfold Sq.txtV; rw [if_neg hc]
    rw [hv]
    have hct : (Sq.chk n L != 0) = true := by simpa using hc
    clear hv hc
    generalize Sq.chk n L = c at *
    obtain ⟨p0, p1, p2⟩ := P0
    clear L0 z0
    go_enter Tryd.func41, Tryd.ntmps41
    go_wp2_with fail
    refine ((CC _ (HS.out.step HL0.out)).out).mono ?_
    rintro e w1 ⟨rfl, hb1⟩
    have HB1 := Lib.hid (below_nxt HL0.out hb1)
    clear hb1 p0 p1 p2
    go_wp2
    exact bodyPost_ret (v := .tuple #[.string ⟨#[]⟩, .int .i64 c]) (by simp [results, Tryd.f41, go_sem]) rfl ⟨rfl, HB1.out⟩
end Go.Proofs.YtjpbccpleflkhaaDoor

namespace Sq
open Sk
/-- Does an actuator move in some step? -/
def mvsV (L : List Stp) (a : Int) : Bool := (List.range L.length).any fun i => decide (wayV (L.getD i t0).1 a ≠ 0)
theorem mvs_at {L : List Stp} {a : Int} {i : Nat} (hi : i < L.length) (h : wayV (L.getD i t0).1 a ≠ 0) : mvsV L a = true :=
  List.any_eq_true.2 ⟨i, List.mem_range.2 hi, decide_eq_true h⟩
theorem mvs_no {L : List Stp} {a : Int} (h : ∀ i, i < L.length → wayV (L.getD i t0).1 a = 0) : mvsV L a = false := by
  unfold mvsV
  rw [List.any_eq_false]
  intro i hi
  rw [h i (List.mem_range.1 hi)]
  decide
/-- Not too many steps and strokes. -/
def fewV (L : List Stp) : Bool := decide (L.length ≤ 128) && (List.range L.length).all fun i => decide ((L.getD i t0).1.length ≤ 40)
theorem few_many {L : List Stp} (h : ¬ L.length ≤ 128) : fewV L = false := by unfold fewV; rw [decide_eq_false h]; rfl
theorem few_at {L : List Stp} {i : Nat} (hi : i < L.length) (h : ¬ (L.getD i t0).1.length ≤ 40) : fewV L = false := by
  unfold fewV
  rw [Bool.and_eq_false_iff]
  refine .inr (List.all_eq_false.2 ⟨i, List.mem_range.2 hi, ?_⟩)
  rw [decide_eq_false h]; decide
theorem few_yes {L : List Stp} (h0 : L.length ≤ 128) (h : ∀ i, i < L.length → (L.getD i t0).1.length ≤ 40) : fewV L = true := by
  unfold fewV
  rw [decide_eq_true h0, Bool.true_and, List.all_eq_true]
  exact fun i hi => decide_eq_true (h i (List.mem_range.1 hi))
theorem few_iff {L : List Stp} : fewV L = true ↔ L.length ≤ 128 ∧ ∀ i, i < L.length → (L.getD i t0).1.length ≤ 40 := by
  constructor
  · intro h
    refine ⟨Decidable.byContradiction fun h0 => ?_, fun i hi => Decidable.byContradiction fun h0 => ?_⟩
    · rw [few_many h0] at h; cases h
    · rw [few_at hi h0] at h; cases h
  · exact fun h => few_yes h.1 h.2
end Sq
namespace Go.Proofs.YtjpbccpleflkhaaDoor
open Go.RowKit Go.Shelf
attribute [local go_sem] Oper.semAt_some
set_option maxHeartbeats 8000000 in
set_option maxRecDepth 100000 in
theorem rMvs_any (n : Int) (v : Value) (L : List Sk.Stp) (a : Int) (w : World) (hs : SeeT w v L) : Calls Tryd.prog 64 #[.agg #[.int .i64 n, v], .int .i64 a] w fun e w' => e = .returned (.bool (Sq.mvsV L a)) ∧ Below w.heap.size w w' := by
  obtain ⟨ao, cap, rfl, hcap1, hcap2, hC⟩ := hs
  have HC := Lib.hid hC
  clear hC
  have HAt := Lib.hid (fun i (hi : i < L.length) h => Sq.mvs_at (a := a) hi h)
  have HNo := Lib.hid (fun h => Sq.mvs_no (L := L) (a := a) h)
  generalize Sq.mvsV L a = q at *
  obtain ⟨P0, L0, z0⟩ := boxP_new w (.int .i64 n) (.slice ao L.length cap) 32
  have HL0 := Lib.hid L0
  have HP0 := Lib.hid P0
  clear P0 L0 z0
  go_enter Tryd.func64, Tryd.ntmps64
  go_wp2
  go_loopw [5] (fun s5 wr => ∃ i : Nat, i ≤ L.length ∧ s5 = .int .i64 (i : Int) ∧ Hid (∀ b, b < i → Sk.wayV (L.getD b Sk.t0).1 a = 0) ∧ Hid (BoxP wr w.heap.size (.int .i64 n) (.slice ao L.length cap)) ∧ Hid (Below w.heap.size w wr)) (fun s5 _ => L.length - (intOf s5).toNat)
  case atStart => exact ⟨0, Nat.zero_le _, rfl, Lib.hid (fun a h => by omega), HP0, HL0⟩
  case round =>
    obtain ⟨i, hi, rfl, HJ, HP, HBW⟩ := hrel
    obtain ⟨p0, p1, p2⟩ := HP.out
    have hwi : IntKind.i64.wrap (i : Int) = (i : Int) := IntWalk.i64_in _ (by omega)
    by_cases hil : i < L.length
    · obtain ⟨g, off, ak, ck, rfl, hg, c1, c2, hk⟩ := (HC.out.step HBW.out).at (Below.refl _ _) hil
      have HAi := Lib.hid (HAt.out i hil)
      have HJ2 : Hid (Sk.wayV (L.getD i Sk.t0).1 a = 0 → ∀ b, b < i + 1 → Sk.wayV (L.getD b Sk.t0).1 a = 0) := Lib.hid (fun h b hb => by
        by_cases e : b = i
        · rw [e]; exact h
        · exact HJ.out b (by omega))
      clear HAt HNo HJ
      generalize L.getD i Sk.t0 = y at *
      obtain ⟨l, k⟩ := y
      simp only at c1 c2 hk HAi HJ2
      have HK := Lib.hid hk
      have CF := fun W (h : SeeK W (.slice ak l.length ck) l) => Lib.hid (rWay_any (.slice ak l.length ck) l k a W h)
      generalize Sk.wayV l a = f at *
      clear hk
      by_cases hf : f = 0
      · have HJ3 := Lib.hid (HJ2.out hf)
        subst hf
        clear HAi HJ2
        go_wp2_with fail
        refine ((CF _ HK.out).out).mono ?_
        rintro e w1 ⟨rfl, hb1⟩
        have HP1 := Lib.hid (HP.out.step hb1)
        have HB1 := Lib.hid (below_nxt HBW.out hb1)
        clear hb1 CF c1 c2 p0 p1 p2
        go_wp2
        exact ⟨⟨i + 1, by omega, by first | rfl | go_num, HJ3, HP1, HB1⟩, by simp [intOf]; omega⟩
      · have hq := HAi.out hf
        have hf1 : (f != 0) = true := by simpa using hf
        have HQ := Lib.hid hq
        clear HAi HJ2 hf hq
        go_wp2_with fail
        refine ((CF _ HK.out).out).mono ?_
        rintro e w1 ⟨rfl, hb1⟩
        have HB1 := Lib.hid (below_nxt HBW.out hb1)
        clear hb1 CF c1 c2 p0 p1 p2
        go_wp2
        go_ret
        exact ⟨(by rw [HQ.out]; rfl), HB1.out⟩
    · obtain rfl : i = L.length := by omega
      have HQ := Lib.hid (HNo.out HJ.out)
      go_wp2
      go_ret
      exact ⟨(by rw [HQ.out]; rfl), HBW.out⟩
set_option maxHeartbeats 8000000 in
set_option maxRecDepth 100000 in
theorem rFew14_any (n : Int) (v : Value) (L : List Sk.Stp) (w : World) (hs : SeeT w v L) : Calls Tryd.prog 15 #[.agg #[.int .i64 n, v]] w fun e w' => e = .returned (.bool (Sq.fewV L)) ∧ Below w.heap.size w w' := by
  obtain ⟨ao, cap, rfl, hcap1, hcap2, hC⟩ := hs
  have HC := Lib.hid hC
  clear hC
  obtain ⟨P0, L0, z0⟩ := boxP_new w (.int .i64 n) (.slice ao L.length cap) 32
  have HL0 := Lib.hid L0
  have HP0 := Lib.hid P0
  by_cases h128 : L.length ≤ 128
  · have HAt := Lib.hid (fun i (hi : i < L.length) h => Sq.few_at hi h)
    have HYes := Lib.hid (fun h => Sq.few_yes h128 h)
    generalize Sq.fewV L = q at *
    have h128z : decide (128 < (L.length : Int)) = false := decide_eq_false (by omega)
    obtain ⟨p0, p1, p2⟩ := P0
    clear L0 z0
    go_enter Tryd.func15, Tryd.ntmps15
    go_wp2
    clear p0 p1 p2
    go_loopw [3] (fun s3 wr => ∃ i : Nat, i ≤ L.length ∧ s3 = .int .i64 (i : Int) ∧ Hid (∀ b, b < i → (L.getD b Sk.t0).1.length ≤ 40) ∧ Hid (BoxP wr w.heap.size (.int .i64 n) (.slice ao L.length cap)) ∧ Hid (Below w.heap.size w wr)) (fun s3 _ => L.length - (intOf s3).toNat)
    case atStart => exact ⟨0, Nat.zero_le _, rfl, Lib.hid (fun a h => by omega), HP0, HL0⟩
    case round =>
      obtain ⟨i, hi, rfl, HJ, HP, HBW⟩ := hrel
      obtain ⟨p0, p1, p2⟩ := HP.out
      have hwi : IntKind.i64.wrap (i : Int) = (i : Int) := IntWalk.i64_in _ (by omega)
      by_cases hil : i < L.length
      · obtain ⟨g, off, ak, ck, rfl, hg, c1, c2, hk⟩ := (HC.out.step HBW.out).at (Below.refl _ _) hil
        have HAi := Lib.hid (HAt.out i hil)
        have HJ2 : Hid ((L.getD i Sk.t0).1.length ≤ 40 → ∀ b, b < i + 1 → (L.getD b Sk.t0).1.length ≤ 40) := Lib.hid (fun h b hb => by
          by_cases e : b = i
          · rw [e]; exact h
          · exact HJ.out b (by omega))
        clear HAt HYes HJ hk
        generalize L.getD i Sk.t0 = y at *
        obtain ⟨l, k⟩ := y
        simp only at c1 c2 HAi HJ2
        by_cases hf : l.length ≤ 40
        · have HJ3 := Lib.hid (HJ2.out hf)
          have hfz : decide (40 < (l.length : Int)) = false := decide_eq_false (by omega)
          clear HAi HJ2
          go_wp2
          exact ⟨⟨i + 1, by omega, by first | rfl | go_num, HJ3, HP, HBW⟩, by simp [intOf]; omega⟩
        · have HQ := Lib.hid (HAi.out hf)
          have hfz : decide (40 < (l.length : Int)) = true := decide_eq_true (by omega)
          clear HAi HJ2
          go_wp2
          go_ret
          exact ⟨(by rw [HQ.out]; rfl), HBW.out⟩
      · obtain rfl : i = L.length := by omega
        have HQ := Lib.hid (HYes.out HJ.out)
        go_wp2
        go_ret
        exact ⟨(by rw [HQ.out]; rfl), HBW.out⟩
  · rw [Sq.few_many h128]
    have h128z : decide (128 < (L.length : Int)) = true := decide_eq_true (by omega)
    obtain ⟨p0, p1, p2⟩ := P0
    clear L0 z0
    go_enter Tryd.func15, Tryd.ntmps15
    go_wp2
    go_ret
    exact ⟨rfl, HL0.out⟩
end Go.Proofs.YtjpbccpleflkhaaDoor
