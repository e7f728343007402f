/- SameSteps of the reference. -/
import Derived.Test.YtecfbncfhehdcaaDoorRG
namespace Sk
theorem stp_eq {x y : Stp} (h : sameV x.1 x.2 y.1 y.2 = true) : x = y := by
  unfold sameV at h
  rw [Bool.and_eq_true, decide_eq_true_iff, decide_eq_true_iff] at h
  exact Prod.ext h.2 h.1
theorem stp_ne {x y : Stp} (h : sameV x.1 x.2 y.1 y.2 = false) : x ≠ y := by
  rintro rfl
  unfold sameV at h
  simp at h
end Sk
namespace Go.Proofs.YtecfbncfhehdcaaDoor
open Go.RowKit
set_option maxHeartbeats 8000000 in
set_option maxRecDepth 100000 in
theorem rSmT_any (u v : Value) (L M : List Sk.Stp) (w : World) (hu : SeeT w u L) (hv : SeeT w v M) : Calls Tryd.prog 14 #[u, v] w fun e w' => e = .returned (.bool (decide (L = M))) ∧ Below w.heap.size w w' := by
  obtain ⟨ao, cap, rfl, hcap1, hcap2, hC⟩ := hu
  obtain ⟨bo, bcap, rfl, hbcap1, hbcap2, hD⟩ := hv
  have HC := Lib.hid hC
  have HD := Lib.hid hD
  clear hC hD
  by_cases hlm : L.length = M.length
  · have HNo := Lib.hid (fun i (h : L.getD i Sk.t0 ≠ M.getD i Sk.t0) => decide_eq_false (Sk.list_ne h))
    have HYes := Lib.hid (fun h => decide_eq_true (Sk.list_eq Sk.t0 hlm h))
    have hqz : ((L.length : Int) != (M.length : Int)) = false := by rw [hlm]; simp
    have HLM := Lib.hid hlm
    generalize decide (L = M) = q at *
    clear hlm
    go_enter Tryd.func14, Tryd.ntmps14
    go_wp2
    go_loopw [5] (fun s5 wr => ∃ i : Nat, i ≤ L.length ∧ s5 = .int .i64 (i : Int) ∧ Hid (∀ a, a < i → L.getD a Sk.t0 = M.getD a Sk.t0) ∧ Hid (Below w.heap.size w wr)) (fun s5 _ => L.length - (intOf s5).toNat)
    case atStart => exact ⟨0, Nat.zero_le _, rfl, Lib.hid (fun a h => by omega), Lib.hid (Below.refl _ _)⟩
    case round =>
      obtain ⟨i, hi, rfl, HJ, HBW⟩ := hrel
      have hwi : IntKind.i64.wrap (i : Int) = (i : Int) := IntWalk.i64_in _ (by omega)
      by_cases hil : i < L.length
      · have him : i < M.length := by rw [← HLM.out]; exact hil
        obtain ⟨g, off, ak, ck, rfl, hg, c1, c2, hk⟩ := (HC.out.step HBW.out).at (Below.refl _ _) hil
        obtain ⟨g', off', bk, dk, rfl, hg', d1, d2, hk'⟩ := (HD.out.step HBW.out).at (Below.refl _ _) him
        have himz : (i : Int) < (M.length : Int) := by omega
        have HNi := Lib.hid (HNo.out i)
        have HJ2 : Hid (L.getD i Sk.t0 = M.getD i Sk.t0 → ∀ a, a < i + 1 → L.getD a Sk.t0 = M.getD a Sk.t0) := Lib.hid (fun h a ha => by
          by_cases e : a = i
          · rw [e]; exact h
          · exact HJ.out a (by omega))
        clear HNo HYes HJ HC HD
        generalize L.getD i Sk.t0 = x at *
        generalize M.getD i Sk.t0 = y at *
        obtain ⟨l, n⟩ := x
        obtain ⟨m, k⟩ := y
        simp only at c1 c2 d1 d2 hk hk'
        have hd := (Below.refl wr.heap.size wr).drew
        have SU := Lib.hid (hk.step hd)
        have SV := Lib.hid (hk'.step hd)
        have HB := Lib.hid (HBW.out.trans (hd.mono HBW.out.size))
        have P1 := (hd.cell (p := ⟨g, off + i * 2, none⟩) hg).trans c1
        have P2 := (hd.cell (p := ⟨g, off + i * 2 + 1, none⟩) hg).trans c2
        have P3 := (hd.cell (p := ⟨g', off' + i * 2, none⟩) hg').trans d1
        have P4 := (hd.cell (p := ⟨g', off' + i * 2 + 1, none⟩) hg').trans d2
        have CS := fun W (h : SeeK W (.slice ak l.length ck) l) (h2 : SeeK W (.slice bk m.length dk) m) => Lib.hid (rSame_any (.slice ak l.length ck) (.slice bk m.length dk) l m n k W h h2)
        have HE := Lib.hid (Sk.stp_eq (x := (l, n)) (y := (m, k)))
        have HN := Lib.hid (Sk.stp_ne (x := (l, n)) (y := (m, k)))
        simp only at HE HN
        clear hk hk' hd
        generalize Sk.sameV l n m k = f at *
        cases f
        · have hq := HNi.out (HN.out rfl)
          clear HE HN HNi HJ2
          go_wp2
          go_region_held3 (fun W => W.cell? ⟨g, off + i * 2, none⟩ = some (.slice ak l.length ck) ∧ W.cell? ⟨g, off + i * 2 + 1, none⟩ = some (.int .i64 n) ∧ W.cell? ⟨g', off' + i * 2, none⟩ = some (.slice bk m.length dk) ∧ W.cell? ⟨g', off' + i * 2 + 1, none⟩ = some (.int .i64 k))
            (first | (refine ⟨?_, ?_, ?_, ?_⟩ <;> with_reducible assumption) | (go_split_ands; refine ⟨?_, ?_, ?_, ?_⟩ <;> with_reducible assumption))
            (first | (go_at_call 57; (with_reducible refine ((CS _ SU.out SV.out).out).mono ?_); rintro e wn ⟨rfl, hb⟩; have HBq := Lib.hid (HB.out.trans (hb.mono HB.out.size)); have P1q := (hb.cell (p := ⟨g, off + i * 2, none⟩) (Nat.lt_of_lt_of_le hg (by simp))).trans P1; have P2q := (hb.cell (p := ⟨g, off + i * 2 + 1, none⟩) (Nat.lt_of_lt_of_le hg (by simp))).trans P2; have P3q := (hb.cell (p := ⟨g', off' + i * 2, none⟩) (Nat.lt_of_lt_of_le hg' (by simp))).trans P3; have P4q := (hb.cell (p := ⟨g', off' + i * 2 + 1, none⟩) (Nat.lt_of_lt_of_le hg' (by simp))).trans P4; clear HB P1 P2 P3 P4 hb; have HB := HBq; have P1 := P1q; have P2 := P2q; have P3 := P3q; have P4 := P4q; clear HBq P1q P2q P3q P4q))
          all_goals (go_wp2; go_ret; exact ⟨(by rw [hq]; rfl), HB.out⟩)
        · have HJ3 := Lib.hid (HJ2.out (HE.out rfl))
          clear HE HN HNi HJ2
          go_wp2
          go_region_held3 (fun W => W.cell? ⟨g, off + i * 2, none⟩ = some (.slice ak l.length ck) ∧ W.cell? ⟨g, off + i * 2 + 1, none⟩ = some (.int .i64 n) ∧ W.cell? ⟨g', off' + i * 2, none⟩ = some (.slice bk m.length dk) ∧ W.cell? ⟨g', off' + i * 2 + 1, none⟩ = some (.int .i64 k))
            (first | (refine ⟨?_, ?_, ?_, ?_⟩ <;> with_reducible assumption) | (go_split_ands; refine ⟨?_, ?_, ?_, ?_⟩ <;> with_reducible assumption))
            (first | (go_at_call 57; (with_reducible refine ((CS _ SU.out SV.out).out).mono ?_); rintro e wn ⟨rfl, hb⟩; have HBq := Lib.hid (HB.out.trans (hb.mono HB.out.size)); have P1q := (hb.cell (p := ⟨g, off + i * 2, none⟩) (Nat.lt_of_lt_of_le hg (by simp))).trans P1; have P2q := (hb.cell (p := ⟨g, off + i * 2 + 1, none⟩) (Nat.lt_of_lt_of_le hg (by simp))).trans P2; have P3q := (hb.cell (p := ⟨g', off' + i * 2, none⟩) (Nat.lt_of_lt_of_le hg' (by simp))).trans P3; have P4q := (hb.cell (p := ⟨g', off' + i * 2 + 1, none⟩) (Nat.lt_of_lt_of_le hg' (by simp))).trans P4; clear HB P1 P2 P3 P4 hb; have HB := HBq; have P1 := P1q; have P2 := P2q; have P3 := P3q; have P4 := P4q; clear HBq P1q P2q P3q P4q))
          all_goals (go_wp2; exact ⟨⟨i + 1, by omega, by first | rfl | go_num, HJ3, HB⟩, by simp [intOf]; omega⟩)
      · obtain rfl : i = L.length := by omega
        have hv := HYes.out HJ.out
        go_wp2
        go_ret
        exact ⟨(by rw [hv]; rfl), HBW.out⟩
  · have hv : decide (L = M) = false := decide_eq_false (fun e => hlm (by rw [e]))
    have hq : ((L.length : Int) == (M.length : Int)) = false := by rw [beq_eq_false_iff_ne]; omega
    have hqn : (L.length == M.length) = false := by rw [beq_eq_false_iff_ne]; omega
    rw [hv]
    clear hv hlm
    go_enter Tryd.func14, Tryd.ntmps14
    go_wp2
    go_ret
    exact ⟨rfl, Below.refl _ _⟩
end Go.Proofs.YtecfbncfhehdcaaDoor

