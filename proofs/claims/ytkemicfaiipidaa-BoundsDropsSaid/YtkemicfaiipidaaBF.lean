/- slices.Equal at integers and Same of the reference, where both are the same. -/
import Derived.Test.YtkemicfaiipidaaBA
namespace Go.Proofs.Ytkemicfaiipidaa
open Go.RowKit
set_option maxHeartbeats 4000000 in
set_option maxRecDepth 100000 in
theorem eq_yes (v1 v2 : Value) (l : List Int) (w : World) (h1 : SeeI w v1 l) (h2 : SeeI w v2 l) :
    Calls Try.prog 31 #[v1, v2] w fun e w' => e = .returned (.bool true) ∧ Below w.heap.size w w' := by
  obtain ⟨a1, c1, rfl, p1, p2, H1⟩ := h1
  obtain ⟨a2, c2, rfl, p3, p4, H2⟩ := h2
  have HA := Lib.hid H1
  have HB := Lib.hid H2
  clear H1 H2
  go_enter Try.func31, Try.ntmps31
  go_wp2
  go_loopw [13] (fun s13 wr => ∃ i : Nat, i ≤ l.length ∧ s13 = .int .i64 (i : Int) ∧ Hid (Below w.heap.size w wr)) (fun s13 _ => l.length - (intOf s13).toNat)
  case atStart => exact ⟨0, Nat.zero_le _, rfl, Lib.hid (Below.refl _ _)⟩
  case round =>
    obtain ⟨i, hi, rfl, HBw⟩ := hrel
    by_cases hil : i < l.length
    · obtain ⟨b1, o1, rfl, hb1, k1⟩ := HA.out.at HBw.out hil
      obtain ⟨b2, o2, rfl, hb2, k2⟩ := HB.out.at HBw.out hil
      generalize l.getD i 0 = x at *
      have hq : (i : Int) < (l.length : Int) := by omega
      go_wp2
      go_quiet (fail)
      go_wp2
      exact ⟨⟨i + 1, by omega, by first | rfl | go_num, Lib.hid (HBw.out.trans (below_drewN _ _))⟩, by simp [intOf]; omega⟩
    · obtain rfl : i = l.length := by omega
      go_wp2
      exact bodyPost_ret (v := .bool true) (by simp [results, Try.results31, go_sem]) rfl ⟨rfl, HBw.out⟩
theorem SeesI.see {w : World} {v : Value} {l : List Int} (h : SeesI w v l) : SeeI w v l := h.opened

set_option maxHeartbeats 4000000 in
set_option maxRecDepth 100000 in
theorem rSame_yes (n : Int) (v1 v2 : Value) (R : List (List Int)) (w : World) (h1 : SeesR w v1 R) (h2 : SeesR w v2 R) :
    Calls Try.prog 15 #[.agg #[.int .i64 n, v1], .agg #[.int .i64 n, v2]] w fun e w' => e = .returned (.bool true) ∧ Below w.heap.size w w' := by
  have H1 := Lib.hid h1
  have H2 := Lib.hid h2
  obtain ⟨a1, c1, rfl, p1, p2, -⟩ := h1
  obtain ⟨a2, c2, rfl, p3, p4, -⟩ := h2
  have HX : ∃ X, X = ((w.alloc (.cells #[.int .i64 n, .slice a1 R.length c1] 24)).alloc (.cells #[.int .i64 n, .slice a2 R.length c2] 24)) ∧ BoxB X w.heap.size n (.slice a1 R.length c1) ∧ BoxB X (w.heap.size + 1) n (.slice a2 R.length c2) ∧ Below w.heap.size w X := by
    refine ⟨_, rfl, ?_⟩
    obtain ⟨B0, L0⟩ := boxB_new w n (.slice a1 R.length c1) 24
    have e0 : (w.alloc (.cells #[.int .i64 n, .slice a1 R.length c1] 24)).heap.size = w.heap.size + 1 := by simp
    generalize w.alloc (.cells #[.int .i64 n, .slice a1 R.length c1] 24) = Y at *
    obtain ⟨B1, L1⟩ := boxB_new Y n (.slice a2 R.length c2) 24
    rw [e0] at B1
    exact ⟨B0.step L1, B1, below_nxt L0 L1⟩
  obtain ⟨X, hX, hB1, hB2, hL⟩ := HX
  have HB1 := Lib.hid hB1
  have HB2 := Lib.hid hB2
  have HL := Lib.hid hL
  obtain ⟨x0, x1, x2⟩ := hB1
  obtain ⟨y0, y1, y2⟩ := hB2
  rw [hX] at x0 x1 x2 y0 y1 y2
  clear hL
  go_enter Try.func15, Try.ntmps15
  go_wp2
  clear x0 x1 x2 y0 y1 y2
  rw [← hX]
  clear hX
  go_loopw [5] (fun s5 wr => ∃ i : Nat, i ≤ R.length ∧ s5 = .int .i64 (i : Int) ∧ BoxB wr w.heap.size n (.slice a1 R.length c1) ∧ BoxB wr (w.heap.size + 1) n (.slice a2 R.length c2) ∧ Hid (Below w.heap.size w wr)) (fun s5 _ => R.length - (intOf s5).toNat)
  case atStart => exact ⟨0, Nat.zero_le _, rfl, HB1.out, HB2.out, HL⟩
  case round =>
    clear HB1 HB2 HL
    obtain ⟨i, hi, rfl, hB1, hB2, HB⟩ := hrel
    have HB1 := Lib.hid hB1
    have HB2 := Lib.hid hB2
    obtain ⟨x0, x1, x2⟩ := hB1
    obtain ⟨y0, y1, y2⟩ := hB2
    by_cases hil : i < R.length
    · obtain ⟨b1, o1, cc1, r1, d1, e1, hb1, k1, q1, q2, hc1⟩ := H1.out.at (Below.refl _ _) hil
      obtain ⟨b2, o2, cc2, r2, d2, e2, hb2, k2, q3, q4, hc2⟩ := H2.out.at (Below.refl _ _) hil
      simp only [Value.slice.injEq] at e1 e2
      obtain ⟨rfl, -, rfl⟩ := e1
      obtain ⟨rfl, -, rfl⟩ := e2
      have HK1 := Lib.hid k1
      have HK2 := Lib.hid k2
      have HC1 := Lib.hid hc1
      have HC2 := Lib.hid hc2
      have kk1 := (HB.out.cell (p := ⟨b1, o1 + i, none⟩) hb1).trans k1
      have kk2 := (HB.out.cell (p := ⟨b2, o2 + i, none⟩) hb2).trans k2
      clear k1 k2 hc1 hc2
      have hq : (i : Int) < (R.length : Int) := by omega
      have hLr : Hid ((R.getD i []).length = (R.getD i []).length) := Lib.hid rfl
      generalize hr : R.getD i [] = row at *
      clear hr
      obtain ⟨wo, rfl⟩ : ∃ wo, wo = wr := ⟨_, rfl⟩
      go_wp2
      go_quiet (fail)
      go_wp2
      go_loopw [6] (fun s6 wr => ∃ j : Nat, j ≤ row.length ∧ s6 = .int .i64 (j : Int) ∧ BoxB wr w.heap.size n (.slice (some ⟨b1, o1, none⟩) R.length c1) ∧ BoxB wr (w.heap.size + 1) n (.slice (some ⟨b2, o2, none⟩) R.length c2) ∧ Hid (Below w.heap.size w wr)) (fun s6 _ => row.length - (intOf s6).toNat)
      case atStart => exact ⟨0, Nat.zero_le _, rfl, HB1.out, HB2.out, Lib.hid (HB.out.trans (below_drewN _ _))⟩
      case round =>
        clear HB1 HB2 HB x0 x1 x2 y0 y1 y2 kk1 kk2
        obtain ⟨j, hj, rfl, hB1, hB2, HB⟩ := hrel
        have HB1 := Lib.hid hB1
        have HB2 := Lib.hid hB2
        obtain ⟨x0, x1, x2⟩ := hB1
        obtain ⟨y0, y1, y2⟩ := hB2
        have kk1 := (HB.out.cell (p := ⟨b1, o1 + i, none⟩) hb1).trans HK1.out
        have kk2 := (HB.out.cell (p := ⟨b2, o2 + i, none⟩) hb2).trans HK2.out
        by_cases hjl : j < row.length
        · obtain ⟨g1, u1, rfl, hg1, m1⟩ := HC1.out.at HB.out hjl
          obtain ⟨g2, u2, rfl, hg2, m2⟩ := HC2.out.at HB.out hjl
          have hq2 : (j : Int) < (row.length : Int) := by omega
          generalize row.getD j 0 = x at *
          go_wp2
          go_quiet (fail)
          go_wp2
          exact ⟨⟨j + 1, by omega, by first | rfl | go_num, HB1.out, HB2.out, Lib.hid (HB.out.trans (below_drewN _ _))⟩, by simp [intOf]; omega⟩
        · obtain rfl : j = row.length := by omega
          go_wp2
          exact ⟨⟨i + 1, by omega, by first | rfl | go_num, HB1.out, HB2.out, HB⟩, by simp [intOf]; omega⟩
    · obtain rfl : i = R.length := by omega
      go_wp2
      exact bodyPost_ret (v := .bool true) (by simp [results, Try.results15, go_sem]) rfl ⟨rfl, HB.out⟩
end Go.Proofs.Ytkemicfaiipidaa

