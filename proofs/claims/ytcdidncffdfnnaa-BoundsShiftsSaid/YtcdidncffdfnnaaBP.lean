/- checked and Closed of the reference. -/
import Derived.Test.YtcdidncffdfnnaaBA
import Derived.Test.YtcdidncffdfnnaaBI
namespace Bn
theorem befB_next {n : Nat} {m : Mx} {i j : Nat} (h : befB n m i j) (hb : isB (m i j) = true) : befB n m i (j + 1) := by
  intro a b ha hb2 g
  by_cases e : a = i ∧ b = j
  · obtain ⟨rfl, rfl⟩ := e; exact hb
  · exact h a b ha hb2 (by omega)
theorem befB_row {n : Nat} {m : Mx} {i : Nat} (h : befB n m i (n + 1)) : befB n m (i + 1) 0 := fun a b h1 h2 h3 => h a b h1 h2 (by omega)
theorem befB_zero (n : Nat) (m : Mx) : befB n m 0 0 := fun a b _ _ h => by omega
theorem befB_end {n : Nat} {m : Mx} (h : befB n m (n + 1) 0) : allB n m = true := allB_iff.2 fun i j hi hj => h i j hi hj (by omega)
end Bn
namespace Go.Proofs.Ytcdidncffdfnnaa
open Go.RowKit
/-- What checked leaves. -/
def CkdP (N : Nat) (m : Bn.Mx) (v : Value) (w : World) (e : Ending) (w' : World) : Prop :=
  ∃ u, e = .returned (.tuple #[u, .int .i64 (Bn.bV N m).2.2]) ∧ ((Bn.allB N m = true ∧ u = .agg #[.int .i64 (N : Int), v]) ∨ (Bn.allB N m = false ∧ u = .agg #[.int .i64 0, .slice none 0 0])) ∧ Below w.heap.size w w'
theorem CkdP.no {N : Nat} {m : Bn.Mx} {v : Value} {w w' : World} {i j : Nat} (hi : i ≤ N) (hj : j ≤ N) (h : Bn.isB (m i j) = false) (hb : Below w.heap.size w w') : CkdP N m v w (.returned (.tuple #[.agg #[.int .i64 0, .slice none 0 0], .int .i64 11])) w' := by
  have hf : Bn.allB N m = false := by
    cases g : Bn.allB N m with
    | false => rfl
    | true => have := Bn.allB_iff.1 g i j hi hj; rw [h] at this; cases this
  exact ⟨_, by unfold Bn.bV; rw [hf]; rfl, .inr ⟨hf, rfl⟩, hb⟩
theorem CkdP.yes {N : Nat} {m : Bn.Mx} {v : Value} {w w' : World} (h : Bn.befB N m (N + 1) 0) (hb : Below w.heap.size w w') : CkdP N m v w (.returned (.tuple #[.agg #[.int .i64 (N : Int), v], .int .i64 0])) w' :=
  ⟨_, by unfold Bn.bV; rw [Bn.befB_end h]; rfl, .inl ⟨Bn.befB_end h, rfl⟩, hb⟩
/-- What it returned, where the bounds are one's own. -/
theorem CkdP.val {B N : Nat} {m : Bn.Mx} {v : Value} {w w' : World} {e : Ending} (h : CkdP N m v w e w') (ho : OwnB B w (.agg #[.int .i64 (N : Int), v]) N m) :
    ∃ u, e = .returned (.tuple #[u, .int .i64 (Bn.bV N m).2.2]) ∧ ValF B w' u (Bn.bV N m).1 (Bn.bV N m).2.1 ∧ Below w.heap.size w w' := by
  obtain ⟨u, rfl, h1, h2⟩ := h
  refine ⟨u, rfl, ?_, h2⟩
  rcases h1 with ⟨h3, rfl⟩ | ⟨h3, rfl⟩
  · unfold Bn.bV
    rw [h3]
    obtain ⟨A, cap, f, c, hv, h4, h5, h6⟩ := ho
    rw [hv]
    exact (h6.step h2).valF h4 h5
  · unfold Bn.bV
    rw [h3]
    exact ValF.nil _ _

set_option maxHeartbeats 8000000 in
set_option maxRecDepth 100000 in
theorem rCkd_any (N : Nat) (v : Value) (m : Bn.Mx) (w : World) (hs : SeesR w v (Bn.rws N m)) :
    Calls Try.prog 78 #[.agg #[.int .i64 (N : Int), v]] w (CkdP N m v w) := by
  have HSh := Lib.hid (Bn.rws_shp N m)
  have HA := Lib.hid (fun i j (hi : i ≤ N) (hj : j ≤ N) => Bn.rws_at N m hi hj)
  have HNo := Lib.hid (fun i j (hi : i ≤ N) (hj : j ≤ N) (h : Bn.isB (m i j) = false) w' (hb : Below w.heap.size w w') => CkdP.no (v := v) hi hj h hb)
  have HYes := Lib.hid (fun (h : Bn.befB N m (N + 1) 0) w' (hb : Below w.heap.size w w') => CkdP.yes (v := v) h hb)
  generalize CkdP N m v w = P at *
  generalize Bn.rws N m = R at *
  have HS := Lib.hid hs
  obtain ⟨ao, cap, rfl, hcap1, hcap2, -⟩ := hs
  obtain ⟨X, hX, hBX, hRX, hLX, hZX⟩ := pro2 w (N : Int) (.slice ao R.length cap)
  have HBX := Lib.hid hBX
  have HRX := Lib.hid hRX
  have HLX := Lib.hid hLX
  have hl : R.length = N + 1 := HSh.out.1
  generalize hK : R.length = K at *
  subst hl
  have HK := Lib.hid hK
  clear hK hRX hLX
  obtain ⟨b0, b1, b2⟩ := hBX
  rw [hX] at b0 b1 b2
  have hsz : ((w.alloc (.cells #[.int .i64 (N : Int), .slice ao (N + 1) cap] 24)).alloc (.cells #[.int .i64 0, .slice none 0 0] 24)).heap.size = X.heap.size := by rw [hX]
  go_enter Try.func78, Try.ntmps78
  go_wp2
  rw [← hX] at *
  go_loopw [4] (fun s4 wr => ∃ i : Nat, i ≤ N + 1 ∧ s4 = .int .i64 (i : Int) ∧ wr = X ∧ Hid (Bn.befB N m i 0)) (fun s4 _ => N + 1 - (intOf s4).toNat)
  case atStart => exact ⟨0, Nat.zero_le _, rfl, rfl, Lib.hid (Bn.befB_zero N m)⟩
  case round =>
    obtain ⟨i, hi, rfl, hw, HJ⟩ := hrel
    subst wr
    by_cases hil : i < N + 1
    · have hq : (i : Int) ≤ (N : Int) := by omega
      obtain ⟨b, off, cap', ar, cr, hv, hb, c0, hc1, hc2, hci⟩ := HS.out.at HLX.out (i := i) (by rw [HK.out]; exact hil)
      simp only [Value.slice.injEq] at hv
      obtain ⟨rfl, -, rfl⟩ := hv
      have HC := Lib.hid hci
      have HLi := Lib.hid (HSh.out.2 i (by omega))
      rw [HLi.out] at c0 hc1
      obtain ⟨wo, hwo⟩ : ∃ wo, wo = X := ⟨_, rfl⟩
      clear hci
      go_wp2
      go_loopw [5] (fun s5 wr => ∃ j : Nat, j ≤ N + 1 ∧ s5 = .int .i64 (j : Int) ∧ wr = X ∧ Hid (Bn.befB N m i j)) (fun s5 _ => N + 1 - (intOf s5).toNat)
      case atStart => exact ⟨0, Nat.zero_le _, rfl, rfl, HJ⟩
      case round =>
        clear HJ
        obtain ⟨j, hj, rfl, hw, HJ⟩ := hrel
        subst wr
        by_cases hjl : j < N + 1
        · have hq2 : (j : Int) ≤ (N : Int) := by omega
          obtain ⟨d, o2, rfl, hd, c2⟩ := HC.out.at HLX.out (i := j) (by rw [HLi.out]; exact hjl)
          have c3 : X.cell? ⟨d, o2 + j, none⟩ = some (.int .i64 (m i j)) := by rw [← HA.out i j (by omega) (by omega)]; exact c2
          have HJ2 := Lib.hid (fun h => Bn.befB_next HJ.out (j := j) h)
          have HN2 := Lib.hid (HNo.out i j (by omega) (by omega))
          have CB := fun W => Lib.hid (rIn_any (m i j) W)
          clear c2
          unfold Bn.isB at HJ2 HN2
          generalize m i j = x at *
          generalize Bn.num x = bb at *
          by_cases hn : x = -1099511627776
          · subst hn
            have HJ3 := Lib.hid (HJ2.out (by simp))
            go_wp2
            exact ⟨⟨j + 1, by omega, rfl, trivial, HJ3⟩, by simp [intOf]; omega⟩
          · have hnb : (x == -1099511627776) = false := by simpa using hn
            rw [hnb] at HJ2 HN2
            cases bb
            · have HE := Lib.hid (HN2.out rfl)
              obtain ⟨r0, r1, r2, r3, r4⟩ := HRX.out
              go_wp2_with (go_at_call 54; refine ((CB _).out).mono ?_; rintro e w1 ⟨rfl, h9⟩; rw [h9]; clear h9)
              obtain ⟨RW, BW, -⟩ := fin_nil HRX.out HLX.out
              generalize ((X.setCell ⟨w.heap.size + 1, 0, none⟩ (.int .i64 0)).setCell ⟨w.heap.size + 1, 1, none⟩ (.slice none 0 0)) = W2 at *
              obtain ⟨-, t1, t2, -, -⟩ := RW
              exact bodyPost_ret (v := .tuple #[.agg #[.int .i64 0, .slice none 0 0], .int .i64 11]) (by simp [results, Try.results78, go_sem, t1, t2]) rfl (HE.out _ BW)
            · have HJ3 := Lib.hid (HJ2.out rfl)
              go_wp2_with (go_at_call 54; refine ((CB _).out).mono ?_; rintro e w1 ⟨rfl, rfl⟩)
              exact ⟨⟨j + 1, by omega, rfl, trivial, HJ3⟩, by simp [intOf]; omega⟩
        · obtain rfl : j = N + 1 := by omega
          rw [show ((N + 1 : Nat) : Int) = (N : Int) + 1 from rfl]
          have HJ2 := Lib.hid (Bn.befB_row HJ.out)
          go_wp2
          exact ⟨⟨i + 1, by omega, rfl, trivial, HJ2⟩, by simp [intOf]; omega⟩
    · obtain rfl : i = N + 1 := by omega
      rw [show ((N + 1 : Nat) : Int) = (N : Int) + 1 from rfl]
      have HQ := Lib.hid (HYes.out HJ.out)
      obtain ⟨r0, r1, r2, r3, r4⟩ := HRX.out
      go_wp2
      have RW := HRX.out.put (N : Int) (.slice ao (N + 1) cap)
      have BW : Below w.heap.size w ((X.setCell ⟨w.heap.size + 1, 0, none⟩ (.int .i64 (N : Int))).setCell ⟨w.heap.size + 1, 1, none⟩ (.slice ao (N + 1) cap)) := (HLX.out.setCell (p := ⟨w.heap.size + 1, 0, none⟩) (by simp) _).setCell (p := ⟨w.heap.size + 1, 1, none⟩) (by simp) _
      generalize ((X.setCell ⟨w.heap.size + 1, 0, none⟩ (.int .i64 (N : Int))).setCell ⟨w.heap.size + 1, 1, none⟩ (.slice ao (N + 1) cap)) = W2 at *
      obtain ⟨-, t1, t2, -, -⟩ := RW
      exact bodyPost_ret (v := .tuple #[.agg #[.int .i64 (N : Int), .slice ao (N + 1) cap], .int .i64 0]) (by simp [results, Try.results78, go_sem, t1, t2]) rfl (HQ.out _ BW)
end Go.Proofs.Ytcdidncffdfnnaa
