/- Paths of the reference. -/
import Derived.Test.YtcdidncffdfnnaaBr
import Derived.StillTailTactics
namespace Bn
theorem up_fil0 (F G : Mx) (i j a b : Nat) : fil F G i j a b = up (fil F G i j) i j (G i j) a b := by unfold up fil; grind
theorem up_filE {F G : Mx} {i j : Nat} {x : Int} (h : F i j = x) (a b : Nat) : up (fil F G i j) i j x a b = fil F G i (j + 1) a b := by
  subst h; exact fil_next F G i j a b
theorem up_up (m : Mx) (i j : Nat) (x y : Int) (a b : Nat) : up (up m i j x) i j y a b = up m i j y a b := by unfold up; grind
theorem fil_rowN {F G : Mx} {n i a b : Nat} (hb : b ≤ n) : fil F G i (n + 1) a b = fil F G (i + 1) 0 a b := by unfold fil; grind
theorem fil_endN {F G : Mx} {n a b : Nat} (ha : a ≤ n) : fil F G (n + 1) 0 a b = F a b := by unfold fil; grind
section
variable {n : Nat} {b : Mx} (hR : Rt n b)
include hR
theorem bd_b {i j : Nat} (hi : i ≤ n) (hj : j ≤ n) : -4000000000000 ≤ b i j ∧ b i j ≤ 4000000000000 := by
  have := hR.bd i j hi hj; omega
theorem bd_pr {r i j : Nat} (hr : r ≤ 14) (hi : i ≤ n) (hj : j ≤ n) : -4000000000000 ≤ pr n b r i j ∧ pr n b r i j ≤ 4000000000000 := by
  by_cases e : pr n b r i j = -1099511627776
  · omega
  · have := pr_bd hR hi hj hr e; omega
end
end Bn
namespace Go.Proofs.Ytcdidncffdfnnaa
open Go.RowKit

theorem Grd.at {B A k : Nat} {W : World} {f c : Nat → Nat} {m : Bn.Mx} (h : Grd B W A k k f c m) {i j : Nat} (hi : i < k) (hj : j < k) :
    W.cell? ⟨A, i, none⟩ = some (.slice (some ⟨f i, 0, none⟩) k (c i)) ∧ W.cell? ⟨f i, j, none⟩ = some (.int .i64 (m i j)) ∧ W.frozen? ⟨f i, j, none⟩ = false := by
  have h1 := (h.cell i hi).1
  rw [if_pos hi] at h1
  exact ⟨h1, h.row i j hi hj⟩

set_option maxHeartbeats 8000000 in
set_option maxRecDepth 100000 in
theorem rPaths_any (N : Nat) (v : Value) (R : List (List Int)) (w : World) (hS : Bn.Shp N R) (hR : Bn.Rt N (Bn.mx R)) (hs : SeesR w v R) :
    Calls Try.prog 75 #[.agg #[.int .i64 (N : Int), v]] w fun e w' => ∃ v, e = .returned v ∧ OwnB w.heap.size w' v N (Bn.pr N (Bn.mx R) (N + 1)) ∧ Below w.heap.size w w' := by
  have hN := hR.n12
  have CC := fun (W : World) (hs : SeesR W v R) => Lib.hid (rCopied_any N v R W hN hS hs)
  have CD := fun (W : World) (u : Value) (m : Bn.Mx) (hs : SeesR W u (Bn.rws N m)) => Lib.hid (rCopied_any N u (Bn.rws N m) W hN (Bn.rws_shp N m) hs)
  have HS := Lib.hid hs
  have HSh := Lib.hid hS
  have HRt := Lib.hid hR
  obtain ⟨ao, cap, rfl, hcap1, hcap2, -⟩ := hs
  have hl := hS.1
  clear hS hR
  generalize hK : R.length = K at *
  subst hl
  clear hK
  have HX : ∃ X, X = ((w.alloc (.cells #[.int .i64 (N : Int), .slice ao (N + 1) cap] 24)).alloc (.cells #[.int .i64 0, .slice none 0 0] 24)) ∧ BoxB X w.heap.size N (.slice ao (N + 1) cap) ∧ Hid (ResI X (w.heap.size + 1) 0 (.slice none 0 0) ∧ Below w.heap.size w X ∧ w.heap.size + 1 + 1 ≤ X.heap.size) := by
    refine ⟨_, rfl, ?_⟩
    obtain ⟨B0, L0⟩ := boxB_new w (N : Int) (.slice ao (N + 1) cap) 24
    have e0 : (w.alloc (.cells #[.int .i64 (N : Int), .slice ao (N + 1) cap] 24)).heap.size = w.heap.size + 1 := by simp
    generalize w.alloc (.cells #[.int .i64 (N : Int), .slice ao (N + 1) cap] 24) = Y at *
    have R1 := resI_new Y 0 (.slice none 0 0) 24
    have L1 : Below Y.heap.size Y (Y.alloc (.cells #[.int .i64 0, .slice none 0 0] 24)) := (Below.refl _ _).alloc (Nat.le_refl _) _
    rw [e0] at R1
    exact ⟨B0.step L1, Lib.hid ⟨R1, below_nxt L0 L1, by simp [e0]⟩⟩
  obtain ⟨X, hX, hBX, HX⟩ := HX
  have HBX := Lib.hid hBX
  obtain ⟨x0, x1, x2⟩ := hBX
  go_enter Try.func75, Try.ntmps75
  go_wp2_with fail
  rw [← hX]
  clear hX
  refine ((CC _ (HS.out.step HX.out.2.1)).out).mono ?_
  rintro e w1 ⟨v1, rfl, ⟨A, cp, f, c, rfl, hcp1, hcp2, hG⟩, hb1⟩
  have hs1 := hb1.size
  have HR1 := Lib.hid (HX.out.1.step hb1)
  have HB1 := Lib.hid (below_nxt HX.out.2.1 hb1)
  have HBx1 := Lib.hid (HBX.out.step hb1)
  have hx1 := HX.out.2.2
  have hOB : ResI (w1.alloc (.cells #[.int .i64 (N : Int), .slice (some ⟨A, 0, none⟩) (N + 1) cp] 24)) w1.heap.size N (.slice (some ⟨A, 0, none⟩) (N + 1) cp) := resI_new w1 _ _ _
  have L1 : Below w1.heap.size w1 (w1.alloc (.cells #[.int .i64 (N : Int), .slice (some ⟨A, 0, none⟩) (N + 1) cp] 24)) := (Below.refl _ _).alloc (Nat.le_refl _) _
  have HG1 := Lib.hid ((hG.step L1).congr (m' := Bn.pr N (Bn.mx R) 0) (fun _ _ _ _ => rfl))
  have HR2 := Lib.hid (HR1.out.step L1)
  have HB2 := Lib.hid (below_nxt HB1.out L1)
  have HBx2 := Lib.hid (HBx1.out.step L1)
  have hAw := hG.lt
  have hX1 : X.heap.size ≤ A := hG.ge
  have hfb := fun i hi => (hG.blk i hi).1
  have HFB := Lib.hid hfb
  clear hG hb1 L1 HX HBX HR1 HB1 HBx1 x1 x2 CC hfb x0
  go_wp2
  generalize w1.alloc (.cells #[.int .i64 (N : Int), .slice (some ⟨A, 0, none⟩) (N + 1) cp] 24) = X2 at *
  generalize hob : w1.heap.size = ob at *
  have hob1 : w.heap.size + 1 < ob := by omega
  clear hob hs1 hX1
  go_loopw [4] (fun s4 wr => ∃ (r A cp : Nat) (f c : Nat → Nat), r ≤ N + 1 ∧ s4 = .int .i64 (r : Int) ∧ N + 1 ≤ cp ∧ cp ≤ 9223372036854775807 ∧ BoxB wr w.heap.size N (.slice ao (N + 1) cap) ∧ ResI wr ob N (.slice (some ⟨A, 0, none⟩) (N + 1) cp) ∧ Hid (Grd (w.heap.size + 1 + 1) wr A (N + 1) (N + 1) f c (Bn.pr N (Bn.mx R) r)) ∧ Hid (A ≠ ob ∧ ∀ q, q < N + 1 → f q ≠ ob) ∧ Hid (ResI wr (w.heap.size + 1) 0 (.slice none 0 0)) ∧ Hid (Below w.heap.size w wr)) (fun s4 _ => N + 1 - (intOf s4).toNat)
  case atStart => exact ⟨0, A, cp, f, c, Nat.zero_le _, rfl, hcp1, hcp2, HBx2.out, hOB, Lib.hid (HG1.out.mono (by omega)), Lib.hid ⟨by omega, fun q hq => by have := HFB.out q hq; omega⟩, HR2, HB2⟩
  case round =>
    clear HG1 HR2 HB2 HBx2 hOB HFB hAw hx1 hcp1 hcp2
    obtain ⟨r, A, cp, f, c, hr, rfl, hcp1, hcp2, hBx, hO, HG, HNe, HR, HB⟩ := hrel
    have HBx := Lib.hid hBx
    have HO := Lib.hid hO
    obtain ⟨o0, o1, o2, o3, o4⟩ := hO
    obtain ⟨x0, x1, x2⟩ := hBx
    by_cases hrl : r < N + 1
    · have hq : r ≤ N := by omega
      obtain ⟨wo, rfl⟩ : ∃ wo, wo = wr := ⟨_, rfl⟩
      have CDr := Lib.hid (CD wo _ _ (HG.out.sees hcp1 hcp2)).out
      clear CD
      go_wp2_with (go_at_call 70; refine (CDr.out).mono ?_; rintro e w2 ⟨v2, rfl, ⟨A2, cp2, f2, c2, rfl, h21, h22, hG2⟩, hb2⟩; have HG2 := Lib.hid hG2; have HB2 := Lib.hid hb2; clear hG2 hb2)
      have hN0 : ResI (w2.alloc (.cells #[.int .i64 (N : Int), .slice (some ⟨A2, 0, none⟩) (N + 1) cp2] 24)) w2.heap.size N (.slice (some ⟨A2, 0, none⟩) (N + 1) cp2) := resI_new w2 _ _ _
      have L2 : Below w2.heap.size w2 (w2.alloc (.cells #[.int .i64 (N : Int), .slice (some ⟨A2, 0, none⟩) (N + 1) cp2] 24)) := (Below.refl _ _).alloc (Nat.le_refl _) _
      have HGX := Lib.hid ((HG2.out.step L2).congr (m' := Bn.fil (Bn.pr N (Bn.mx R) (r + 1)) (Bn.pr N (Bn.mx R) r) 0 0) (fun a b ha hb => by rw [Bn.fil_zero]; exact Bn.rws_at N _ (by omega) (by omega)))
      have HBX := Lib.hid (below_nxt HB2.out L2)
      have HA2 := Lib.hid (show wo.heap.size ≤ A2 ∧ A2 < w2.heap.size ∧ ∀ q, q < N + 1 → f2 q < w2.heap.size ∧ wo.heap.size ≤ f2 q from ⟨HG2.out.ge, HG2.out.lt, fun q hq => ⟨(HG2.out.blk q hq).1, (HG2.out.blk q hq).2.1⟩⟩)
      clear L2 HG2 CDr
      have hw2 := HB2.out.size
      clear HB2
      generalize w2.alloc (.cells #[.int .i64 (N : Int), .slice (some ⟨A2, 0, none⟩) (N + 1) cp2] 24) = X3 at *
      generalize w2.heap.size = nb at *
      go_loopw [6] (fun s6 wr => ∃ i : Nat, i ≤ N + 1 ∧ s6 = .int .i64 (i : Int) ∧ ResI wr nb N (.slice (some ⟨A2, 0, none⟩) (N + 1) cp2) ∧ BoxB wr w.heap.size N (.slice ao (N + 1) cap) ∧ Hid (Grd wo.heap.size wr A2 (N + 1) (N + 1) f2 c2 (Bn.fil (Bn.pr N (Bn.mx R) (r + 1)) (Bn.pr N (Bn.mx R) r) i 0)) ∧ Hid (Below wo.heap.size wo wr)) (fun s6 _ => N + 1 - (intOf s6).toNat)
      case atStart => exact ⟨0, Nat.zero_le _, rfl, hN0, HBx.out.step HBX.out, HGX, HBX⟩
      case round =>
        clear HGX HBX hN0
        obtain ⟨i, hi, rfl, hNx, hBy, HGi, HBi⟩ := hrel
        have HNx := Lib.hid hNx
        obtain ⟨n0, n1, n2, n3, n4⟩ := hNx
        obtain ⟨y0, y1, y2⟩ := hBy
        by_cases hil : i < N + 1
        · have hqi : i ≤ N := by omega
          obtain ⟨w5, rfl⟩ : ∃ w5, w5 = wr := ⟨_, rfl⟩
          go_wp2
          go_loopw [7] (fun s7 wr => ∃ j : Nat, j ≤ N + 1 ∧ s7 = .int .i64 (j : Int) ∧ ResI wr nb N (.slice (some ⟨A2, 0, none⟩) (N + 1) cp2) ∧ BoxB wr w.heap.size N (.slice ao (N + 1) cap) ∧ Hid (Grd wo.heap.size wr A2 (N + 1) (N + 1) f2 c2 (Bn.fil (Bn.pr N (Bn.mx R) (r + 1)) (Bn.pr N (Bn.mx R) r) i j)) ∧ Hid (Below wo.heap.size wo wr)) (fun s7 _ => N + 1 - (intOf s7).toNat)
          case atStart => exact ⟨0, Nat.zero_le _, rfl, HNx.out, ⟨y0, y1, y2⟩, HGi, HBi⟩
          case round =>
            clear HGi HBi HNx n0 n1 n2 n3 n4 y0 y1 y2
            obtain ⟨j, hj, rfl, hNx, hBy, HGi, HBi⟩ := hrel
            have HNx := Lib.hid hNx
            obtain ⟨n0, n1, n2, n3, n4⟩ := hNx
            obtain ⟨y0, y1, y2⟩ := hBy
            by_cases hjl : j < N + 1
            · have hqj : j ≤ N := by omega
              obtain ⟨w6, rfl⟩ : ∃ w6, w6 = wr := ⟨_, rfl⟩
              go_wp2
              go_loopw [8] (fun s8 wr => ∃ k : Nat, k ≤ N + 1 ∧ s8 = .int .i64 (k : Int) ∧ ResI wr nb N (.slice (some ⟨A2, 0, none⟩) (N + 1) cp2) ∧ BoxB wr w.heap.size N (.slice ao (N + 1) cap) ∧ Hid (Grd wo.heap.size wr A2 (N + 1) (N + 1) f2 c2 (Bn.up (Bn.fil (Bn.pr N (Bn.mx R) (r + 1)) (Bn.pr N (Bn.mx R) r) i j) i j (Bn.rl (Bn.pr N (Bn.mx R) r) (Bn.mx R) i j k))) ∧ Hid (Below wo.heap.size wo wr)) (fun s8 _ => N + 1 - (intOf s8).toNat)
              case atStart => exact ⟨0, Nat.zero_le _, rfl, HNx.out, ⟨y0, y1, y2⟩, Lib.hid (HGi.out.congr (fun a b _ _ => Bn.up_fil0 _ _ i j a b)), HBi⟩
              case round =>
                clear HGi HBi HNx n0 n1 n2 n3 n4 y0 y1 y2
                obtain ⟨k, hk, rfl, hNx, hBy, HGi, HBi⟩ := hrel
                have HNx := Lib.hid hNx
                obtain ⟨n0, n1, n2, n3, n4⟩ := hNx
                have HBy := Lib.hid hBy
                obtain ⟨y0, y1, y2⟩ := hBy
                by_cases hkl : k < N + 1
                · have hqk : k ≤ N := by omega
                  obtain ⟨g1, g2, g3⟩ := HGi.out.at hil hjl
                  rw [show Bn.up (Bn.fil (Bn.pr N (Bn.mx R) (r + 1)) (Bn.pr N (Bn.mx R) r) i j) i j (Bn.rl (Bn.pr N (Bn.mx R) r) (Bn.mx R) i j k) i j = Bn.rl (Bn.pr N (Bn.mx R) r) (Bn.mx R) i j k from if_pos ⟨rfl, rfl⟩] at g2
                  obtain ⟨p0, p1, p2, p3, p4⟩ := HO.out.step HBi.out
                  obtain ⟨a1, a2, a3⟩ := (HG.out.step HBi.out).at hil hkl
                  have HBw := Lib.hid (below_nxt HB.out HBi.out)
                  obtain ⟨b, off, d, oo, cr, hae, hb, hd, e1, e2⟩ := (show SeesR w (.slice ao R.length cap) R by rw [HSh.out.1]; exact HS.out).row HBw.out (i := k) (by rw [HSh.out.1]; exact hkl) (by rw [HSh.out.2 k (by omega)]; omega)
                  subst hae
                  rw [HSh.out.2 k (by omega)] at e1 e2
                  have e3 : wr.cell? ⟨d, oo + j, none⟩ = some (.int .i64 (Bn.mx R k j)) := e2 j hjl
                  have CS := fun W => Lib.hid (rSum_any (Bn.pr N (Bn.mx R) r i k) (Bn.mx R k j) W (Bn.bd_pr HRt.out (by omega) hqi hqk) (Bn.bd_b HRt.out hqk hqj))
                  have CL := fun W => Lib.hid (rLesser_any (Bn.rl (Bn.pr N (Bn.mx R) r) (Bn.mx R) i j k) (Bn.sm (Bn.pr N (Bn.mx R) r i k) (Bn.mx R k j)) W)
                  have HPut := Lib.hid ((HGi.out.put hil hjl (Bn.rl (Bn.pr N (Bn.mx R) r) (Bn.mx R) i j (k + 1))).congr (fun a b _ _ => Bn.up_up _ i j _ _ a b))
                  have HPE : Hid (Bn.mn (Bn.rl (Bn.pr N (Bn.mx R) r) (Bn.mx R) i j k) (Bn.sm (Bn.pr N (Bn.mx R) r i k) (Bn.mx R k j)) = Bn.rl (Bn.pr N (Bn.mx R) r) (Bn.mx R) i j (k + 1)) := Lib.hid rfl
                  have hfi := (HGi.out.blk i hil).2.1
                  have hHA := (HA2.out.2.2 i hil).1
                  have GP := Lib.hid (grown_drew (grown_set (i := j) (v := .int .i64 (Bn.rl (Bn.pr N (Bn.mx R) r) (Bn.mx R) i j (k + 1))) (grown_refl wr (some (f2 i)))))
                  clear e2 HGi
                  generalize Bn.rl (Bn.pr N (Bn.mx R) r) (Bn.mx R) i j k = y1 at *
                  generalize Bn.pr N (Bn.mx R) r i k = y2 at *
                  generalize Bn.mx R k j = y3 at *
                  generalize hy4 : Bn.rl (Bn.pr N (Bn.mx R) r) (Bn.mx R) i j (k + 1) = y4 at *
                  have HY4 := Lib.hid hy4
                  clear hy4
                  generalize c2 i = ci2 at *
                  generalize c i = ci at *
                  go_wp2
                  have zi : (i : Int) < (N : Int) + 1 := by omega
                  have zj : (j : Int) < (N : Int) + 1 := by omega
                  have zk : (k : Int) < (N : Int) + 1 := by omega
                  refine wp_region_still_tail 33 (by kernel_rfl) (by kernel_rfl) ?_
                  simp only [List.take_succ_cons, List.take_zero, List.drop_succ_cons, List.drop_zero]
                  repeat still_step
                  still_call ((CS wr.drew).out)
                  repeat still_step
                  still_call ((CL wr.drew).out)
                  repeat still_step
                  change wpList _ _ _ _ _ wr.drew
                  rw [HPE.out]
                  go_wp2
                  have hx9 : f2 i ≠ nb := by omega
                  have hx8 : f2 i ≠ w.heap.size := by omega
                  exact ⟨⟨k + 1, by omega, by first | rfl | go_num, (HNx.out.grown GP.out (fun e => hx9 e.symm)), (HBy.out.grown GP.out (fun e => hx8 e.symm)), Lib.hid (by rw [HY4.out]; exact HPut.out.drew), Lib.hid (HBi.out.trans (below_grown GP.out HBi.out.size hfi))⟩, by simp [intOf]; omega⟩
                · obtain rfl : k = N + 1 := by omega
                  have HGj := Lib.hid (HGi.out.congr (fun a b _ _ => Bn.up_filE (Bn.pr_succ N (Bn.mx R) r i j) a b))
                  clear HGi
                  go_wp2
                  exact ⟨⟨j + 1, by omega, rfl, HNx.out, HBy.out, HGj, HBi⟩, by simp [intOf]; omega⟩
            · obtain rfl : j = N + 1 := by omega
              have HGj := Lib.hid (HGi.out.congr (fun a b _ hb => Bn.fil_rowN (show b ≤ N by omega)))
              clear HGi
              go_wp2
              exact ⟨⟨i + 1, by omega, rfl, HNx.out, ⟨y0, y1, y2⟩, HGj, HBi⟩, by simp [intOf]; omega⟩
        · obtain rfl : i = N + 1 := by omega
          have HGj := Lib.hid (HGi.out.congr (fun a b ha _ => Bn.fil_endN (show a ≤ N by omega)))
          have hA := HA2.out.1
          have hA3 := HA2.out.2.2
          have HO6 := Lib.hid (HO.out.step HBi.out)
          have HR6 := Lib.hid (HR.out.step HBi.out)
          have hRb := HR.out.1
          have HB6 := Lib.hid (below_nxt HB.out HBi.out)
          have hBs := HB.out.size
          obtain ⟨p0, p1, p2, p3, p4⟩ := HO6.out
          have HF2 := Lib.hid hA3
          clear HGi hA3 o1 o2 o3 o4 x1 x2
          go_wp2
          have GS := fun (W : World) => grown_set (i := 1) (v := .slice (some ⟨A2, 0, none⟩) (N + 1) cp2) (grown_set (A := ob) (i := 0) (v := .int .i64 (N : Int)) (grown_refl W (some ob)))
          exact ⟨⟨r + 1, A2, cp2, f2, c2, by omega, rfl, h21, h22, BoxB.grown ⟨y0, y1, y2⟩ (GS _) (by omega), HO6.out.put N _, Lib.hid ((HGj.out.other (GS _) (by omega) (fun q hq => by have := (HF2.out q hq).2; omega)).mono (by omega)), Lib.hid ⟨by omega, fun q hq => by have := (HF2.out q hq).2; omega⟩, Lib.hid (HR6.out.grown (GS _) (by omega)), Lib.hid (HB6.out.trans (below_grown (GS _) HB6.out.size (by omega)))⟩, by simp [intOf]; omega⟩
    · obtain rfl : r = N + 1 := by omega
      have hG := HG.out
      have hA := hG.ge
      obtain ⟨r0, r1, r2, r3, r4⟩ := HR.out
      have HGD := Lib.hid hG
      clear hG HG CD
      go_wp2
      have RW : ResI ((wr.setCell ⟨w.heap.size + 1, 0, none⟩ (.int .i64 (N : Int))).setCell ⟨w.heap.size + 1, 1, none⟩ (.slice (some ⟨A, 0, none⟩) (N + 1) cp)) (w.heap.size + 1) N (.slice (some ⟨A, 0, none⟩) (N + 1) cp) := HR.out.put N _
      have BW : Below w.heap.size w ((wr.setCell ⟨w.heap.size + 1, 0, none⟩ (.int .i64 (N : Int))).setCell ⟨w.heap.size + 1, 1, none⟩ (.slice (some ⟨A, 0, none⟩) (N + 1) cp)) := (HB.out.setCell (p := ⟨w.heap.size + 1, 0, none⟩) (by simp) _).setCell (p := ⟨w.heap.size + 1, 1, none⟩) (by simp) _
      have GW := HGD.out.other (grown_set (i := 1) (v := .slice (some ⟨A, 0, none⟩) (N + 1) cp) (grown_set (A := w.heap.size + 1) (i := 0) (v := .int .i64 (N : Int)) (grown_refl _ _))) (by omega) (fun q hq => by have := (HGD.out.blk q hq).2.1; omega)
      generalize ((wr.setCell ⟨w.heap.size + 1, 0, none⟩ (.int .i64 (N : Int))).setCell ⟨w.heap.size + 1, 1, none⟩ (.slice (some ⟨A, 0, none⟩) (N + 1) cp)) = W2 at *
      obtain ⟨-, t1, t2, -, -⟩ := RW
      exact bodyPost_ret (v := .agg #[.int .i64 (N : Int), .slice (some ⟨A, 0, none⟩) (N + 1) cp]) (by simp [results, Try.results75, go_sem, t1, t2]) rfl ⟨_, rfl, ⟨A, cp, f, c, rfl, hcp1, hcp2, GW.mono (by omega)⟩, BW⟩
end Go.Proofs.Ytcdidncffdfnnaa
