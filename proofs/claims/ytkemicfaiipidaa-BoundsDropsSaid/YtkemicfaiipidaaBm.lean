/- cycle of package bounds. -/
import Derived.Test.YtkemicfaiipidaaBl
import Derived.Test.YtkemicfaiipidaaBq
namespace Bn
/-- A list of indices that proves a contradiction. -/
def Prv (n : Nat) (b : Mx) (l : List Int) : Prop := ∃ (fr : Nat → Nat) (x p : Nat), 0 < p ∧ p ≤ n + 1 ∧ bk fr x p = x ∧ (∀ t, b (fr (bk fr x t)) (bk fr x t) ≠ -1099511627776 ∧ bk fr x t ≤ n) ∧ bks b fr x p < 0 ∧
  l = (List.range p).map fun q => ((bk fr x (p - 1 - q) : Nat) : Int)
def wayL (fr : Nat → Nat) (x k : Nat) : List Int := (List.range k).map fun q => ((bk fr x q : Nat) : Int)
theorem wayL_len (fr : Nat → Nat) (x k : Nat) : (wayL fr x k).length = k := by simp [wayL]
theorem wayL_succ (fr : Nat → Nat) (x k : Nat) : wayL fr x (k + 1) = wayL fr x k ++ [((bk fr x k : Nat) : Int)] := by simp [wayL, List.range_succ]
theorem wayL_at (fr : Nat → Nat) (x : Nat) {k q : Nat} (h : q < k) : (wayL fr x k).getD q 0 = ((bk fr x q : Nat) : Int) := by simp [wayL, h]
end Bn
namespace Go.Proofs.Ytkemicfaiipidaa
open Go.RowKit

def lenV : Value → Nat
  | .slice _ n _ => n
  | _ => 0
theorem SeesI.of_arr {W : World} {g n cap : Nat} {h : Nat → Int} (H : ArrN W g n h) (h1 : n ≤ cap) (h2 : cap ≤ maxLen) : SeesI W (.slice (some ⟨g, 0, none⟩) n cap) ((List.range n).map h) :=
  .inr ⟨g, 0, cap, by simp, by simpa using h1, h2, H.1, fun i hi => by
    have hi' : i < n := by simpa using hi
    rw [Nat.zero_add, (H.2 i hi').1]; simp [hi']⟩
/-- What stands in a round of cycle. -/
structure CI (N g h : Nat) (b : Bn.Mx) (u : Bn.Mx) (w : World) (c r i j : Nat) (W : World) : Prop where
  mtx : MtxI W g N u
  ptr : BoxV W h (.pointer (some ⟨g, 0, none⟩))
  bel : Below h w W
  st : ∃ low fr last, Bn.Bf N b c r i j low fr last ∧ Arr13 W (h + 1) low ∧ Arr13 W (h + 1 + 1) (fun a => (fr a : Int)) ∧ BoxW W (h + 1 + 1 + 1) (.int .i64 (last : Int))
theorem cyc_each (N g h c r : Nat) (b u : Bn.Mx) (w W : World) (hR : Bn.Rt N b) (hu : ∀ i j, i ≤ N → j ≤ N → u i j = b i j) (hg : g < h) (hc : c ≤ 200) (hI : CI N g h b u w c r 0 0 W) :
    Calls Try.prog 45 #[.pointer (some ⟨g, 0, none⟩), .func (.func 74) #[] #[.pointer (some ⟨h + 1, 0, none⟩), .pointer (some ⟨h, 0, none⟩), .pointer (some ⟨h + 1 + 1, 0, none⟩), .pointer (some ⟨h + 1 + 1 + 1, 0, none⟩)]] W fun e w' => e = .returned (.tuple #[]) ∧ CI N g h b u w c r (N + 1) 0 w' := by
  have hN := hR.n12
  refine (each_cycle _ _ _ _ g N (CI N g h b u w c r) W hN hI (fun i j X H => H.mtx.2.1) ?_ ?_).mono ?_
  · rintro i j X hi hj H
    obtain ⟨low, fr, last, hB, hL, hF, hT⟩ := H.st
    refine (bCyc1_any i j (h + 1) h (h + 1 + 1) (h + 1 + 1 + 1) g N u b low fr last X (by omega) (by omega) H.mtx (hu i j hi hj) H.ptr hL hF hT (by omega) (by omega) (by omega) (hB.bd hR hi hc) (by have := hR.bd i j hi hj; omega)).mono ?_
    rintro e w1 ⟨rfl, g1, g2, g3, g4, g5⟩
    have hb := g4 (h + 1) (Nat.le_refl _) (by omega) (by omega)
    refine ⟨rfl, H.mtx.below (B := h + 1) (by omega) hb, g5 _ _ (by omega) (by omega) (by omega) H.ptr, H.bel.trans (hb.mono (by omega)), ?_⟩
    cases hh : Bn.hit b low i j
    · rw [hh] at g1 g2 g3
      exact ⟨low, fr, last, hB.no hR hi hj hc hh, g1, g2, g3⟩
    · rw [hh] at g1 g2 g3
      exact ⟨_, _, _, hB.yes hR hi hj hh, g1, g2, g3⟩
  · rintro i X hi H
    obtain ⟨low, fr, last, hB, hL, hF, hT⟩ := H.st
    exact ⟨H.mtx, H.ptr, H.bel, low, fr, last, hB.nextRow, hL, hF, hT⟩
  · rintro e w1 ⟨rfl, H⟩
    exact ⟨rfl, H⟩
set_option maxHeartbeats 4000000 in
set_option maxRecDepth 100000 in
theorem bCycle_any (N g : Nat) (b u : Bn.Mx) (w : World) (hR : Bn.Rt N b) (hno : Bn.ok N b = false) (hM : MtxI w g N u) (hu : ∀ i j, i ≤ N → j ≤ N → u i j = b i j) :
    Calls Try.prog 57 #[.pointer (some ⟨g, 0, none⟩)] w fun e w' => ∃ v l, e = .returned v ∧ SeesI w' v l ∧ (∀ q, v.ownBlock = some q → w.heap.size ≤ q) ∧ Bn.Prv N b l ∧ Below w.heap.size w w' := by
  obtain ⟨i0, hi0, hz0, hz1, hz2⟩ := info_int
  have hN := hR.n12
  have hgl := hM.1
  have wm1 := hM.2.1
  have HX : ∃ X, X = ((((w.alloc (.cells #[.pointer (some ⟨g, 0, none⟩)] 62)).alloc (.cells #[.int .i64 0, .int .i64 0, .int .i64 0, .int .i64 0, .int .i64 0, .int .i64 0, .int .i64 0, .int .i64 0, .int .i64 0, .int .i64 0, .int .i64 0, .int .i64 0, .int .i64 0] 74)).alloc (.cells #[.int .i64 0, .int .i64 0, .int .i64 0, .int .i64 0, .int .i64 0, .int .i64 0, .int .i64 0, .int .i64 0, .int .i64 0, .int .i64 0, .int .i64 0, .int .i64 0, .int .i64 0] 74)).alloc (.cells #[.int .i64 0] 3)) ∧ Hid (CI N g w.heap.size b u w 0 0 0 0 X) := by
    refine ⟨_, rfl, Lib.hid ?_⟩
    have V := boxV_new w (.pointer (some ⟨g, 0, none⟩)) 62
    have L0 : Below w.heap.size w (w.alloc (.cells #[.pointer (some ⟨g, 0, none⟩)] 62)) := (Below.refl _ _).alloc (Nat.le_refl _) _
    have M0 := hM.step L0
    have e0 : (w.alloc (.cells #[.pointer (some ⟨g, 0, none⟩)] 62)).heap.size = w.heap.size + 1 := by simp
    generalize w.alloc (.cells #[.pointer (some ⟨g, 0, none⟩)] 62) = Y0 at *
    have A1 : Arr13 (Y0.alloc (.cells #[.int .i64 0, .int .i64 0, .int .i64 0, .int .i64 0, .int .i64 0, .int .i64 0, .int .i64 0, .int .i64 0, .int .i64 0, .int .i64 0, .int .i64 0, .int .i64 0, .int .i64 0] 74)) Y0.heap.size (fun _ => 0) := arr_new Y0 74
    have L1 : Below Y0.heap.size Y0 (Y0.alloc (.cells #[.int .i64 0, .int .i64 0, .int .i64 0, .int .i64 0, .int .i64 0, .int .i64 0, .int .i64 0, .int .i64 0, .int .i64 0, .int .i64 0, .int .i64 0, .int .i64 0, .int .i64 0] 74)) := (Below.refl _ _).alloc (Nat.le_refl _) _
    have e1 : (Y0.alloc (.cells #[.int .i64 0, .int .i64 0, .int .i64 0, .int .i64 0, .int .i64 0, .int .i64 0, .int .i64 0, .int .i64 0, .int .i64 0, .int .i64 0, .int .i64 0, .int .i64 0, .int .i64 0] 74)).heap.size = w.heap.size + 1 + 1 := by simp [e0]
    rw [e0] at A1
    have V1 := V.step L1
    have M1 := M0.step L1
    have L01 := below_nxt L0 L1
    generalize Y0.alloc (.cells #[.int .i64 0, .int .i64 0, .int .i64 0, .int .i64 0, .int .i64 0, .int .i64 0, .int .i64 0, .int .i64 0, .int .i64 0, .int .i64 0, .int .i64 0, .int .i64 0, .int .i64 0] 74) = Y1 at *
    have A2 : Arr13 (Y1.alloc (.cells #[.int .i64 0, .int .i64 0, .int .i64 0, .int .i64 0, .int .i64 0, .int .i64 0, .int .i64 0, .int .i64 0, .int .i64 0, .int .i64 0, .int .i64 0, .int .i64 0, .int .i64 0] 74)) Y1.heap.size (fun _ => 0) := arr_new Y1 74
    have L2 : Below Y1.heap.size Y1 (Y1.alloc (.cells #[.int .i64 0, .int .i64 0, .int .i64 0, .int .i64 0, .int .i64 0, .int .i64 0, .int .i64 0, .int .i64 0, .int .i64 0, .int .i64 0, .int .i64 0, .int .i64 0, .int .i64 0] 74)) := (Below.refl _ _).alloc (Nat.le_refl _) _
    have e2 : (Y1.alloc (.cells #[.int .i64 0, .int .i64 0, .int .i64 0, .int .i64 0, .int .i64 0, .int .i64 0, .int .i64 0, .int .i64 0, .int .i64 0, .int .i64 0, .int .i64 0, .int .i64 0, .int .i64 0] 74)).heap.size = w.heap.size + 1 + 1 + 1 := by simp [e1]
    rw [e1] at A2
    have A1' := A1.step L2
    have V2 := V1.step L2
    have M2 := M1.step L2
    have L02 := below_nxt L01 L2
    generalize Y1.alloc (.cells #[.int .i64 0, .int .i64 0, .int .i64 0, .int .i64 0, .int .i64 0, .int .i64 0, .int .i64 0, .int .i64 0, .int .i64 0, .int .i64 0, .int .i64 0, .int .i64 0, .int .i64 0] 74) = Y2 at *
    have T3 := boxW_new Y2 (.int .i64 0) 3
    have L3 : Below Y2.heap.size Y2 (Y2.alloc (.cells #[.int .i64 0] 3)) := (Below.refl _ _).alloc (Nat.le_refl _) _
    rw [e2] at T3
    exact ⟨M2.step L3, V2.step L3, below_nxt L02 L3, _, _, _, Bn.Bf.start, A1'.step L3, A2.step L3, T3⟩
  obtain ⟨X, hX, HI⟩ := HX
  obtain ⟨v0, v1⟩ := HI.out.ptr
  have m0 := HI.out.mtx.1
  have m1 := HI.out.mtx.2.1
  rw [hX] at v0 v1 m0 m1
  have HR := Lib.hid hR
  have HU := Lib.hid hu
  have CE := fun (c r : Nat) (W : World) (hc : c ≤ 200) (hI : CI N g w.heap.size b u w c r 0 0 W) => Lib.hid (cyc_each N g w.heap.size c r b u w W hR hu hgl hc hI)
  clear hM hR hu
  go_enter Try.func57, Try.ntmps57
  go_wp2_with fail
  clear v0 v1 m0 m1
  rw [← hX]
  clear hX wm1
  go_loopw [13] (fun s13 wr => ∃ r c : Nat, r ≤ N + 1 ∧ c ≤ 14 * r ∧ s13 = .int .i64 (r : Int) ∧ Hid ((r = 0 ∧ CI N g w.heap.size b u w 0 0 0 0 wr) ∨ ∃ q, r = q + 1 ∧ CI N g w.heap.size b u w c q (N + 1) 0 wr)) (fun s13 _ => N + 1 - (intOf s13).toNat)
  case atStart => exact ⟨0, 0, Nat.zero_le _, by omega, rfl, Lib.hid (.inl ⟨rfl, HI.out⟩)⟩
  case round =>
    clear HI
    obtain ⟨r, c, hr, hc, rfl, HJ⟩ := hrel
    by_cases hrl : r < N + 1
    · have hst : ∃ c', c' ≤ 14 * (r + 1) ∧ CI N g w.heap.size b u w c' r 0 0 wr := by
        rcases HJ.out with ⟨rfl, h1⟩ | ⟨q, rfl, h1⟩
        · exact ⟨0, by omega, h1⟩
        · obtain ⟨low, fr, last, hB, hL, hF, hT⟩ := h1.st
          exact ⟨c + (N + 2), by omega, h1.mtx, h1.ptr, h1.bel, low, fr, last, hB.nextRound, hL, hF, hT⟩
      obtain ⟨c', hc', hI⟩ := hst
      have CE1 := CE c' r wr (by omega) hI
      obtain ⟨v0, v1⟩ := hI.ptr
      clear CE HJ hI
      go_wp2_with (go_at_call 45; refine (CE1.out).mono ?_; rintro e w1 ⟨rfl, hI⟩; have HI1 := Lib.hid hI; clear hI)
      exact ⟨⟨r + 1, c', by omega, hc', by first | rfl | go_num, Lib.hid (.inr ⟨r, rfl, HI1.out⟩)⟩, by simp [intOf]; omega⟩
    · obtain rfl : r = N + 1 := by omega
      have hI : CI N g w.heap.size b u w c N (N + 1) 0 wr := by
        rcases HJ.out with ⟨h0, _⟩ | ⟨q, hq, h1⟩
        · omega
        · obtain rfl : q = N := by omega
          exact h1
      clear HJ CE
      obtain ⟨low, fr, last, hB, hL, hF, hT⟩ := hI.st
      obtain ⟨p, hp1, hp2, hp3, hp4, hp5⟩ := hB.cyc HR.out hno
      have HP3 := Lib.hid hp3
      have HP4 := Lib.hid hp4
      have HP5 := Lib.hid hp5
      have hbk : ∀ t, Bn.bk fr last t ≤ N := fun t => by
        cases t with
        | zero => exact hB.lst
        | succ t => exact hB.frm _
      have HBK := Lib.hid hbk
      have HF := Lib.hid hF
      have HT := Lib.hid hT
      obtain ⟨v0, v1⟩ := hI.ptr
      have m0 := hI.mtx.1
      have m1 := hI.mtx.2.1
      have HB := Lib.hid hI.bel
      obtain ⟨t0, t1, t2⟩ := hT
      clear hI hL hF hp3 hp4 hp5 hbk hB
      rw [show ((N + 1 : Nat) : Int) = (N : Int) + 1 from rfl]
      go_wp2
      go_loopw [24] (fun s24 wr => ∃ t : Nat, t ≤ N + 1 ∧ s24 = .int .i64 (t : Int) ∧ BoxW wr (w.heap.size + 1 + 1 + 1) (.int .i64 ((Bn.bk fr last t : Nat) : Int)) ∧ Hid (Arr13 wr (w.heap.size + 1 + 1) (fun a => (fr a : Int))) ∧ Hid (Below w.heap.size w wr)) (fun s24 _ => N + 1 - (intOf s24).toNat)
      case atStart => exact ⟨0, Nat.zero_le _, rfl, HT.out, HF, HB⟩
      case round =>
        clear HT HF HB t0 t1 t2 v0 v1 m0 m1
        obtain ⟨t, ht, rfl, hT, HF, HB⟩ := hrel
        have HT := Lib.hid hT
        obtain ⟨t0, t1, t2⟩ := hT
        have hx13 : Bn.bk fr last t < 13 := by have := HBK.out t; omega
        have f2 : wr.cell? ⟨w.heap.size + 1 + 1, Bn.bk fr last t, none⟩ = some (.int .i64 ((fr (Bn.bk fr last t) : Nat) : Int)) := (HF.out.2 _ hx13).1
        by_cases htl : t < N + 1
        · have HT2 := Lib.hid (HT.out.put (.int .i64 ((fr (Bn.bk fr last t) : Nat) : Int)))
          have HF2 := Lib.hid (HF.out.grown (grown_set (A := w.heap.size + 1 + 1 + 1) (i := 0) (v := .int .i64 ((fr (Bn.bk fr last t) : Nat) : Int)) (grown_refl wr _)) (by omega))
          have HB2 := Lib.hid (HB.out.setCell (p := ⟨w.heap.size + 1 + 1 + 1, 0, none⟩) (by simp; omega) (.int .i64 ((fr (Bn.bk fr last t) : Nat) : Int)))
          have hbt : Bn.bk fr last (t + 1) = fr (Bn.bk fr last t) := rfl
          have HBT := Lib.hid hbt
          clear hbt HT HF HB
          generalize Bn.bk fr last t = x at *
          generalize hy : fr x = y at *
          have zx : (x : Int) < 13 := by omega
          go_wp2
          exact ⟨⟨t + 1, by omega, by first | rfl | go_num, by rw [HBT.out]; exact HT2.out, HF2, HB2⟩, by simp [intOf]; omega⟩
        · obtain rfl : t = N + 1 := by omega
          have HIN := Lib.hid (fun q => show Bn.bk fr (Bn.bk fr last (N + 1)) q ≤ N from (HP4.out q).2)
          have f4 : wr.cell? ⟨w.heap.size + 1 + 1, Bn.bk fr last (N + 1), none⟩ = some (.int .i64 ((Bn.bk fr (Bn.bk fr last (N + 1)) 1 : Nat) : Int)) := f2
          clear HBK f2
          generalize Bn.bk fr last (N + 1) = x at *
          have zx : (x : Int) < 13 := by omega
          rw [show ((N + 1 : Nat) : Int) = (N : Int) + 1 from rfl]
          have HT2 := Lib.hid (HT.out.step ((Below.refl _ _).alloc (Nat.le_refl _) (.cells #[.int .i64 (x : Int)] 3)))
          have HR1 : Hid (RowI wr.heap.size 3 (wr.alloc (.cells #[.int .i64 (x : Int)] 3)) (.slice (some ⟨wr.heap.size, 0, none⟩) 1 1) (Bn.wayL fr x 1)) := Lib.hid (RowI.one _ _ _ (Nat.le_refl _) _)
          have HBW : Hid (Below wr.heap.size wr (wr.alloc (.cells #[.int .i64 (x : Int)] 3))) := Lib.hid ((Below.refl _ _).alloc (Nat.le_refl _) _)
          have hsz := HF.out.1
          obtain ⟨wo, rfl⟩ : ∃ wo, wo = wr := ⟨_, rfl⟩
          go_wp2
          go_loopw [6, 7] (fun s6 s7 wr => ∃ k : Nat, 1 ≤ k ∧ k ≤ p ∧ s7 = .int .i64 ((Bn.bk fr x k : Nat) : Int) ∧ lenV s6 = k ∧ Hid (RowI wo.heap.size 3 wr s6 (Bn.wayL fr x k)) ∧ Hid (∀ q, 0 < q → q < k → Bn.bk fr x q ≠ x) ∧ Hid (Below wo.heap.size wo wr)) (fun s6 _ _ => N + 2 - lenV s6)
          case atStart => exact ⟨1, Nat.le_refl _, hp1, rfl, rfl, HR1, Lib.hid (fun q h1 h2 => by omega), HBW⟩
          case round =>
            clear HT2 HR1 HBW
            obtain ⟨k, hk1, hkp, rfl, hlv, HRo, HNe, HBW⟩ := hrel
            obtain ⟨ra, rc, hrv⟩ := HRo.out.form
            rw [Bn.wayL_len] at hrv
            subst hrv
            obtain ⟨t0', t1', t2'⟩ := HT.out.step HBW.out
            have hxk := HIN.out k
            have hzw := HBW.out.size
            by_cases hret : Bn.bk fr x k = x
            · rw [hret]
              obtain ⟨gl, rfl, hg1, hg2, -⟩ := HRo.out.block (by rw [Bn.wayL_len]; omega)
              have hcap : k ≤ rc ∧ rc ≤ maxLen := by
                rcases HRo.out.2 with ⟨h', _⟩ | ⟨g', cap', cur, h', _, _, h1, h2, _⟩
                · simp at h'
                · simp only [Value.slice.injEq] at h'
                  obtain ⟨_, _, rfl⟩ := h'
                  rw [Bn.wayL_len] at h1
                  exact ⟨h1, h2⟩
              have HAr : Hid (ArrN wr gl k (fun q => ((Bn.bk fr x q : Nat) : Int))) := Lib.hid ⟨hg2, fun q hq => by
                have hu := HRo.out
                unfold RowI at hu
                rw [Bn.wayL_len] at hu
                refine ⟨?_, hu.frozenAt q⟩
                rw [hu.cellAt q (by omega), List.getElem?_map, List.getElem?_eq_getElem (by rw [Bn.wayL_len]; omega)]
                have := Bn.wayL_at fr x hq
                rw [List.getD_eq_getElem?_getD, List.getElem?_eq_getElem (by rw [Bn.wayL_len]; omega)] at this
                simpa using this⟩
              have CR := Lib.hid (bRev_any gl k rc _ wr hk1 (by omega) hcap.1 HAr.out)
              have hneg := HP5.out k (by omega) hret
              have HPr : Hid (Bn.Prv N b ((List.range k).map fun q => ((Bn.bk fr x (k - 1 - q) : Nat) : Int))) := Lib.hid ⟨fr, x, k, by omega, by omega, hret, HP4.out, hneg, rfl⟩
              have HBz := Lib.hid (below_nxt HB.out (HBW.out.mono (Nat.le_refl _)))
              clear HP3 HP4 HP5 HIN HNe HRo HAr hneg
              go_wp2_with (go_at_call 75; refine (CR.out).mono ?_; rintro e w1 ⟨rfl, ha1, hg5⟩; have HA1 := Lib.hid ha1; have HG1 := Lib.hid hg5; clear ha1 hg5)
              have hwo := HB.out.size
              exact bodyPost_ret (v := .slice (some ⟨gl, 0, none⟩) k rc) (by simp [results, Try.results57, go_sem]) rfl ⟨_, _, rfl, SeesI.of_arr HA1.out hcap.1 hcap.2, fun q hq => by simp [Value.ownBlock] at hq; omega, HPr.out, HBz.out.trans (below_grown HG1.out HBz.out.size (by omega))⟩
            · have hkp2 : k < p := by
                have : k ≠ p := fun e => hret (by rw [e]; exact HP3.out)
                omega
              have hk13 : Bn.bk fr x k < 13 := by omega
              have f5 : wo.cell? ⟨w.heap.size + 1 + 1, Bn.bk fr x k, none⟩ = some (.int .i64 ((Bn.bk fr x (k + 1) : Nat) : Int)) := (HF.out.2 _ hk13).1
              have f6 := (HBW.out.cell (p := ⟨w.heap.size + 1 + 1, Bn.bk fr x k, none⟩) hsz).trans f5
              have HS2 := Lib.hid (Bn.wayL_succ fr x k)
              have hretI : ¬ (((Bn.bk fr x k : Nat) : Int) = (x : Int)) := by omega
              have HNe2 : Hid (∀ q, 0 < q → q < k + 1 → Bn.bk fr x q ≠ x) := Lib.hid (fun q h1 h2 => by
                by_cases e : q = k
                · rw [e]; exact hret
                · exact HNe.out q h1 (by omega))
              have HLen : Hid ((Bn.wayL fr x k).length + [((Bn.bk fr x k : Nat) : Int)].length ≤ 1048576) := Lib.hid (by rw [Bn.wayL_len]; simp; omega)
              have HWT := Lib.hid (fun (o : Obj) => (HRo.out.step ((Below.refl _ _).alloc (Nat.le_refl _) o)))
              have HN1 := Lib.hid (SeesI.one wr ((Bn.bk fr x k : Nat) : Int) 3)
              have HLL := Lib.hid (Bn.wayL_len fr x k)
              have hszr : w.heap.size + 1 + 1 < wr.heap.size := Nat.lt_of_lt_of_le hsz hzw
              clear HP5 HRo HNe hret f5
              generalize hbk1 : Bn.bk fr x (k + 1) = y1 at *
              have HBK1 := Lib.hid hbk1
              clear hbk1
              generalize Bn.bk fr x k = y at *
              generalize Bn.wayL fr x k = l at *
              have zy : (y : Int) < 13 := by omega
              go_wp2_with (at_builtin; refine wpList_append_int rfl _ _ 42 rfl 3 i0 Try.underlying42 hi0 hz0 hz1 hz2 _ _ l [(y : Int)] rfl rfl wo.heap.size (HWT.out _) HN1.out HLen.out (by simp; omega) ?_; intro a5 p5 w5 hr5 hg5 ho5; have hb5 := RowI.belowOwn (C := wo.heap.size) (HWT.out _) hg5 (by simp; omega) (Nat.le_refl _); have HR5 := Lib.hid hr5; have HB5 := Lib.hid ((HBW.out.alloc hzw _).trans hb5); have f7 := (HB5.out.cell (p := ⟨w.heap.size + 1 + 1, y, none⟩) hsz).trans ((HBW.out.cell (p := ⟨w.heap.size + 1 + 1, y, none⟩) hsz).symm.trans f6); clear hr5 hg5 ho5 hb5)
              have hll := HLL.out
              exact ⟨⟨k + 1, by omega, by omega, by rw [HBK1.out], by simp only [lenV]; omega, by rw [HS2.out]; exact HR5, HNe2, HB5⟩, by simp only [lenV]; omega⟩
end Go.Proofs.Ytkemicfaiipidaa

