/- slices.Compact at edges: the walk. -/
import Derived.Test.YtkjhockppkdakaaDz
namespace Go.Proofs.Ytkjhockppkdakaa
open Go.RowKit Go.Shelf Go.Lib

theorem ArrE.step {W W' : World} {g : Nat} {l : List (Nat × Nat)} (h : ArrE W g l) (hb : Below W.heap.size W W') : ArrE W' g l :=
  ⟨Nat.lt_of_lt_of_le h.1 hb.size, fun i hi => ⟨⟨(hb.cell (p := ⟨g, i * 2, none⟩) h.1).trans (h.2 i hi).1.1, (hb.cell (p := ⟨g, i * 2 + 1, none⟩) h.1).trans (h.2 i hi).1.2⟩, (hb.frozen (p := ⟨g, i * 2, none⟩) h.1).trans (h.2 i hi).2.1, (hb.frozen (p := ⟨g, i * 2 + 1, none⟩) h.1).trans (h.2 i hi).2.2⟩⟩
theorem setCell_at {W : World} {g i j : Nat} {u : Value} (hs : (W.cell? ⟨g, i, none⟩).isSome = true) : (W.setCell ⟨g, i, none⟩ u).cell? ⟨g, j, none⟩ = if j = i then some u else W.cell? ⟨g, j, none⟩ := by
  by_cases e : j = i
  · subst e; rw [if_pos rfl, World.cell?_setCell_same' _ _ _ hs]
  · rw [if_neg e, World.cell?_setCell_other (w := W) (v := u) (a := ⟨g, i, none⟩) (b := ⟨g, j, none⟩) (fun e' => e (congrArg Addr.off e').symm)]
theorem ArrE.put {W : World} {g i : Nat} {l : List (Nat × Nat)} (h : ArrE W g l) (hi : i < l.length) (x : Nat × Nat) : ArrE ((W.setCell ⟨g, i * 2, none⟩ (.int .i64 (x.1 : Int))).setCell ⟨g, i * 2 + 1, none⟩ (.int .i64 (x.2 : Int))) g (l.set i x) := by
  refine ⟨by simpa [World.setCell] using h.1, fun j hj => ?_⟩
  have hj' : j < l.length := by simpa using hj
  obtain ⟨⟨c1, c2⟩, f1, f2⟩ := h.2 j hj'
  obtain ⟨⟨d1, d2⟩, -⟩ := h.2 i hi
  have s1 : (W.cell? ⟨g, i * 2, none⟩).isSome = true := by rw [d1]; rfl
  have s2 : ((W.setCell ⟨g, i * 2, none⟩ (.int .i64 (x.1 : Int))).cell? ⟨g, i * 2 + 1, none⟩).isSome = true := by rw [setCell_at s1, if_neg (by omega), d2]; rfl
  rw [setCell_at s2, setCell_at s2, setCell_at s1, setCell_at s1, World.frozen?_setCell, World.frozen?_setCell, World.frozen?_setCell, World.frozen?_setCell, Dg.set_getD _ _ _ _ _ hi]
  by_cases e : j = i
  · subst e
    rw [if_neg (by omega), if_pos rfl, if_pos rfl, if_pos rfl]
    exact ⟨⟨rfl, rfl⟩, f1, f2⟩
  · rw [if_neg (by omega), if_neg (by omega), if_neg (by omega), if_neg (by omega), if_neg (by omega)]
    exact ⟨⟨c1, c2⟩, f1, f2⟩
theorem ArrE.every {W : World} {g : Nat} {l : List (Nat × Nat)} (h : ArrE W g l) {t : Nat} (ht : t < l.length * 2) : (W.cell? ⟨g, t, none⟩).isSome = true ∧ W.frozen? ⟨g, t, none⟩ = false := by
  obtain ⟨⟨c1, c2⟩, f1, f2⟩ := h.2 (t / 2) (by omega)
  rcases (show t = t / 2 * 2 ∨ t = t / 2 * 2 + 1 by omega) with e | e
  · rw [e, c1]; exact ⟨rfl, f1⟩
  · rw [e, c2]; exact ⟨rfl, f2⟩
theorem frozen_setCells (b : Nat) (a : Addr) : ∀ (xs : List Value) (w : World) (o : Nat), (w.setCells b o xs).frozen? a = w.frozen? a
  | [], _, _ => rfl
  | x :: r, w, o => by rw [World.setCells, frozen_setCells b a r, World.frozen?_setCell]

set_option maxHeartbeats 4000000 in
set_option maxRecDepth 100000 in
theorem sCompE_any (l : List (Nat × Nat)) (g cap : Nat) (w : World) (h : ArrE w g l) (hcap : l.length ≤ cap) (hmax : cap ≤ maxLen) (hlen : l.length ≤ 4096) :
    Calls Try.prog 64 #[.slice (some ⟨g, 0, none⟩) l.length cap] w fun e w' => e = .returned (.slice (some ⟨g, 0, none⟩) (compact l).length cap) ∧ w.grownBy w' (some g) ∧ ArrE w' g (compact l) := by
  have HA := Lib.hid h
  have hmax' : cap ≤ 9223372036854775807 := hmax
  have HALL : Hid ((∀ j, j < l.length → keeps l.toArray j = true) → compact l = l) := Lib.hid (compact_all l)
  clear h hmax
  by_cases h2 : l.length < 2
  · have HC := Lib.hid (HALL.out (fun j hj => keeps_lt_one _ j (by omega)))
    go_enter Try.func64, Try.ntmps64
    go_wp2
    go_ret
    rw [HC.out]
    exact ⟨rfl, grown_refl _ _, HA.out⟩
  · have hmix : Try.prog.follows .mixedOrders = true := by kernel_rfl
    go_enter Try.func64, Try.ntmps64
    go_wp2
    go_loopw [3] (fun s3 wr => ∃ k : Nat, 1 ≤ k ∧ k ≤ l.length ∧ s3 = .int .i64 k ∧ Hid (∀ j, j < k → keeps l.toArray j = true) ∧ Hid (Below w.heap.size w wr)) (fun s3 _ => l.length - (intOf s3).toNat)
    case atStart => exact ⟨1, Nat.le_refl _, by omega, rfl, Lib.hid (keeps_lt_one _), Lib.hid (Below.refl _ _)⟩
    case round =>
      obtain ⟨k, hk1, hk, rfl, HKE, HB⟩ := hrel
      by_cases hlt : k < l.length
      · obtain ⟨k', rfl⟩ : ∃ k', k = k' + 1 := ⟨k - 1, by omega⟩
        have HAr := Lib.hid (HA.out.step HB.out)
        obtain ⟨⟨c1, c2⟩, -⟩ := HAr.out.2 (k' + 1) hlt
        obtain ⟨⟨d1, d2⟩, -⟩ := HAr.out.2 k' (by omega)
        have HX : Hid (l.toArray[k' + 1]! = l.getD (k' + 1) (0, 0)) := Lib.hid (by rw [← De.gd])
        have HY : Hid (l.toArray[k' + 1 - 1]! = l.getD k' (0, 0)) := Lib.hid (by rw [← De.gd]; rfl)
        generalize l.getD (k' + 1) (0, 0) = x at *
        generalize l.getD k' (0, 0) = y at *
        have hsum : IntKind.i64.wrap (((k' + 1 : Nat) : Int) - 1) = (k' : Int) := by
          rw [show (((k' + 1 : Nat) : Int) - 1) = (k' : Int) by omega]; exact IntWalk.i64_in _ (by omega)
        have hq := eqE (x.1 : Int) (x.2 : Int) (y.1 : Int) (y.2 : Int)
        by_cases hxy : x = y
        · subst hxy
          simp only [beq_self_eq_true, Bool.and_self] at hq
          go_wp2
          go_quiet (fail)
          go_wp2
          have HA0 := Lib.hid (HAr.out.step (below_drewN wr nq))
          have HG0 := Lib.hid (grown_below (r := some g) (HB.out.trans (below_drewN wr nq)))
          have HI0 := Lib.hid (CompInv.start HKE.out (keeps_neg (by omega) (by rw [HX.out, HY.out])))
          clear c1 c2 d1 d2 hq hsum HX HY HAr HB HALL HKE
          generalize wr.drewN nq = wo at *
          go_loopw [3, 5] (fun s3 s5 wr => ∃ (kk k2 : Nat) (dk : Array (Nat × Nat)), s3 = .int .i64 kk ∧ s5 = .int .i64 k2 ∧ 1 ≤ k2 ∧ k' + 1 + k2 ≤ l.length ∧ Hid (ArrE wr g dk.toList) ∧ Hid (CompInv l.toArray (k' + 1 + k2) kk dk) ∧ Hid (w.grownBy wr (some g))) (fun _ s5 _ => l.length - (k' + 1) - (intOf s5).toNat)
          case atStart => exact ⟨k' + 1, 1, l.toArray, rfl, rfl, Nat.le_refl _, by omega, by simpa using HA0, HI0, HG0⟩
          case round =>
            clear HA0 HI0 HG0
            obtain ⟨kk, k2, dk, rfl, rfl, h1, hle, HA2, HI, HG⟩ := hrel
            have hkk := HI.out.lt
            have hds : dk.toList.length = l.length := by simpa using HI.out.size
            have HDS := Lib.hid hds
            clear hds
            by_cases hlt2 : k' + 1 + k2 < l.length
            · obtain ⟨q, rfl⟩ : ∃ q, k2 = q + 1 := ⟨k2 - 1, by omega⟩
              obtain ⟨⟨m1, m2⟩, -⟩ := HA2.out.2 (k' + 1 + (q + 1)) (by rw [HDS.out]; exact hlt2)
              obtain ⟨⟨p1, p2⟩, -⟩ := HA2.out.2 (k' + 1 + q) (by rw [HDS.out]; omega)
              obtain ⟨⟨o1, o2⟩, f1, f2⟩ := HA2.out.2 kk (by rw [HDS.out]; omega)
              rw [De.gd, HI.out.high _ (by omega), show (k' + 1 + (q + 1)) * 2 = (k' + 1) * 2 + (q + 1) * 2 by omega] at m1 m2
              rw [De.gd, HI.out.high _ (by omega), show (k' + 1 + q) * 2 = (k' + 1) * 2 + q * 2 by omega] at p1 p2
              have HU : Hid (∃ u, l.toArray[k' + 1 + (q + 1)]! = u) := Lib.hid ⟨_, rfl⟩
              generalize hu : l.toArray[k' + 1 + (q + 1)]! = u at *
              generalize hv : l.toArray[k' + 1 + q]! = v at *
              have HUV : Hid (l.toArray[k' + 1 + (q + 1)]! = u ∧ l.toArray[k' + 1 + (q + 1) - 1]! = v) := Lib.hid ⟨hu, hv⟩
              have hsum : IntKind.i64.wrap (((q + 1 : Nat) : Int) - 1) = (q : Int) := by
                rw [show (((q + 1 : Nat) : Int) - 1) = (q : Int) by omega]; exact IntWalk.i64_in _ (by omega)
              have hq := eqE (u.1 : Int) (u.2 : Int) (v.1 : Int) (v.2 : Int)
              generalize dk.toList.getD kk (0, 0) = old at *
              clear hu hv HU
              by_cases huv : u = v
              · subst huv
                simp only [beq_self_eq_true, Bool.and_self] at hq
                have HI2 := Lib.hid (HI.out.skip (keeps_neg (by omega) (by rw [HUV.out.1, HUV.out.2])))
                clear HI HUV
                go_wp2
                go_quiet (fail)
                go_wp2
                exact ⟨⟨kk, q + 1 + 1, dk, rfl, by first | rfl | go_num, by omega, by omega, Lib.hid (HA2.out.step (below_drewN wr _)), HI2, Lib.hid (grown_then HG.out (below_drewN wr _))⟩, by simp [intOf]; omega⟩
              · have hne : ((u.1 : Int) == (v.1 : Int) && (u.2 : Int) == (v.2 : Int)) = false := by
                  rw [Bool.and_eq_false_iff]
                  simp only [beq_eq_false_iff_ne, ne_eq]
                  by_cases e1 : u.1 = v.1
                  · right; intro e2; exact huv (Prod.ext e1 (by omega))
                  · left; omega
                rw [hne] at hq
                have HI2 := Lib.hid (HI.out.keep (by simpa using hlt2) (keeps_pos (by rw [HUV.out.1, HUV.out.2]; exact huv)))
                rw [HUV.out.1] at HI2
                clear HI HUV hne
                go_wp2
                go_quiet (fail)
                go_wp2
                exact ⟨⟨kk + 1, q + 1 + 1, _, by first | rfl | go_num, by first | rfl | go_num, by omega, by omega, Lib.hid (by rw [Array.toList_setIfInBounds]; exact (HA2.out.step (below_drewN wr _)).put (by rw [HDS.out]; omega) u), HI2, Lib.hid (grown_set (grown_set (grown_then HG.out (below_drewN wr _))))⟩, by simp [intOf]; omega⟩
            · obtain rfl : k2 = l.length - (k' + 1) := by omega
              rw [show k' + 1 + (l.length - (k' + 1)) = l.length by omega] at *
              have hcl : ∀ ty, (Builtin.clear_ #[22] ty #[.slice (some ⟨g, kk * 2, none⟩) (l.length - kk) (cap - kk)]).run Try.prog wr = .ok (.tuple #[]) (wr.setCells g (kk * 2) (List.replicate ((l.length - kk) * 2) (.int .i64 0))) := fun ty =>
                run_clear_edge wr ty g (kk * 2) _ _ (by omega) (fun j hj => (HA2.out.every (by rw [HDS.out]; omega)).1) (fun j hj => (HA2.out.every (by rw [HDS.out]; omega)).2)
              have HLEN : Hid ((compact l).length = kk) := Lib.hid HI.out.len
              have HF : Hid (ArrE (wr.setCells g (kk * 2) (List.replicate ((l.length - kk) * 2) (.int .i64 0))) g (compact l)) := Lib.hid (by
                have hgr := setCells_grown g (List.replicate ((l.length - kk) * 2) (.int .i64 0)) wr (kk * 2)
                refine ⟨Nat.lt_of_lt_of_le HA2.out.1 hgr.size, fun i hi => ?_⟩
                rw [HLEN.out] at hi
                obtain ⟨⟨c1, c2⟩, f1, f2⟩ := HA2.out.2 i (by rw [HDS.out]; omega)
                rw [De.gd] at c1 c2
                have hlow := HI.out.low i hi
                have hel : (compact l).getD i (0, 0) = dk[i]! := by
                  rw [List.getD_eq_getElem?_getD]
                  show ((compactUpTo l.toArray l.length)[i]?).getD (0, 0) = _
                  rw [hlow]; rfl
                rw [hel, setCells_low g _ wr _ _ (by omega), setCells_low g _ wr _ _ (by omega), frozen_setCells, frozen_setCells]
                exact ⟨⟨c1, c2⟩, f1, f2⟩)
              have HG2 := Lib.hid (grown_trans HG.out (setCells_grown g (List.replicate ((l.length - kk) * 2) (.int .i64 0)) wr (kk * 2)))
              clear HI HA2 HG
              go_wp2
              exact bodyPost_ret (v := .slice (some ⟨g, 0, none⟩) kk cap) (by simp [results, Try.results64, go_sem]) rfl ⟨by rw [HLEN.out], HG2.out, HF.out⟩
        · have hne : ((x.1 : Int) == (y.1 : Int) && (x.2 : Int) == (y.2 : Int)) = false := by
            rw [Bool.and_eq_false_iff]
            simp only [beq_eq_false_iff_ne, ne_eq]
            by_cases e1 : x.1 = y.1
            · right; intro e2; exact hxy (Prod.ext e1 (by omega))
            · left; omega
          rw [hne] at hq
          have HKE2 : Hid (∀ j, j < k' + 1 + 1 → keeps l.toArray j = true) := Lib.hid (fun j hj => by
            by_cases e : j = k' + 1
            · subst e; exact keeps_pos (by rw [HX.out, HY.out]; exact hxy)
            · exact HKE.out j (by omega))
          clear hne HKE HX HY
          go_wp2
          go_quiet (fail)
          go_wp2
          exact ⟨⟨k' + 1 + 1, by omega, by omega, by first | rfl | go_num, HKE2, Lib.hid (HB.out.trans (below_drewN wr _))⟩, by simp [intOf]; omega⟩
      · obtain rfl : k = l.length := by omega
        have HC := Lib.hid (HALL.out HKE.out)
        go_wp2
        exact bodyPost_ret (v := .slice (some ⟨g, 0, none⟩) l.length cap) (by simp [results, Try.results64, go_sem]) rfl ⟨by rw [HC.out], grown_below HB.out, by rw [HC.out]; exact HA.out.step HB.out⟩
end Go.Proofs.Ytkjhockppkdakaa
