/- Condense of package digraph. -/
import Derived.Test.YtkjhockppkdakaaDA
namespace Dg
/-- The numbers of the components of the vertices. -/
def nums (n : Nat) (es : List (Nat × Nat)) (j : Nat) : List Nat := (List.range j).map (num n es)
theorem nums_succ (n : Nat) (es : List (Nat × Nat)) (j : Nat) : nums n es (j + 1) = nums n es j ++ [num n es j] := by
  unfold nums; rw [List.range_succ, List.map_append]; rfl
theorem nums_len (n : Nat) (es : List (Nat × Nat)) (j : Nat) : (nums n es j).length = j := by simp [nums]
/-- The edges between components, in the order of the edges. -/
def cE (n : Nat) (es : List (Nat × Nat)) : List (Nat × Nat) := (es.map fun e => (num n es e.1, num n es e.2)).filter fun p => p.1 != p.2
def cEi (n : Nat) (es : List (Nat × Nat)) (i : Nat) : List (Nat × Nat) := ((es.take i).map fun e => (num n es e.1, num n es e.2)).filter fun p => p.1 != p.2
theorem cEi_succ {n : Nat} {es : List (Nat × Nat)} {i : Nat} (h : i < es.length) : cEi n es (i + 1) = if num n es (es.getD i (0, 0)).1 ≠ num n es (es.getD i (0, 0)).2 then cEi n es i ++ [(num n es (es.getD i (0, 0)).1, num n es (es.getD i (0, 0)).2)] else cEi n es i := by
  unfold cEi
  rw [take_at (0, 0) h, List.map_append, List.filter_append]
  generalize es.getD i (0, 0) = e
  split
  · next g => simp [g]
  · next g => simp at g; simp [g]
theorem cEi_all (n : Nat) (es : List (Nat × Nat)) : cEi n es es.length = cE n es := by unfold cEi cE; rw [List.take_length]
theorem cEi_len (n : Nat) (es : List (Nat × Nat)) (i : Nat) : (cEi n es i).length ≤ es.length := by
  unfold cEi
  refine Nat.le_trans (List.length_filter_le _ _) ?_
  rw [List.length_map, List.length_take]; omega
theorem max_num {n : Nat} {es : List (Nat × Nat)} (hE : Ok n es) {j : Nat} (hj : j < n) : max (cnt (isL n es) j) (num n es j + 1) = cnt (isL n es) (j + 1) := by
  have h1 := (pL_step hE hj).1
  have h2 := cnt_succ (isL n es) j
  cases hL : isL n es j
  · rw [hL] at h2; simp at h2; omega
  · have hnum : num n es j = cnt (isL n es) j := by unfold num; rw [(isL_ldr hE hj).1 hL]
    rw [hL] at h2; simp at h2; omega
theorem encE_encC (l : List (Nat × Nat)) : (cst l).flatMap encE = l.flatMap De.encC := by
  induction l with
  | nil => rfl
  | cons x l ih =>
    show encE ((x.1 : Int), (x.2 : Int)) ++ (cst l).flatMap encE = De.encC x ++ l.flatMap De.encC
    rw [ih]; rfl
end Dg
namespace Go.Proofs.Ytkjhockppkdakaa
open Go.RowKit Go.Shelf Go.Lib

theorem sCompE_nil (w : World) : Calls Try.prog 64 #[.slice none 0 0] w fun e w' => e = .returned (.slice none 0 0) ∧ w' = w := by
  go_enter Try.func64, Try.ntmps64
  go_wp2
  go_ret
  exact ⟨rfl, rfl⟩

theorem compact_le (l : List (Nat × Nat)) : (compact l).length ≤ l.length := by
  unfold compact compactUpTo
  rw [List.length_map]
  exact Nat.le_trans (List.length_filter_le _ _) (by simp)
theorem ArrE.other {W : World} {g k o : Nat} {l : List (Nat × Nat)} (h : ArrE W g l) (hk : k ≠ g) (u : Value) : ArrE (W.setCell ⟨k, o, none⟩ u) g l := by
  refine ⟨by simpa [World.setCell] using h.1, fun i hi => ?_⟩
  obtain ⟨⟨c1, c2⟩, f1, f2⟩ := h.2 i hi
  rw [World.frozen?_setCell, World.frozen?_setCell, World.cell?_setCell_other (w := W) (v := u) (a := ⟨k, o, none⟩) (b := ⟨g, i * 2, none⟩) (fun e => hk (congrArg Addr.block e)), World.cell?_setCell_other (w := W) (v := u) (a := ⟨k, o, none⟩) (b := ⟨g, i * 2 + 1, none⟩) (fun e => hk (congrArg Addr.block e))]
  exact ⟨⟨c1, c2⟩, f1, f2⟩
theorem ArrE.sees {W : World} {g cap : Nat} {l : List (Nat × Nat)} (h : ArrE W g l) (hc : l.length ≤ cap) (hm : cap ≤ maxLen) : SeesE W (.slice (some ⟨g, 0, none⟩) l.length cap) (Dg.cst l) := by
  refine ⟨some ⟨g, 0, none⟩, cap, by rw [Dg.cst_len], by rw [Dg.cst_len]; exact hc, by unfold maxLen at hm; omega, fun _ => ⟨g, 0, rfl, h.1, fun i hi => ?_⟩⟩
  rw [Dg.cst_len] at hi
  rw [Dg.cst_at, Nat.zero_add]
  exact (h.2 i hi).1

set_option maxHeartbeats 4000000 in
set_option maxRecDepth 100000 in
theorem dCond_ok (n : Nat) (es : List (Nat × Nat)) (v : Value) (w : World) (hE : Dg.Ok n es) (hn : n ≤ 16) (he : es.length ≤ 64) (hv : SeesE w v (Dg.cst es)) :
    Calls Try.prog 33 #[.agg #[.int .i64 n, v]] w fun e w' => ∃ u t, e = .returned (.tuple #[.agg #[.int .i64 (Dg.cnt (Dg.isL n es) n : Nat), u], t, .int .i64 0]) ∧ SeesE w' u (Dg.cst (compact (De.sortL (Dg.cE n es)))) ∧ SeesI w' t (Dg.ci (Dg.nums n es n)) ∧ Below w.heap.size w w' := by
  obtain ⟨i0, hi0, hz0, hz1, hz2⟩ := info_int
  obtain ⟨i1, hi1, hy0, hy1, hy2⟩ := info_edge
  have CK := fun W h => Lib.hid (dChk_any n v (Dg.cst es) W h)
  rw [Dg.ok_chk (by omega) (by omega) hE] at CK
  have CC := fun W h => Lib.hid (dComps_any n es v W hE hn he h)
  have HE := Lib.hid hE
  have BX := fun (W : World) (o : Obj) => (Below.refl W.heap.size W).alloc (Nat.le_refl _) o
  have HV := Lib.hid hv
  obtain ⟨ao, cap, rfl, hcap1, hcap2, hC⟩ := id hv
  simp only [Dg.cst_len] at hcap1 HV CK CC hv ⊢
  have HC := Lib.hid hC
  obtain ⟨P0, L0, z0⟩ := gph_new w n (.slice ao es.length cap) 24
  have R0 := gphW_new (w.alloc (.cells #[.int .i64 n, .slice ao es.length cap] 24)) 0 (.slice none 0 0) 24
  rw [z0] at R0
  have L1 := L0.alloc L0.size (.cells #[.int .i64 0, .slice none 0 0] 24)
  have P1 := P0.step (BX (w.alloc (.cells #[.int .i64 n, .slice ao es.length cap] 24)) (.cells #[.int .i64 0, .slice none 0 0] 24))
  generalize hX : (w.alloc (.cells #[.int .i64 n, .slice ao es.length cap] 24)).alloc (.cells #[.int .i64 0, .slice none 0 0] 24) = X at *
  obtain ⟨p0, p1, p2⟩ := id P1
  have HL := Lib.hid L1
  clear hv hC L0 L1 z0 hE P0
  go_enter Try.func33, Try.ntmps33
  go_wp2_with fail
  refine ((CK _ (HV.out.step HL.out)).out).mono ?_
  rintro e w1 ⟨rfl, hb⟩
  have HB1 := Lib.hid (below_nxt HL.out hb)
  have P2 := P1.step hb
  have R1 := R0.step hb
  obtain ⟨p0', q1, q2⟩ := id P2
  clear hb p1 p2 p0
  go_wp2_with fail
  refine ((CC _ (HV.out.step HB1.out)).out).mono ?_
  rintro e w2 ⟨b, mm, rfl, hbl, hM, hb⟩
  have HB2 := Lib.hid (below_nxt HB1.out hb)
  have P3 := Lib.hid (P2.step hb)
  have R2 := Lib.hid (R1.step hb)
  have HM := Lib.hid hM
  have HLK : Hid (∀ W j, j < n → Below w2.heap.size w2 W → (Instr.lookup 77 (.map (some b)) (.int .i64 (j : Int)) false).run Try.prog W = .ok (.int .i64 (Dg.num n es j : Nat)) W) := Lib.hid (fun W j hj hB => by
    have h := (HM.out.step hB).ok_some (x := j) (by omega) (Dg.nf_end HE.out hj) false
    simpa using h)
  have G0 := gphW_new w2 0 (.slice none 0 0) 24
  have HY := Lib.hid (BX w2 (.cells #[.int .i64 0, .slice none 0 0] 24))
  have k0 := (P3.out.step HY.out).2.1
  clear hb hM q1 q2 P1 P2 R0 R1 CK CC hX
  go_wp2
  go_loopw [8, 24] (fun s8 s24 wr => ∃ j : Nat, j ≤ n ∧ s24 = .int .i64 j ∧ RowI (w2.heap.size + 1) 3 wr s8 (Dg.ci (Dg.nums n es j)) ∧ GphW wr w2.heap.size (Dg.cnt (Dg.isL n es) j : Nat) (.slice none 0 0) ∧ Hid (Below w2.heap.size w2 wr)) (fun _ s24 _ => n - (intOf s24).toNat)
  case atStart => exact ⟨0, Nat.zero_le _, rfl, RowI.nil _ _ _, G0, HY⟩
  case round =>
    clear G0 HY k0
    obtain ⟨j, hj, rfl, hR, hG, HB⟩ := hrel
    have HR := Lib.hid hR
    have HG := Lib.hid hG
    obtain ⟨ra, rc, rfl⟩ := hR.form
    have hwr := hG.1
    rw [Dg.ci_len, Dg.nums_len] at *
    by_cases hjn : j < n
    · have hlk := HLK.out wr j hjn HB.out
      have HMX := Lib.hid (Dg.max_num HE.out hjn)
      have hcn := Dg.cnt_le_n (Dg.isL n es) j
      have hnm := (Dg.num_lt HE.out hjn).2
      have HNS := Lib.hid (Dg.nums_succ n es j)
      have hc2 : Hid (Dg.cnt (Dg.isL n es) (j + 1) = max (Dg.cnt (Dg.isL n es) j) (Dg.num n es j + 1)) := Lib.hid HMX.out.symm
      clear hR hG HMX
      go_wp2_with (at_builtin; refine wpList_append_int rfl _ _ 27 rfl 3 i0 Try.underlying27 hi0 hz0 hz1 hz2 _ _ (Dg.ci (Dg.nums n es j)) [(Dg.num n es j : Int)] rfl rfl (w2.heap.size + 1) (HR.out.step (BX _ _)) (SeesI.one _ _ _) (by rw [Dg.ci_len, Dg.nums_len]; simp; omega) (by simp; omega) ?_; intro a5 p5 w5 hr5 hg5 ho5; have hb5 := RowI.belowOwn (C := w2.heap.size + 1) (HR.out.step (BX _ _)) hg5 (by simp; omega) (Nat.le_refl _); have HG5 := Lib.hid ((HG.out.step (BX _ _)).below (Nat.lt_succ_self _) hb5); have HB5 := Lib.hid ((HB.out.alloc HB.out.size (.cells #[.int .i64 (Dg.num n es j : Int)] 3)).trans (hb5.mono (Nat.le_succ _))); have HR5 := Lib.hid hr5; obtain ⟨-, g1, g2, g3, g4⟩ := HG5.out; have hlk5 := HLK.out w5 j hjn HB5.out; rw [show (Dg.ci (Dg.nums n es j)).length + [(Dg.num n es j : Int)].length = j + 1 by rw [Dg.ci_len, Dg.nums_len]; rfl] at *; clear hr5 hg5 ho5 hb5 hlk)
      have hmx : max (Dg.cnt (Dg.isL n es) j : Int) ((Dg.num n es j : Int) + 1) = (Dg.cnt (Dg.isL n es) (j + 1) : Nat) := by rw [hc2.out]; omega
      exact ⟨⟨j + 1, by omega, by first | rfl | go_num, by rw [HNS.out, Dg.ci_append]; exact ownsRow_setCell_below HR5.out (by simp) _, by rw [hmx]; exact HG5.out.put0 _, Lib.hid (HB5.out.setCell (Nat.le_refl _) _)⟩, by simp [intOf]; omega⟩
    · obtain rfl : n = j := by omega
      obtain ⟨-, g1, g2, g3, g4⟩ := hG
      have k1 := ((P3.out.step HB.out)).2.2
      obtain ⟨wo, hwo⟩ : ∃ wo, wo = wr := ⟨_, rfl⟩
      subst hwo
      have HG0 := Lib.hid (grown_refl wo (some w2.heap.size))
      have HN0 := Lib.hid (RowE.nil wo.heap.size 60 wo)
      have HO := Lib.hid HE.out
      have HBW := Lib.hid (fun W (h : wo.grownBy W (some w2.heap.size)) => HB.out.grown h HB.out.size (fun k hk => by cases hk; exact Nat.le_refl _))
      clear hR
      go_wp2
      go_loopw [45] (fun s45 wr => ∃ i : Nat, i ≤ es.length ∧ s45 = .int .i64 i ∧ (∃ ua uk uc, GphW wr w2.heap.size (Dg.cnt (Dg.isL n es) n : Nat) (.slice ua uk uc) ∧ RowE wo.heap.size 60 wr (.slice ua uk uc) (Dg.cst (Dg.cEi n es i))) ∧ Hid (wo.grownBy wr (some w2.heap.size))) (fun s45 _ => es.length - (intOf s45).toNat)
      case atStart => exact ⟨0, Nat.zero_le _, rfl, ⟨_, _, _, HG.out, HN0.out⟩, HG0⟩
      case round =>
        clear HN0 HG0 g1 g2 g3 g4 k1
        obtain ⟨i, hi, rfl, ⟨ua, uk, uc, hG, hrow⟩, HW⟩ := hrel
        have RW := Lib.hid hrow
        have HG1 := Lib.hid hG
        have HBw := Lib.hid (HBW.out wr HW.out)
        have hwz := HW.out.size
        by_cases hil : i < es.length
        · obtain ⟨g, off, rfl, hg, c1, c2⟩ := HC.out.at (HB2.out.trans (HBw.out.mono HB2.out.size)) (i := i) (by rw [Dg.cst_len]; exact hil)
          rw [Dg.cst_at] at c1 c2
          have hes := Dg.cEi_succ (n := n) hil
          obtain ⟨ho1, ho2⟩ := HE.out _ (Dg.getD_mem (d := (0, 0)) hil)
          have hcl := Dg.cEi_len n es i
          have HES := Lib.hid hes
          generalize es.getD i (0, 0) = y at *
          obtain ⟨PE, LE, zE⟩ := edg_new wr (y.1 : Int) (y.2 : Int) 60
          have HBX := Lib.hid (below_nxt HBw.out LE)
          have hl1 := HLK.out _ y.1 ho1 HBX.out.drew
          have hl2 := HLK.out _ y.2 ho2 HBX.out.drew
          have HLE := Lib.hid LE
          obtain ⟨e0, e1, e2⟩ := id PE
          have hlt1 := Dg.num_lt HE.out ho1
          have hlt2 := Dg.num_lt HE.out ho2
          clear hrow hG hes PE LE
          generalize Dg.num n es y.1 = A at *
          generalize Dg.num n es y.2 = Bn at *
          go_wp2
          have HGX := Lib.hid (HG1.out.step HLE.out)
          obtain ⟨-, b1, b2, b3, b4⟩ := HGX.out
          have hCz := HB.out.size
          go_region
          by_cases hAB : A = Bn
          · subst hAB
            have HF := Lib.hid (HES.out.trans (if_neg (fun h => h rfl)))
            clear HES hl1 hl2 e1 e2 c1 c2
            go_wp2
            exact ⟨⟨i + 1, by omega, by first | rfl | go_num, ⟨_, _, _, HGX.out, by rw [HF.out]; exact RW.out.step HLE.out.drew⟩, Lib.hid (grown_then HW.out (HLE.out.drew.mono hwz))⟩, by simp [intOf]; omega⟩
          · have HF := Lib.hid (HES.out.trans (if_pos hAB))
            have hne : ((A : Int) != (Bn : Int)) = true := by simp only [bne_iff_ne, ne_eq]; omega
            have hcl2 : (Dg.cst (Dg.cEi n es i)).length ≤ 1048576 := by rw [Dg.cst_len]; omega
            have hCo : w2.heap.size < wo.heap.size := hwr
            clear HES hl1 hl2 e1 e2 c1 c2
            go_wp2_with (at_builtin; refine wpList_append_edge rfl _ _ 22 rfl 60 i1 Try.underlying22 hi1 hy0 hy1 hy2 _ (Dg.cst (Dg.cEi n es i)) ((A : Int), (Bn : Int)) (wr.heap.size + 1) rfl rfl wo.heap.size (((RW.out.step HLE.out).step (BX _ _)).step ((Below.refl _ _).drew)) (by simp) (by simp) hcl2 (by simp; omega) ?_; intro a5 p5 w5 hr5 hb5; have HBr := Lib.hid (((HLE.out.mono hwz).trans (((BX _ (.cells #[.int .i64 (A : Int), .int .i64 (Bn : Int)] 60)).drew).mono (by simp; omega))).trans hb5); have HG5 := Lib.hid (HG1.out.below hCo HBr.out); have HR5 := Lib.hid hr5; obtain ⟨-, k1, k2, k3, k4⟩ := HG5.out; clear hr5 hb5)
            exact ⟨⟨i + 1, by omega, by first | rfl | go_num, ⟨_, _, _, HG5.out.put _, by rw [HF.out, show Dg.cst (Dg.cEi n es i ++ [(A, Bn)]) = Dg.cst (Dg.cEi n es i) ++ [((A : Int), (Bn : Int))] by simp [Dg.cst]]; exact ownsRow_setCell_below HR5.out hCo _⟩, Lib.hid (grown_set (grown_then HW.out HBr.out))⟩, by simp [intOf]; omega⟩
        · obtain rfl : i = es.length := by omega
          rw [Dg.cEi_all] at RW
          have hCo : w2.heap.size < wo.heap.size := hwr
          have hcE : (Dg.cE n es).length ≤ 64 := by have := Dg.cEi_len n es es.length; rw [Dg.cEi_all] at this; omega
          have hrow2 : wr.ownsRow wo.heap.size 60 2 (.slice ua uk uc) (Dg.cE n es).length ((Dg.cE n es).flatMap De.encC) := by
            have h := RW.out; unfold RowE at h; rw [Dg.cst_len, Dg.encE_encC] at h; exact h
          have CS := Lib.hid (dSortE_any (Dg.cE n es) (.slice ua uk uc) wr wo.heap.size 60 hrow2 (by omega))
          have hownC : some w2.heap.size ≠ (Value.slice ua uk uc).ownBlock := fun e => by have := (World.ownsRow.lt hrow2 _ e.symm).1; omega
          have hownB := fun k (hk : (Value.slice ua uk uc).ownBlock = some k) => (World.ownsRow.lt hrow2 k hk).1
          have hbz := HBw.out.size
          obtain ⟨b0, b1, b2, b3, b4⟩ := id hG
          clear hrow hrow2 RW HLK HC
          go_wp2_with fail
          refine CS.out.mono ?_
          rintro e w6 ⟨rfl, hg6, hsee⟩
          have G6 : GphW w6 w2.heap.size (Dg.cnt (Dg.isL n es) n : Nat) (.slice ua uk uc) := ⟨Nat.lt_of_lt_of_le b0 hg6.size, hg6.cell b1 hownC, hg6.cell b2 hownC, (grown_frozen hg6 b0 hownC).trans b3, (grown_frozen hg6 b0 hownC).trans b4⟩
          have HW6 := Lib.hid (grown_then HW.out ((Below.refl _ wr).grown hg6 hwz hownB))
          have HG6 := Lib.hid G6
          obtain ⟨d0, d1, d2, d3, d4⟩ := G6
          clear hg6 hownC hownB b1 b2 b3 b4 CS
          rcases hsee with ⟨hv0, hl0⟩ | ⟨g, cap2, hv1, hgB, hcp1, hcp2, hArr⟩
          · simp only [Value.slice.injEq] at hv0
            obtain ⟨rfl, rfl, rfl⟩ := hv0
            have CP := Lib.hid (sCompE_nil w6)
            have HL0 : Hid (Dg.cst (compact (De.sortL (Dg.cE n es))) = []) := Lib.hid (by rw [hl0]; simp [De.sortL, compact, compactUpTo, Dg.cst])
            go_wp2_with fail
            refine CP.out.mono ?_
            rintro e w7 ⟨rfl, rfl⟩
            have G7 := HG6.out
            have HW7 := HW6
            clear d1 d2 d3 d4
            have G8 := G7.put (.slice none 0 0)
            have HW8 := Lib.hid (grown_set (A := w2.heap.size) (i := 1) (v := (.slice none 0 0)) HW7.out)
            have HB8 := Lib.hid (HBW.out _ HW8.out)
            have R8 := R2.out.step HB8.out
            obtain ⟨-, e0, e1, -, -⟩ := (R8.put0 (Dg.cnt (Dg.isL n es) n : Nat)).put (.slice none 0 0)
            have HE0 := Lib.hid (And.intro e0 e1)
            have HRI := Lib.hid (HR.out.kept HW8.out (.inr (fun e => by have := (World.ownsRow.lt HR.out _ e).1; omega)))
            have hsz2 : w.heap.size + 1 < w2.heap.size := R2.out.1
            have HBE := Lib.hid (((HB2.out.trans (HB8.out.mono HB2.out.size)).setCell (p := ⟨w.heap.size + 1, 0, none⟩) (by simp) (.int .i64 (Dg.cnt (Dg.isL n es) n : Nat))).setCell (p := ⟨w.heap.size + 1, 1, none⟩) (by simp) (.slice none 0 0))
            have HIX := Lib.hid (ownsRow_setCell_below (ownsRow_setCell_below HRI.out (a := ⟨w.heap.size + 1, 0, none⟩) (by simp; omega) (.int .i64 (Dg.cnt (Dg.isL n es) n : Nat))) (a := ⟨w.heap.size + 1, 1, none⟩) (by simp; omega) (.slice none 0 0))
            obtain ⟨-, h1, h2, h3, h4⟩ := G7
            obtain ⟨-, a1, a2, a3, a4⟩ := G8
            obtain ⟨-, r1, r2, r3, r4⟩ := R8
            clear e0 e1
            go_wp2
            obtain ⟨e0, e1⟩ := HE0.out
            exact bodyPost_ret (v := .tuple #[.agg #[.int .i64 (Dg.cnt (Dg.isL n es) n : Nat), (.slice none 0 0)], .slice ra n rc, .int .i64 0]) (by simp [results, Try.results33, go_sem, e0, e1]) rfl ⟨_, _, rfl, (by rw [HL0.out]; exact ⟨none, 0, rfl, Nat.le_refl _, by omega, fun h => by simp at h⟩), RowI.sees (by have h := HIX.out; unfold RowI; rw [Dg.ci_len, Dg.nums_len] at *; exact h), HBE.out⟩
          · simp only [Value.slice.injEq] at hv1
            obtain ⟨rfl, rfl, rfl⟩ := hv1
            have CP := Lib.hid (sCompE_any (De.sortL (Dg.cE n es)) g uc w6 hArr (by rw [De.sortL_length]; exact hcp1) hcp2 (by rw [De.sortL_length]; omega))
            rw [De.sortL_length] at CP
            have HCL : Hid ((compact (De.sortL (Dg.cE n es))).length ≤ (Dg.cE n es).length) := Lib.hid (by have h := compact_le (De.sortL (Dg.cE n es)); rwa [De.sortL_length] at h)
            generalize hLe : compact (De.sortL (Dg.cE n es)) = L at *
            have HLe := Lib.hid hLe
            clear hLe
            have hcpL := hcp1
            clear hArr
            go_wp2_with fail
            refine CP.out.mono ?_
            rintro e w7 ⟨rfl, hg7, hA7⟩
            have hgC : w2.heap.size ≠ g := by omega
            have hC7 : some w2.heap.size ≠ some g := by simp; omega
            have G7 : GphW w7 w2.heap.size (Dg.cnt (Dg.isL n es) n : Nat) (.slice (some ⟨g, 0, none⟩) (Dg.cE n es).length uc) := ⟨Nat.lt_of_lt_of_le d0 hg7.size, hg7.cell d1 hC7, hg7.cell d2 hC7, (grown_frozen hg7 d0 hC7).trans d3, (grown_frozen hg7 d0 hC7).trans d4⟩
            have HW7 := Lib.hid (grown_then HW6.out ((Below.refl _ w6).grown hg7 HW6.out.size (fun k hk => by cases hk; exact hgB)))
            have HA7 := Lib.hid hA7
            clear hg7 hA7 d1 d2 d3 d4
            have G8 := G7.put (.slice (some ⟨g, 0, none⟩) L.length uc)
            have HW8 := Lib.hid (grown_set (A := w2.heap.size) (i := 1) (v := (.slice (some ⟨g, 0, none⟩) L.length uc)) HW7.out)
            have HB8 := Lib.hid (HBW.out _ HW8.out)
            have R8 := R2.out.step HB8.out
            obtain ⟨-, e0, e1, -, -⟩ := (R8.put0 (Dg.cnt (Dg.isL n es) n : Nat)).put (.slice (some ⟨g, 0, none⟩) L.length uc)
            have HE0 := Lib.hid (And.intro e0 e1)
            have HRI := Lib.hid (HR.out.kept HW8.out (.inr (fun e => by have := (World.ownsRow.lt HR.out _ e).1; omega)))
            have hsz2 : w.heap.size + 1 < w2.heap.size := R2.out.1
            have HBE := Lib.hid (((HB2.out.trans (HB8.out.mono HB2.out.size)).setCell (p := ⟨w.heap.size + 1, 0, none⟩) (by simp) (.int .i64 (Dg.cnt (Dg.isL n es) n : Nat))).setCell (p := ⟨w.heap.size + 1, 1, none⟩) (by simp) (.slice (some ⟨g, 0, none⟩) L.length uc))
            have HIX := Lib.hid (ownsRow_setCell_below (ownsRow_setCell_below HRI.out (a := ⟨w.heap.size + 1, 0, none⟩) (by simp; omega) (.int .i64 (Dg.cnt (Dg.isL n es) n : Nat))) (a := ⟨w.heap.size + 1, 1, none⟩) (by simp; omega) (.slice (some ⟨g, 0, none⟩) L.length uc))
            obtain ⟨-, h1, h2, h3, h4⟩ := G7
            obtain ⟨-, a1, a2, a3, a4⟩ := G8
            obtain ⟨-, r1, r2, r3, r4⟩ := R8
            clear e0 e1
            go_wp2
            obtain ⟨e0, e1⟩ := HE0.out
            exact bodyPost_ret (v := .tuple #[.agg #[.int .i64 (Dg.cnt (Dg.isL n es) n : Nat), (.slice (some ⟨g, 0, none⟩) L.length uc)], .slice ra n rc, .int .i64 0]) (by simp [results, Try.results33, go_sem, e0, e1]) rfl ⟨_, _, rfl, (by rw [HLe.out]; exact (((HA7.out.other hgC _).other (show w.heap.size + 1 ≠ g by omega) _).other (show w.heap.size + 1 ≠ g by omega) _).sees (Nat.le_trans HCL.out hcpL) hcp2), RowI.sees (by have h := HIX.out; unfold RowI; rw [Dg.ci_len, Dg.nums_len] at *; exact h), HBE.out⟩
end Go.Proofs.Ytkjhockppkdakaa
