/- Parts of the reference. -/
import Derived.Test.YtkjhockppkdakaaDX
import Derived.Test.YtkjhockppkdakaaDM
namespace Dg
/-- The vertices below j that are in one component with v. -/
def pt (n : Nat) (es : List (Nat × Nat)) (v j : Nat) : List Nat := (List.range j).filter (mu n es v)
theorem pt_succ (n : Nat) (es : List (Nat × Nat)) (v j : Nat) : pt n es v (j + 1) = if mu n es v j then pt n es v j ++ [j] else pt n es v j := by
  unfold pt
  rw [fr_succ]
  cases h : mu n es v j <;> simp
theorem pt_len (n : Nat) (es : List (Nat × Nat)) (v j : Nat) : (pt n es v j).length ≤ j := by
  unfold pt; exact Nat.le_trans (List.length_filter_le _ _) (by simp)
theorem mu_dist (n : Nat) (es : List (Nat × Nat)) (v w : Nat) : mu n es v w = (decide (0 ≤ dist n es v w) && decide (0 ≤ dist n es w v)) := by
  rw [dist_dt n es w v]; rfl
/-- The lists of the components whose first vertex is below v. -/
def pR (n : Nat) (es : List (Nat × Nat)) (v : Nat) : List (List Int) := (lds n es v).map (mem n es n)
theorem pR_all (n : Nat) (es : List (Nat × Nat)) : pR n es n = pL n es n := rfl
theorem pR_len (n : Nat) (es : List (Nat × Nat)) (v : Nat) : (pR n es v).length ≤ v := by
  unfold pR lds; rw [List.length_map]; exact Nat.le_trans (List.length_filter_le _ _) (by simp)
section
variable {n : Nat} {es : List (Nat × Nat)} (hE : Ok n es)
include hE
theorem pt_first {v : Nat} (hv : v < n) : 0 < (pt n es v n).length ∧ (pt n es v n).getD 0 0 = ldr n es v := by
  have hm : v ∈ pt n es v n := List.mem_filter.2 ⟨List.mem_range.2 hv, mu_refl hE hv⟩
  have hp := List.length_pos_of_mem hm
  refine ⟨hp, ?_⟩
  obtain ⟨h1, h2, h3⟩ := ldr_spec hE hv
  have hl := ldr_lt hE hv
  have hc : 0 < cnt (mu n es v) n := hp
  obtain ⟨f1', f2', f3'⟩ := fr_of (mu n es v) hc
  have f1 : mu n es v ((pt n es v n).getD 0 0) = true := f1'
  have f2 : (pt n es v n).getD 0 0 < n := f2'
  have f3 : cnt (mu n es v) ((pt n es v n).getD 0 0) = 0 := f3'
  clear f1' f2' f3'
  have hle : ¬ ((pt n es v n).getD 0 0 < ldr n es v) := fun h => by
    have h4 := h3 _ h
    rw [mu_symm hE hv f2 f1] at h4; cases h4
  have hge : ¬ (ldr n es v < (pt n es v n).getD 0 0) := fun h => by
    have h4 : cnt (mu n es v) (ldr n es v + 1) ≤ cnt (mu n es v) ((pt n es v n).getD 0 0) := cnt_mono _ h
    rw [cnt_succ, mu_symm hE hl hv h2] at h4
    rw [f3] at h4
    simp at h4
  omega
theorem pt_mem {v : Nat} (hv : v < n) (h : isL n es v = true) : ci (pt n es v n) = mem n es n v := by
  unfold pt mem
  congr 1
  refine List.filter_congr fun w hw => ?_
  have hwn := List.mem_range.1 hw
  rw [Bool.eq_iff_iff, beq_iff_eq]
  exact ldr_eq hE hv hwn h
theorem pR_new {v : Nat} (hv : v < n) (h : isL n es v = true) : pR n es (v + 1) = pR n es v ++ [ci (pt n es v n)] := by
  rw [pt_mem hE hv h]
  unfold pR lds
  rw [fr_succ, h, if_pos rfl, List.map_append]; rfl
omit hE in
theorem pR_old {v : Nat} (h : isL n es v = false) : pR n es (v + 1) = pR n es v := by
  unfold pR lds
  rw [fr_succ, h]; simp
theorem pt_eq {v : Nat} (hv : v < n) : (((pt n es v n).getD 0 0 : Int) == (v : Int)) = isL n es v := by
  rw [(pt_first hE hv).2, Bool.eq_iff_iff, beq_iff_eq, isL_ldr hE hv]
  omega
end
end Dg
namespace Go.Proofs.Ytkjhockppkdakaa
open Go.RowKit Go.Shelf

set_option maxHeartbeats 4000000 in
set_option maxRecDepth 100000 in
theorem rParts_ok (m : Nat) (es : List (Nat × Nat)) (v : Value) (w : World) (hE : Dg.Ok m es) (hm : m ≤ 256) (hl : es.length ≤ 4096) (hv : SeesE w v (Dg.cst es)) :
    Calls Try.prog 59 #[.agg #[.int .i64 m, v]] w fun e w' => ∃ u, e = .returned u ∧ SeesN w' u (Dg.pL m es m) ∧ Below w.heap.size w w' := by
  obtain ⟨i0, hi0, hz0, hz1, hz2⟩ := info_int
  obtain ⟨j0, hj0, hy0, hy1, hy2⟩ := info_ints
  have BX := fun (W : World) (o : Obj) => (Below.refl W.heap.size W).alloc (Nat.le_refl _) o
  have SG := Lib.hid hv
  obtain ⟨ao, cap, rfl⟩ := hv.slice
  rw [Dg.cst_len] at *
  obtain ⟨P, L0, z0⟩ := gph_new w m (.slice ao es.length cap) 24
  generalize hX : w.alloc (.cells #[.int .i64 m, .slice ao es.length cap] 24) = X at *
  obtain ⟨-, P1, P2⟩ := id P
  have HL := Lib.hid L0
  have SX := Lib.hid (SG.out.step L0)
  have HE := Lib.hid hE
  clear SG hv L0 z0 hE
  go_enter Try.func59, Try.ntmps59
  go_wp2
  go_loopw [3, 4] (fun s3 s4 wr => ∃ j : Nat, j ≤ m ∧ s4 = .int .i64 j ∧ (∃ us, OutI 27 3 X.heap.size wr s3 us (Dg.pR m es j)) ∧ Hid (Below X.heap.size X wr)) (fun _ s4 _ => m - (intOf s4).toNat)
  case atStart => exact ⟨0, Nat.zero_le _, rfl, ⟨[], OutI.nil _ _ _ _⟩, Lib.hid (Below.refl _ _)⟩
  case round =>
    clear P1 P2
    obtain ⟨j, hj, rfl, ⟨us, hO⟩, HB⟩ := hrel
    have HO := Lib.hid hO
    obtain ⟨oa, oc, rfl⟩ := hO.form
    obtain ⟨-, p1, p2⟩ := P.step HB.out
    by_cases hjm : j < m
    · have Pw := P.step HB.out
      have SW := Lib.hid (SX.out.step HB.out)
      obtain ⟨w0, hw0⟩ : ∃ w0, w0 = wr := ⟨_, rfl⟩
      subst hw0
      have HFI := Lib.hid (Dg.pt_first HE.out hjm)
      have HEQ := Lib.hid (Dg.pt_eq HE.out hjm)
      have HNW := Lib.hid (fun h => Dg.pR_new HE.out hjm h)
      have HOL := Lib.hid (fun h => Dg.pR_old (n := m) (es := es) (v := j) h)
      have HLN := Lib.hid (Dg.pR_len m es j)
      have HMU := Lib.hid (fun i => Dg.mu_dist m es j i)
      clear hO
      go_wp2
      go_loopw [5, 6] (fun s5 s6 wr => ∃ i : Nat, i ≤ m ∧ s6 = .int .i64 i ∧ RowI w0.heap.size 3 wr s5 (Dg.ci (Dg.pt m es j i)) ∧ Hid (Below w0.heap.size w0 wr)) (fun _ s6 _ => m - (intOf s6).toNat)
      case atStart => exact ⟨0, Nat.zero_le _, rfl, RowI.nil _ _ _, Lib.hid (Below.refl _ _)⟩
      case round =>
        clear p1 p2
        obtain ⟨i, hi, rfl, hR, HB2⟩ := hrel
        have HR := Lib.hid hR
        obtain ⟨ra, rc, rfl⟩ := hR.form
        have hwz := HB2.out.size
        obtain ⟨-, q1, q2⟩ := Pw.step HB2.out
        by_cases him : i < m
        · have CF1 := Lib.hid (rFar_any m es j _ wr HE.out hjm hm hl (SW.out.step HB2.out))
          have HMi := Lib.hid (HMU.out i)
          have HPS := Lib.hid (Dg.pt_succ m es j i)
          have hpl := Dg.pt_len m es j i
          have hcl : (Dg.ci (Dg.pt m es j i)).length ≤ 256 := by rw [Dg.ci_len]; omega
          clear hR HMU
          go_wp2_with fail
          refine CF1.out.mono ?_
          rintro e w1 ⟨uf, rfl, hs1, hb⟩
          obtain ⟨af, cf, rfl, -, -, hCf⟩ := hs1.opened
          obtain ⟨bf, of, rfl, hbf, df⟩ := hCf.at (Below.refl _ _) (i := i) (by rw [Dg.distL_len]; exact him)
          rw [Dg.distL_at him] at df
          simp only [Dg.distL_len]
          have HB3 := Lib.hid (below_nxt HB2.out hb)
          have hz3 := HB3.out.size
          have HR3 := Lib.hid (HR.out.step hb)
          obtain ⟨-, r1, r2⟩ := Pw.step HB3.out
          have hg1 := Dg.dist_ge (n := m) (E := es) (s := j) (v := i)
          clear hb hs1 hCf q1 q2 CF1 hbf
          generalize Dg.dist m es j i = D1 at *
          by_cases h1 : 0 ≤ D1
          · have d1 : decide ((0 : Int) ≤ D1) = true := by simp; omega
            have CF2 := Lib.hid (rFar_any m es i _ w1 HE.out him hm hl (SW.out.step HB3.out))
            rw [d1, Bool.true_and] at HMi
            go_wp2_with fail
            refine CF2.out.mono ?_
            rintro e w2 ⟨ug, rfl, hs2, hb⟩
            obtain ⟨ag, cg, rfl, -, -, hCg⟩ := hs2.opened
            obtain ⟨bg, og, rfl, hbg, dg⟩ := hCg.at (Below.refl _ _) (i := j) (by rw [Dg.distL_len]; exact hjm)
            rw [Dg.distL_at hjm] at dg
            simp only [Dg.distL_len]
            have HB4 := Lib.hid (below_nxt HB3.out hb)
            have hz4 := HB4.out.size
            have HR4 := Lib.hid (HR3.out.step hb)
            clear hb hs2 hCg r1 r2 CF2 df hbg
            generalize Dg.dist m es i j = D2 at *
            by_cases h2 : 0 ≤ D2
            · have d2 : decide ((0 : Int) ≤ D2) = true := by simp; omega
              rw [d2] at HMi
              have HF : Hid (Dg.pt m es j (i + 1) = Dg.pt m es j i ++ [i]) := Lib.hid (by rw [HPS.out, HMi.out]; rfl)
              clear HMi HPS
              go_wp2_with (at_builtin; refine wpList_append_int rfl _ _ 27 rfl 3 i0 Try.underlying27 hi0 hz0 hz1 hz2 _ _ (Dg.ci (Dg.pt m es j i)) [(i : Int)] rfl rfl w0.heap.size (HR4.out.step (BX _ _)) (SeesI.one _ _ _) (by simp; omega) (by simp; omega) ?_; intro a5 p5 w5 hr5 hg5 ho5; have HB5 := Lib.hid ((HB4.out.alloc hz4 (.cells #[.int .i64 (i : Int)] 3)).trans (RowI.belowOwn (C := w0.heap.size) (HR4.out.step (BX _ _)) hg5 (by simp; omega) (Nat.le_refl _))); have HR5 := Lib.hid hr5; clear hr5 hg5 ho5)
              exact ⟨⟨i + 1, by omega, by first | rfl | go_num, by rw [HF.out, Dg.ci_append]; exact HR5.out, HB5⟩, by simp [intOf]; omega⟩
            · have d2 : decide ((0 : Int) ≤ D2) = false := by simp; omega
              rw [d2] at HMi
              have HF : Hid (Dg.pt m es j (i + 1) = Dg.pt m es j i) := Lib.hid (by rw [HPS.out, HMi.out]; rfl)
              clear HMi HPS
              go_wp2
              exact ⟨⟨i + 1, by omega, by first | rfl | go_num, by rw [HF.out]; exact HR4.out, HB4⟩, by simp [intOf]; omega⟩
          · have d1 : decide ((0 : Int) ≤ D1) = false := by simp; omega
            rw [d1, Bool.false_and] at HMi
            have HF : Hid (Dg.pt m es j (i + 1) = Dg.pt m es j i) := Lib.hid (by rw [HPS.out, HMi.out]; rfl)
            clear HMi HPS
            go_wp2
            exact ⟨⟨i + 1, by omega, by first | rfl | go_num, by rw [HF.out]; exact HR3.out, HB3⟩, by simp [intOf]; omega⟩
        · obtain rfl : i = m := by omega
          clear HMU
          obtain ⟨hp1, -⟩ := HFI.out
          have HBx := Lib.hid (HB.out.trans (HB2.out.mono HB.out.size))
          have HO2 := Lib.hid (HO.out.below HB2.out)
          obtain ⟨b9, o9, he9, -, c9⟩ := (show SeesI wr (.slice ra (Dg.ci (Dg.pt i es j i)).length rc) _ from hR.sees).cellz.at (Below.refl _ _) (i := 0) (by rw [Dg.ci_len]; exact hp1)
          subst he9
          change wr.cell? ⟨b9, o9, none⟩ = _ at c9
          rw [Dg.ci_at] at c9
          have heq := HEQ.out
          rw [Dg.ci_len]
          have hp3 : (0 : Int) < ((Dg.pt i es j i).length : Int) := by omega
          have hpz : (Dg.pt i es j i).length ≤ 256 := Nat.le_trans (Dg.pt_len _ _ _ _) hm
          have HRr := Lib.hid hR
          rw [Dg.ci_len] at HRr
          clear hR HEQ HFI hp1
          cases hL : Dg.isL i es j
          · rw [hL] at heq
            have HF := Lib.hid (HOL.out hL)
            clear hL
            generalize (Dg.pt i es j i).getD 0 0 = f at *
            generalize hpn : (Dg.pt i es j i).length = pn at *
            go_wp2
            exact ⟨⟨j + 1, by omega, by first | rfl | go_num, ⟨us, by rw [HF.out]; exact HO2.out⟩, HBx⟩, by simp [intOf]; omega⟩
          · rw [hL] at heq
            have HF := Lib.hid (HNW.out hL)
            clear hL
            generalize (Dg.pt i es j i).getD 0 0 = f at *
            generalize Dg.ci (Dg.pt i es j i) = part at *
            generalize hpn : (Dg.pt i es j i).length = pn at *
            have hrows : ∀ k, k < (Dg.pR i es j).length → ∀ g, (us.getD k (.slice none 0 0)).ownBlock = some g → g < w0.heap.size := fun k hk g hg => (World.ownsRow.lt (HO.out.row k hk) g hg).2
            have hpart : ∀ g, (Value.slice (some ⟨b9, o9, none⟩) pn rc).ownBlock = some g → w0.heap.size ≤ g := fun g hg => (World.ownsRow.lt HRr.out g hg).1
            have hvb : ∀ g, (Value.slice oa (Dg.pR i es j).length oc).ownBlock = some g → g < w0.heap.size := fun g hg => (World.ownsRow.lt HO.out.out g hg).2
            have HAP := Lib.hid (And.intro hrows (And.intro hpart hvb))
            have hXw : X.heap.size ≤ w0.heap.size := HB.out.size
            clear hrows hpart hvb
            have hua : ∀ k, k < (Dg.pR i es j).length → (us.getD k (.slice none 0 0)).ownBlock = none ∨ (us.getD k (.slice none 0 0)).ownBlock ≠ (Value.slice (some ⟨b9, o9, none⟩) pn rc).ownBlock := fun k hk => by
              cases h : (us.getD k (.slice none 0 0)).ownBlock with
              | none => exact .inl rfl
              | some g =>
                right
                intro e
                have h1 := HAP.out.1 k hk g h
                have h2 := HAP.out.2.1 g e.symm
                omega
            have hua2 : ∀ k, k < (Dg.pR i es j).length → (Value.slice (some ⟨b9, o9, none⟩) pn rc).ownBlock = none ∨ (Value.slice (some ⟨b9, o9, none⟩) pn rc).ownBlock ≠ (us.getD k (.slice none 0 0)).ownBlock := fun k hk => by
              rcases hua k hk with h | h
              · right
                rw [h]
                intro e
                have : (Value.slice (some ⟨b9, o9, none⟩) pn rc).ownBlock = some b9 := rfl
                rw [this] at e; cases e
              · exact .inr h.symm
            have hub : (Value.slice (some ⟨b9, o9, none⟩) pn rc).ownBlock = none ∨ (Value.slice (some ⟨b9, o9, none⟩) pn rc).ownBlock ≠ (Value.slice oa (Dg.pR i es j).length oc).ownBlock := by
              right
              intro e
              have h1 := HAP.out.2.1 b9 rfl
              have h2 := HAP.out.2.2 b9 e.symm
              omega
            have HU := Lib.hid (And.intro hua (And.intro hua2 hub))
            have hXr : X.heap.size ≤ wr.heap.size := HBx.out.size
            have HLn2 : Hid ((Dg.pR i es j).length ≤ 1048576) := Lib.hid (by have := HLN.out; omega)
            clear hua hua2 hub
            go_wp2_with (at_builtin; refine wpList_append_list rfl _ _ 47 rfl 27 3 j0 Try.underlying47 hj0 hy0 hy1 hy2 _ us (Dg.pR i es j) (.slice (some ⟨b9, o9, none⟩) pn rc) part wr.heap.size rfl rfl X.heap.size (HO2.out.below (BX _ _)) (by simp) rfl ((HRr.out.mono hXw).step (BX _ _)) HU.out.1 HU.out.2.2 HU.out.2.1 HLn2.out (by simp; omega) ?_; intro a5 p5 w5 hr5 hg5 hb5; have HB5 := Lib.hid ((HBx.out.alloc hXr (.cells #[.slice (some ⟨b9, o9, none⟩) pn rc] 27)).trans hb5); have HR5 := Lib.hid hr5; clear hr5 hg5 hb5)
            exact ⟨⟨j + 1, by omega, by first | rfl | go_num, ⟨_, by rw [HF.out]; exact HR5.out⟩, HB5⟩, by simp [intOf]; omega⟩
    · obtain rfl : j = m := by omega
      rw [Dg.pR_all] at HO
      have HBx := Lib.hid (HL.out.trans (HB.out.mono HL.out.size))
      clear hO
      go_wp2
      exact bodyPost_ret (v := .slice oa (Dg.pR j es j).length oc) (by simp [results, Try.results59, go_sem]) rfl ⟨_, rfl, by rw [Dg.pR_all]; exact HO.out.sees, HBx.out⟩
end Go.Proofs.Ytkjhockppkdakaa
