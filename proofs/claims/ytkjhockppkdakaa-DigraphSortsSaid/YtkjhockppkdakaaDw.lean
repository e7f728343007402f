/- Components of package digraph. -/
import Derived.Test.YtkjhockppkdakaaDv
namespace Go.Proofs.Ytkjhockppkdakaa
open Go.RowKit Go.Shelf

theorem ob_none (v : Value) : v.ownBlock = none ∨ v.ownBlock ≠ (Value.slice none 0 0).ownBlock := by
  cases v.ownBlock <;> simp [Value.ownBlock]
theorem grown_frozen {w w' : World} {r : Option Nat} (hg : w.grownBy w' r) {A i : Nat} (hA : A < w.heap.size) (hr : some A ≠ r) : w'.frozen? ⟨A, i, none⟩ = w.frozen? ⟨A, i, none⟩ := by
  simp only [World.frozen?]
  rw [hg.block A hA hr]

set_option maxHeartbeats 4000000 in
set_option maxRecDepth 100000 in
theorem dCompo_ok (n : Nat) (es : List (Nat × Nat)) (v : Value) (w : World) (hE : Dg.Ok n es) (hn : n ≤ 16) (he : es.length ≤ 64) (hv : SeesE w v (Dg.cst es)) :
    Calls Try.prog 31 #[.agg #[.int .i64 n, v]] w fun e w' => ∃ u, e = .returned (.tuple #[u, .int .i64 0]) ∧ SeesN w' u (Dg.pL n es n) ∧ Below w.heap.size w w' := by
  obtain ⟨i0, hi0, hz0, hz1, hz2⟩ := info_int
  obtain ⟨i1, hi1, hy0, hy1, hy2⟩ := info_ints
  have CK := fun W h => Lib.hid (dChk_any n v (Dg.cst es) W h)
  rw [Dg.ok_chk (by omega) (by omega) hE] at CK
  have CC := fun W h => Lib.hid (dComps_any n es v W hE hn he h)
  have HE := Lib.hid hE
  have BX := fun (W : World) (o : Obj) => (Below.refl W.heap.size W).alloc (Nat.le_refl _) o
  have HV := Lib.hid hv
  obtain ⟨ao, cap, rfl⟩ := hv.slice
  obtain ⟨P0, L0, z0⟩ := gph_new w n (.slice ao (Dg.cst es).length cap) 24
  generalize hX : w.alloc (.cells #[.int .i64 n, .slice ao (Dg.cst es).length cap] 24) = X at *
  obtain ⟨p0, p1, p2⟩ := id P0
  have HL := Lib.hid L0
  clear hv L0 z0 hE
  go_enter Try.func31, Try.ntmps31
  go_wp2_with fail
  refine ((CK _ (HV.out.step HL.out)).out).mono ?_
  rintro e w1 ⟨rfl, hb⟩
  have HB1 := Lib.hid (below_nxt HL.out hb)
  have P1 := P0.step hb
  obtain ⟨p0', q1, q2⟩ := id P1
  clear hb p1 p2 p0
  go_wp2_with fail
  refine ((CC _ (HV.out.step HB1.out)).out).mono ?_
  rintro e w2 ⟨b, mm, rfl, hbl, hM, hb⟩
  have HB2 := Lib.hid (below_nxt HB1.out hb)
  have P2 := P1.step hb
  obtain ⟨p0'', r1, r2⟩ := id P2
  have HM := Lib.hid hM
  have HLK : Hid (∀ W j, j < n → Below w2.heap.size w2 W → (Instr.lookup 77 (.map (some b)) (.int .i64 (j : Int)) false).run Try.prog W = .ok (.int .i64 (Dg.num n es j : Nat)) W) := Lib.hid (fun W j hj hB => by
    have h := (HM.out.step hB).ok_some (x := j) (by omega) (Dg.nf_end HE.out hj) false
    simpa using h)
  clear hb hM q1 q2 r2 P0 P1 P2 CK CC hX
  go_wp2
  go_loopw [6, 17] (fun s6 s17 wr => ∃ j : Nat, j ≤ n ∧ s17 = .int .i64 j ∧ (∃ us, OutI 27 3 w2.heap.size wr s6 us (Dg.pL n es j)) ∧ Hid (Below w2.heap.size w2 wr)) (fun _ s17 _ => n - (intOf s17).toNat)
  case atStart => exact ⟨0, Nat.zero_le _, rfl, ⟨_, OutI.nil _ _ _ _⟩, Lib.hid (Below.refl _ _)⟩
  case round =>
    obtain ⟨j, hj, rfl, ⟨us, hO⟩, HB⟩ := hrel
    have HO := Lib.hid hO
    obtain ⟨oa, oc, rfl⟩ := hO.form
    rw [Dg.pL_len] at *
    by_cases hjn : j < n
    · obtain ⟨hk1, hk2⟩ := Dg.pL_step HE.out hjn
      have hk3 := Dg.num_lt HE.out hjn
      have hcs := Dg.cnt_succ (Dg.isL n es) j
      have hcn := Dg.cnt_le_n (Dg.isL n es) j
      have hlk := HLK.out wr j hjn HB.out
      have HK2 := Lib.hid hk2
      cases hL : Dg.isL n es j
      · have hcs2 : Dg.cnt (Dg.isL n es) (j + 1) = Dg.cnt (Dg.isL n es) j := by rw [hcs, hL]; rfl
        have hkv : Dg.num n es j < Dg.cnt (Dg.isL n es) j := by rw [hcs2] at hk1; exact hk1
        clear hcs
        have HO2 := Lib.hid (show OutI 27 3 w2.heap.size wr (.slice oa (Dg.cnt (Dg.isL n es) j) oc) us (Dg.pM n es j) by rw [Dg.pM_old hL]; exact HO.out)
        have hne : ((Dg.num n es j : Int) == (Dg.cnt (Dg.isL n es) j : Int)) = false := beq_eq_false_iff_ne.2 (fun e => by have e' := Int.ofNat_inj.1 e; rw [e'] at hkv; exact Nat.lt_irrefl _ hkv)
        clear hO
        go_wp2
        have HBX := HB
        have hkm : Dg.num n es j < (Dg.pM n es j).length := by rw [Dg.pM_len]; exact hk1
        have hrl : ((Dg.pM n es j).getD (Dg.num n es j) []).length ≤ 1048576 := by
          unfold Dg.pM; rw [Dg.mapD _ (show Dg.num n es j < (Dg.lds n es (j + 1)).length from hk1)]; have := Dg.mem_len n es j ((Dg.lds n es (j + 1)).getD (Dg.num n es j) 0); omega
        obtain ⟨A, oc2, hAe, hA1, hA2, hA3, hA4, hAc⟩ := HO2.out.block (by omega)
        simp only [Value.slice.injEq] at hAe
        obtain ⟨rfl, hml, rfl⟩ := hAe
        rw [← hml] at hA3
        clear hml
        obtain ⟨k1, k2⟩ := hAc _ hkm
        have HR := Lib.hid (HO2.out.row _ hkm)
        have hoff := HO2.out.off _ hkm
        have hl1 := HLK.out wr.drew j hjn HBX.out.drew
        have hl2 : ∀ o : Obj, _ := fun o => HLK.out (wr.alloc o).drew j hjn ((HBX.out.alloc HBX.out.size o).drew)
        have k3 : ∀ o, (wr.alloc o).cell? ⟨A, Dg.num n es j, none⟩ = some (us.getD (Dg.num n es j) (.slice none 0 0)) := fun o => ((BX wr o).cell (p := ⟨A, Dg.num n es j, none⟩) hA2).trans k1
        have hne : some A ≠ (us.getD (Dg.num n es j) (.slice none 0 0)).ownBlock := fun e => by
          rcases hoff with h | h
          · rw [h] at e; cases e
          · exact h (by rw [← e]; rfl)
        have hXs := HBX.out.size
        clear hAc hoff hk2 hL hk3 hlk
        generalize hu : us.getD (Dg.num n es j) (.slice none 0 0) = u at *
        generalize hl : (Dg.pM n es j).getD (Dg.num n es j) [] = l at *
        have HU := Lib.hid hu
        clear hu hl
        go_region_law (refine step_append_int rfl (.tmp 38) (.tmp 40) 27 rfl 3 i0 Try.underlying27 hi0 hz0 hz1 hz2 u l (j : Int) wr.heap.size (by simp [Act.eval]) (by simp [Act.eval]) w2.heap.size (((HR.out.step (BX _ _)).step ((Below.refl _ _).drew))) (by simp) hrl (by simp; omega) ?_; intro a5 p5 w5 hr5 hg5 ho5; have hb5 := RowI.belowOwn (C := w2.heap.size) ((HR.out.step (BX _ _)).step ((Below.refl _ _).drew)) hg5 (by simp; omega) (Nat.le_refl _); have HB5 := Lib.hid (((HBX.out.alloc HBX.out.size (.cells #[.int .i64 (j : Int)] 3)).drew).trans hb5); have HGX := Lib.hid (grown_trans (grown_below ((BX wr (.cells #[.int .i64 (j : Int)] 3)).drew)) hg5); have q1 := HGX.out.cell k1 hne; have q2 := (grown_frozen HGX.out hA2 hne).trans k2; have hl3 := HLK.out w5 j hjn HB5.out; have HR5 := Lib.hid hr5; have HO5 := Lib.hid ho5; clear hb5 hr5 hg5 ho5)
        all_goals
          go_wp2
          exact ⟨⟨j + 1, by omega, rfl, ⟨_, by rw [HK2.out]; exact HO2.out.put hkm (by rw [HU.out]; exact HGX.out) HR5.out (by rw [HU.out]; exact HO5.out.imp id (fun ⟨g, h1, h2⟩ => ⟨g, h1, Nat.le_trans (by simp) h2⟩))⟩, Lib.hid (HB5.out.setCell hA1 _)⟩, by simp [intOf]; omega⟩
      · have hcs2 : Dg.cnt (Dg.isL n es) (j + 1) = Dg.cnt (Dg.isL n es) j + 1 := by rw [hcs, hL]; rfl
        have hnum : Dg.num n es j = Dg.cnt (Dg.isL n es) j := by unfold Dg.num; rw [(Dg.isL_ldr HE.out hjn).1 hL]
        have heq : ((Dg.num n es j : Int) == (Dg.cnt (Dg.isL n es) j : Int)) = true := by rw [hnum]; simp
        have HPM := Lib.hid (Dg.pM_new HE.out hjn hL)
        have HCS2 := Lib.hid hcs2
        clear hO hcs hnum hcs2
        go_wp2_with (at_builtin; refine wpList_append_list rfl _ _ 47 rfl 27 3 i1 Try.underlying47 hi1 hy0 hy1 hy2 _ us (Dg.pL n es j) (.slice none 0 0) [] wr.heap.size rfl rfl w2.heap.size (HO.out.below (BX _ _)) (by simp) rfl (RowI.nil _ _ _) (fun _ _ => ob_none _) (.inl rfl) (fun _ _ => .inl rfl) (by rw [Dg.pL_len]; omega) (by have := HB.out.size; simp; omega) ?_; intro a3 p3 w3 hO3 hg3 hb3; rw [show (Dg.pL n es j).length + 1 = Dg.cnt (Dg.isL n es) (j + 1) by rw [Dg.pL_len, HCS2.out]] at *; have HBX := Lib.hid ((HB.out.alloc HB.out.size (.cells #[.slice none 0 0] 27)).trans hb3); have HO2 : Hid (OutI 27 3 w2.heap.size w3 (.slice a3 (Dg.cnt (Dg.isL n es) (j + 1)) p3) (us ++ [Value.slice none 0 0]) (Dg.pM n es j)) := Lib.hid (by rw [HPM.out]; exact hO3); clear hO3 hg3 hb3)
        have hkv := hk1
        clear heq
        have hkm : Dg.num n es j < (Dg.pM n es j).length := by rw [Dg.pM_len]; exact hk1
        have hrl : ((Dg.pM n es j).getD (Dg.num n es j) []).length ≤ 1048576 := by
          unfold Dg.pM; rw [Dg.mapD _ (show Dg.num n es j < (Dg.lds n es (j + 1)).length from hk1)]; have := Dg.mem_len n es j ((Dg.lds n es (j + 1)).getD (Dg.num n es j) 0); omega
        obtain ⟨A, oc2, hAe, hA1, hA2, hA3, hA4, hAc⟩ := HO2.out.block (by omega)
        simp only [Value.slice.injEq] at hAe
        obtain ⟨rfl, hml, rfl⟩ := hAe
        rw [← hml] at hA3
        clear hml
        obtain ⟨k1, k2⟩ := hAc _ hkm
        have HR := Lib.hid (HO2.out.row _ hkm)
        have hoff := HO2.out.off _ hkm
        have hl1 := HLK.out w3.drew j hjn HBX.out.drew
        have hl2 : ∀ o : Obj, _ := fun o => HLK.out (w3.alloc o).drew j hjn ((HBX.out.alloc HBX.out.size o).drew)
        have k3 : ∀ o, (w3.alloc o).cell? ⟨A, Dg.num n es j, none⟩ = some ((us ++ [Value.slice none 0 0]).getD (Dg.num n es j) (.slice none 0 0)) := fun o => ((BX w3 o).cell (p := ⟨A, Dg.num n es j, none⟩) hA2).trans k1
        have hne : some A ≠ ((us ++ [Value.slice none 0 0]).getD (Dg.num n es j) (.slice none 0 0)).ownBlock := fun e => by
          rcases hoff with h | h
          · rw [h] at e; cases e
          · exact h (by rw [← e]; rfl)
        have hXs := HBX.out.size
        clear hAc hoff hk2 hL hk3 hlk
        generalize hu : (us ++ [Value.slice none 0 0]).getD (Dg.num n es j) (.slice none 0 0) = u at *
        generalize hl : (Dg.pM n es j).getD (Dg.num n es j) [] = l at *
        have HU := Lib.hid hu
        clear hu hl
        go_region_law (refine step_append_int rfl (.tmp 38) (.tmp 40) 27 rfl 3 i0 Try.underlying27 hi0 hz0 hz1 hz2 u l (j : Int) w3.heap.size (by simp [Act.eval]) (by simp [Act.eval]) w2.heap.size (((HR.out.step (BX _ _)).step ((Below.refl _ _).drew))) (by simp) hrl (by simp; omega) ?_; intro a5 p5 w5 hr5 hg5 ho5; have hb5 := RowI.belowOwn (C := w2.heap.size) ((HR.out.step (BX _ _)).step ((Below.refl _ _).drew)) hg5 (by simp; omega) (Nat.le_refl _); have HB5 := Lib.hid (((HBX.out.alloc HBX.out.size (.cells #[.int .i64 (j : Int)] 3)).drew).trans hb5); have HGX := Lib.hid (grown_trans (grown_below ((BX w3 (.cells #[.int .i64 (j : Int)] 3)).drew)) hg5); have q1 := HGX.out.cell k1 hne; have q2 := (grown_frozen HGX.out hA2 hne).trans k2; have hl3 := HLK.out w5 j hjn HB5.out; have HR5 := Lib.hid hr5; have HO5 := Lib.hid ho5; clear hb5 hr5 hg5 ho5)
        all_goals
          go_wp2
          exact ⟨⟨j + 1, by omega, rfl, ⟨_, by rw [HK2.out]; exact HO2.out.put hkm (by rw [HU.out]; exact HGX.out) HR5.out (by rw [HU.out]; exact HO5.out.imp id (fun ⟨g, h1, h2⟩ => ⟨g, h1, Nat.le_trans (by simp) h2⟩))⟩, Lib.hid (HB5.out.setCell hA1 _)⟩, by simp [intOf]; omega⟩
    · obtain rfl : n = j := by omega
      have HS := Lib.hid hO.sees
      clear hO
      go_wp2
      exact bodyPost_ret (v := .tuple #[.slice oa (Dg.cnt (Dg.isL n es) n) oc, .int .i64 0]) (by simp [results, Try.results31, go_sem]) rfl ⟨_, rfl, HS.out, HB2.out.trans (HB.out.mono HB2.out.size)⟩
end Go.Proofs.Ytkjhockppkdakaa
