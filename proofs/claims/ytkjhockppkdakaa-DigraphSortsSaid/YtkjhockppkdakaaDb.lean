/- The errors of graphs: Check of package digraph and of its reference; checkVertices, given. -/
import Derived.Test.YtkjhockppkdakaaDa
namespace Dg
theorem all_no {n : Int} {E : List (Int × Int)} {i : Nat} (hi : i < E.length) (h : (vtx n (E.getD i (0, 0)).1 && vtx n (E.getD i (0, 0)).2) = false) : allE n E = false := by
  unfold allE
  rw [List.all_eq_false]
  exact ⟨_, getD_mem hi, by rw [h]; simp⟩
theorem all_yes {n : Int} {E : List (Int × Int)} (h : ∀ j, j < E.length → (vtx n (E.getD j (0, 0)).1 && vtx n (E.getD j (0, 0)).2) = true) : allE n E = true := by
  unfold allE
  rw [List.all_eq_true]
  intro e he
  obtain ⟨i, hi, rfl⟩ := mem_getD (0, 0) he
  exact h i hi
end Dg
namespace Go.Proofs.Ytkjhockppkdakaa
open Go.RowKit

set_option maxHeartbeats 4000000 in
set_option maxRecDepth 100000 in
theorem dChk_any (n : Int) (v : Value) (E : List (Int × Int)) (w : World) (hs : SeesE w v E) :
    Calls Try.prog 17 #[.agg #[.int .i64 n, v]] w fun e w' => e = .returned (.int .i64 (Dg.chk n E)) ∧ Below w.heap.size w w' := by
  obtain ⟨ao, cap, rfl, hcap1, hcap2, hC⟩ := hs
  obtain ⟨P0, L0, -⟩ := gph_new w n (.slice ao E.length cap) 24
  have HL := Lib.hid L0
  have HC := Lib.hid hC
  clear L0 hC
  by_cases h1 : n < 0 ∨ 256 < n
  · have hr : Dg.chk n E = 2 := if_pos h1
    rw [hr]
    clear hr
    rcases h1 with h1 | h1
    all_goals
      have h1' : ¬ (0 ≤ n ∧ n ≤ 256) := by omega
      go_enter Try.func17, Try.ntmps17
      go_wp2
      all_goals first | omega | (go_ret; exact ⟨rfl, HL.out⟩)
  · by_cases h2 : 4096 < E.length
    · have hr : Dg.chk n E = 5 := (if_neg h1).trans (if_pos h2)
      rw [hr]
      clear hr
      obtain ⟨h3, h4⟩ : 0 ≤ n ∧ n ≤ 256 := by omega
      clear h1
      go_enter Try.func17, Try.ntmps17
      go_wp2
      all_goals first | omega | (go_ret; exact ⟨rfl, HL.out⟩)
    · have hr : Dg.chk n E = if Dg.allE n E then 0 else 2 := (if_neg h1).trans (if_neg h2)
      obtain ⟨h3, h4⟩ : 0 ≤ n ∧ n ≤ 256 := by omega
      have CV := fun x W => Lib.hid (dIsV_any n x ao E.length cap W)
      have HN := Lib.hid (fun i (hi : i < E.length) h => show Dg.chk n E = 2 by rw [hr, Dg.all_no (n := n) hi h]; rfl)
      have HY := Lib.hid (fun h => show Dg.chk n E = 0 by rw [hr, Dg.all_yes (n := n) (E := E) h]; rfl)
      clear hr
      generalize Dg.chk n E = R at *
      clear h1
      go_enter Try.func17, Try.ntmps17
      go_wp2
      go_loopw [20] (fun s20 wr => ∃ i : Nat, i ≤ E.length ∧ s20 = .int .i64 i ∧ GphI wr w.heap.size n (.slice ao E.length cap) ∧ Hid (∀ j, j < i → (Dg.vtx n (E.getD j (0, 0)).1 && Dg.vtx n (E.getD j (0, 0)).2) = true) ∧ Hid (Below w.heap.size w wr)) (fun s20 _ => E.length - (intOf s20).toNat)
      case atStart => exact ⟨0, Nat.zero_le _, rfl, P0, Lib.hid (fun j h => by omega), HL⟩
      case round =>
        clear P0
        obtain ⟨i, hi, rfl, hG, HJ, HB⟩ := hrel
        by_cases hil : i < E.length
        · obtain ⟨g, off, rfl, hg, c1, c2⟩ := HC.out.at HB.out hil
          have HNi := Lib.hid (HN.out i hil)
          have HJ2 : Hid ((Dg.vtx n (E.getD i (0, 0)).1 && Dg.vtx n (E.getD i (0, 0)).2) = true → ∀ j, j < i + 1 → (Dg.vtx n (E.getD j (0, 0)).1 && Dg.vtx n (E.getD j (0, 0)).2) = true) := Lib.hid (fun h j hj => by
            by_cases e : j = i
            · rw [e]; exact h
            · exact HJ.out j (by omega))
          have C1 := CV (E.getD i (0, 0)).1
          have C2 := CV (E.getD i (0, 0)).2
          clear HN HY CV HJ
          generalize E.getD i (0, 0) = y at *
          generalize Dg.vtx n y.1 = b1 at *
          generalize Dg.vtx n y.2 = b2 at *
          obtain ⟨PE, LE, -⟩ := edg_new wr y.1 y.2 60
          have G2 := hG.step LE
          have HB2 := Lib.hid (below_nxt HB.out LE)
          generalize hX : wr.alloc (.cells #[.int .i64 y.1, .int .i64 y.2] 60) = X at *
          obtain ⟨e0, e1, e2⟩ := id PE
          obtain ⟨g0, g1, g2⟩ := id G2
          clear hG LE
          cases b1 <;> cases b2
          all_goals
            go_wp2_with fail
            refine ((C1 _).out).mono ?_
            rintro e w1 ⟨rfl, hb⟩
            have HB3 := Lib.hid (below_nxt HB2.out hb)
            have G3 := G2.step hb
            have E3 := PE.step hb
            obtain ⟨e0', f1, f2⟩ := id E3
            obtain ⟨g0', k1, k2⟩ := id G3
            clear hb e1 e2 g1 g2 C1
          · go_wp2
            exact bodyPost_ret (v := .int .i64 2) (by simp [results, Try.results17, go_sem]) rfl ⟨by rw [HNi.out rfl], HB3.out⟩
          · go_wp2
            exact bodyPost_ret (v := .int .i64 2) (by simp [results, Try.results17, go_sem]) rfl ⟨by rw [HNi.out rfl], HB3.out⟩
          · go_wp2_with (go_at_call 48; (with_reducible refine ((C2 _).out).mono ?_); rintro e w2 ⟨rfl, hb⟩; have HB4 := Lib.hid (below_nxt HB3.out hb); clear hb)
            exact bodyPost_ret (v := .int .i64 2) (by simp [results, Try.results17, go_sem]) rfl ⟨by rw [HNi.out rfl], HB4.out⟩
          · go_wp2_with (go_at_call 48; (with_reducible refine ((C2 _).out).mono ?_); rintro e w2 ⟨rfl, hb⟩; have HB4 := Lib.hid (below_nxt HB3.out hb); have G4 := Lib.hid (G3.step hb); clear hb)
            exact ⟨⟨i + 1, by omega, rfl, G4.out, Lib.hid (HJ2.out rfl), HB4⟩, by simp [intOf]; omega⟩
        · obtain rfl : i = E.length := by omega
          have HR := Lib.hid (HY.out HJ.out)
          clear HY HN HJ CV
          go_wp2
          exact bodyPost_ret (v := .int .i64 0) (by simp [results, Try.results17, go_sem]) rfl ⟨by rw [HR.out], HB.out⟩

/-! The reference. -/
set_option linter.unusedSimpArgs false in
set_option maxHeartbeats 4000000 in
set_option maxRecDepth 100000 in
theorem rChk_any (n : Int) (v : Value) (E : List (Int × Int)) (w : World) (hs : SeesE w v E) :
    Calls Try.prog 18 #[.agg #[.int .i64 n, v]] w fun e w' => e = .returned (.int .i64 (Dg.chk n E)) ∧ Below w.heap.size w w' := by
  obtain ⟨ao, cap, rfl, hcap1, hcap2, hC⟩ := hs
  obtain ⟨P0, L0, -⟩ := gph_new w n (.slice ao E.length cap) 24
  have HL := Lib.hid L0
  have HC := Lib.hid hC
  clear L0 hC
  by_cases h1 : n < 0 ∨ 256 < n
  · have hr : Dg.chk n E = 2 := if_pos h1
    rw [hr]
    clear hr
    rcases h1 with h1 | h1
    all_goals
      have h1' : ¬ (0 ≤ n ∧ n ≤ 256) := by omega
      go_enter Try.func18, Try.ntmps18
      go_wp2
      all_goals first | omega | (go_ret; exact ⟨rfl, HL.out⟩)
  · by_cases h2 : 4096 < E.length
    · have hr : Dg.chk n E = 5 := (if_neg h1).trans (if_pos h2)
      rw [hr]
      clear hr
      obtain ⟨h3, h4⟩ : 0 ≤ n ∧ n ≤ 256 := by omega
      clear h1
      go_enter Try.func18, Try.ntmps18
      go_wp2
      all_goals first | omega | (go_ret; exact ⟨rfl, HL.out⟩)
    · have hr : Dg.chk n E = if Dg.allE n E then 0 else 2 := (if_neg h1).trans (if_neg h2)
      obtain ⟨h3, h4⟩ : 0 ≤ n ∧ n ≤ 256 := by omega
      have CV := fun x W => Lib.hid (rIsV_any n x ao E.length cap W)
      have HN := Lib.hid (fun i (hi : i < E.length) h => show Dg.chk n E = 2 by rw [hr, Dg.all_no (n := n) hi h]; rfl)
      have HY := Lib.hid (fun h => show Dg.chk n E = 0 by rw [hr, Dg.all_yes (n := n) (E := E) h]; rfl)
      clear hr
      generalize Dg.chk n E = R at *
      clear h1
      go_enter Try.func18, Try.ntmps18
      go_wp2
      go_loopw [3] (fun s3 wr => ∃ i : Nat, i ≤ E.length ∧ s3 = .int .i64 i ∧ GphI wr w.heap.size n (.slice ao E.length cap) ∧ Hid (∀ j, j < i → (Dg.vtx n (E.getD j (0, 0)).1 && Dg.vtx n (E.getD j (0, 0)).2) = true) ∧ Hid (Below w.heap.size w wr)) (fun s3 _ => E.length - (intOf s3).toNat)
      case atStart => exact ⟨0, Nat.zero_le _, rfl, P0, Lib.hid (fun j h => by omega), HL⟩
      case round =>
        clear P0
        obtain ⟨i, hi, rfl, hG, HJ, HB⟩ := hrel
        by_cases hil : i < E.length
        · obtain ⟨g, off, rfl, hg, c1, c2⟩ := HC.out.at HB.out hil
          have hgr := Nat.lt_of_lt_of_le hg HB.out.size
          have HNi := Lib.hid (HN.out i hil)
          have HJ2 : Hid ((Dg.vtx n (E.getD i (0, 0)).1 && Dg.vtx n (E.getD i (0, 0)).2) = true → ∀ j, j < i + 1 → (Dg.vtx n (E.getD j (0, 0)).1 && Dg.vtx n (E.getD j (0, 0)).2) = true) := Lib.hid (fun h j hj => by
            by_cases e : j = i
            · rw [e]; exact h
            · exact HJ.out j (by omega))
          have C1 := CV (E.getD i (0, 0)).1
          have C2 := CV (E.getD i (0, 0)).2
          clear HN HY CV HJ
          generalize E.getD i (0, 0) = y at *
          generalize Dg.vtx n y.1 = b1 at *
          generalize Dg.vtx n y.2 = b2 at *
          have HD := Lib.hid ((Below.refl wr.heap.size wr).drew)
          have HG := Lib.hid hG
          cases b1 <;> cases b2
          all_goals
            obtain ⟨g0, g1, g2⟩ := HG.out
            go_wp2
            replace g1 := (HD.out.cell (p := ⟨w.heap.size, 0, none⟩) g0).trans g1
            replace g2 := (HD.out.cell (p := ⟨w.heap.size, 1, none⟩) g0).trans g2
            replace c1 := (HD.out.cell (p := ⟨g, off + i * 2, none⟩) hgr).trans c1
            replace c2 := (HD.out.cell (p := ⟨g, off + i * 2 + 1, none⟩) hgr).trans c2
            clear hG
          · refine wp_region_noPanic ?_
            refine wp_region_held_drew (S := (fun V => ((V.cell? ⟨w.heap.size, 0, none⟩ = some (.int .i64 n) ∧ V.cell? ⟨w.heap.size, 1, none⟩ = some (.slice (some ⟨g, off, none⟩) E.length cap)) ∧ (V.cell? ⟨g, off + i * 2, none⟩ = some (.int .i64 y.1) ∧ V.cell? ⟨g, off + i * 2 + 1, none⟩ = some (.int .i64 y.2))) ∧ Hid (Below wr.heap.size wr V))) (by kernel_rfl) ?_ (fun hHeld => ?_)
            · exact ⟨⟨⟨g1, g2⟩, ⟨c1, c2⟩⟩, HD⟩
            refine wpAnyH_take (i := 0) (v := ?_) rfl (by kernel_rfl) (by kernel_rfl) (by kernel_rfl) (fun _ _ _ h => h) (Or.inl ⟨by rfl, ?_⟩) (by assumption) ?_
            rotate_left 1
            · (intro w hSw; (try dsimp only at hSw); go_simp; (try with_reducible rfl))
            try simp only [Act.put, List.getElem_toArray, List.getElem_cons_succ, List.getElem_cons_zero, List.setIfInBounds_toArray, List.set_cons_zero, List.set_cons_succ]
            refine wpAnyH_take (i := 1) (v := ?_) rfl (by kernel_rfl) (by kernel_rfl) (by kernel_rfl) (fun _ _ _ h => h) (Or.inl ⟨by rfl, ?_⟩) (by assumption) ?_
            rotate_left 1
            · (intro w hSw; (try dsimp only at hSw); go_simp; (try with_reducible rfl))
            try simp only [Act.put, List.getElem_toArray, List.getElem_cons_succ, List.getElem_cons_zero, List.setIfInBounds_toArray, List.set_cons_zero, List.set_cons_succ]
            refine wpAnyH_take (i := 2) (v := ?_) rfl (by kernel_rfl) (by kernel_rfl) (by kernel_rfl) (fun _ _ _ h => h) (Or.inl ⟨by rfl, ?_⟩) (by assumption) ?_
            rotate_left 1
            · (intro w hSw; (try dsimp only at hSw); go_simp; (try with_reducible rfl))
            try simp only [Act.put, List.getElem_toArray, List.getElem_cons_succ, List.getElem_cons_zero, List.setIfInBounds_toArray, List.set_cons_zero, List.set_cons_succ]
            refine wpAnyH_take (i := 3) (v := ?_) rfl (by kernel_rfl) (by kernel_rfl) (by kernel_rfl) (fun _ _ _ h => h) (Or.inl ⟨by rfl, ?_⟩) (by assumption) ?_
            rotate_left 1
            · (intro w hSw; (try dsimp only at hSw); go_simp; (try with_reducible rfl))
            try simp only [Act.put, List.getElem_toArray, List.getElem_cons_succ, List.getElem_cons_zero, List.setIfInBounds_toArray, List.set_cons_zero, List.set_cons_succ]
            refine wpAnyH_take (i := 4) (v := ?_) rfl (by kernel_rfl) (by kernel_rfl) (by kernel_rfl) (fun _ _ _ h => h) (Or.inl ⟨by rfl, ?_⟩) (by assumption) ?_
            rotate_left 1
            · (intro w hSw; (try dsimp only at hSw); go_simp; (try with_reducible rfl))
            try simp only [Act.put, List.getElem_toArray, List.getElem_cons_succ, List.getElem_cons_zero, List.setIfInBounds_toArray, List.set_cons_zero, List.set_cons_succ]
            refine wpAnyH_take (i := 5) (v := ?_) rfl (by kernel_rfl) (by kernel_rfl) (by kernel_rfl) (fun _ _ _ h => h) (Or.inl ⟨by rfl, ?_⟩) (by assumption) ?_
            rotate_left 1
            · (intro w hSw; (try dsimp only at hSw); go_simp; (try with_reducible rfl))
            try simp only [Act.put, List.getElem_toArray, List.getElem_cons_succ, List.getElem_cons_zero, List.setIfInBounds_toArray, List.set_cons_zero, List.set_cons_succ]
            refine wpAnyH_take (i := 6) (v := ?_) rfl (by kernel_rfl) (by kernel_rfl) (by kernel_rfl) (fun _ _ _ h => h) (Or.inl ⟨by rfl, ?_⟩) (by assumption) ?_
            rotate_left 1
            · (intro w hSw; (try dsimp only at hSw); go_simp; (try with_reducible rfl))
            try simp only [Act.put, List.getElem_toArray, List.getElem_cons_succ, List.getElem_cons_zero, List.setIfInBounds_toArray, List.set_cons_zero, List.set_cons_succ]
            refine wpAnyH_ready (rs := [7]) (by kernel_rfl) (by simp) ?_
            refine AllReadyH.cons rfl (fun K hK => ?_) AllReadyH.nil
            go_simp
            (go_at_call 49; (with_reducible refine ((C1 _).out).mono ?_); rintro e w3 ⟨rfl, hw⟩; have hb := below_nxt HD.out hw; have HB3 := Lib.hid hb; have g31 := (hb.cell (p := ⟨w.heap.size, 0, none⟩) g0).trans g1; have g32 := (hb.cell (p := ⟨w.heap.size, 1, none⟩) g0).trans g2; have c31 := (hb.cell (p := ⟨g, off + i * 2, none⟩) hgr).trans c1; have c32 := (hb.cell (p := ⟨g, off + i * 2 + 1, none⟩) hgr).trans c2; clear hb hw)
            go_simp
            refine hK.out _ _ ?_ (fun hHeld => ?_)
            · exact ⟨⟨⟨g31, g32⟩, ⟨c31, c32⟩⟩, HB3⟩
            clear hK K
            try simp only [Act.put, List.getElem_toArray, List.getElem_cons_succ, List.getElem_cons_zero, List.setIfInBounds_toArray, List.set_cons_zero, List.set_cons_succ]
            refine wpAnyH_take (i := 8) (v := ?_) rfl (by kernel_rfl) (by kernel_rfl) (by kernel_rfl) (fun _ _ _ h => h) (Or.inl ⟨by rfl, ?_⟩) (by assumption) ?_
            rotate_left 1
            · (intro w hSw; (try dsimp only at hSw); go_simp; (try with_reducible rfl))
            try simp only [Act.put, List.getElem_toArray, List.getElem_cons_succ, List.getElem_cons_zero, List.setIfInBounds_toArray, List.set_cons_zero, List.set_cons_succ]
            refine wpAnyH_take (i := 9) (v := ?_) rfl (by kernel_rfl) (by kernel_rfl) (by kernel_rfl) (fun _ _ _ h => h) (Or.inl ⟨by rfl, ?_⟩) (by assumption) ?_
            rotate_left 1
            · (intro w hSw; (try dsimp only at hSw); go_simp; (try with_reducible rfl))
            try simp only [Act.put, List.getElem_toArray, List.getElem_cons_succ, List.getElem_cons_zero, List.setIfInBounds_toArray, List.set_cons_zero, List.set_cons_succ]
            refine wpAnyH_take (i := 10) (v := undef) rfl (by kernel_rfl) (by kernel_rfl) (by kernel_rfl) (fun _ _ _ h => h) (Or.inr ⟨by rfl, rfl⟩) (by assumption) ?_
            try simp only [Act.put, List.getElem_toArray, List.getElem_cons_succ, List.getElem_cons_zero, List.setIfInBounds_toArray, List.set_cons_zero, List.set_cons_succ]
            refine wpAnyH_take (i := 11) (v := undef) rfl (by kernel_rfl) (by kernel_rfl) (by kernel_rfl) (fun _ _ _ h => h) (Or.inr ⟨by rfl, rfl⟩) (by assumption) ?_
            try simp only [Act.put, List.getElem_toArray, List.getElem_cons_succ, List.getElem_cons_zero, List.setIfInBounds_toArray, List.set_cons_zero, List.set_cons_succ]
            refine wpAnyH_take (i := 12) (v := undef) rfl (by kernel_rfl) (by kernel_rfl) (by kernel_rfl) (fun _ _ _ h => h) (Or.inr ⟨by rfl, rfl⟩) (by assumption) ?_
            try simp only [Act.put, List.getElem_toArray, List.getElem_cons_succ, List.getElem_cons_zero, List.setIfInBounds_toArray, List.set_cons_zero, List.set_cons_succ]
            refine wpAnyH_take (i := 13) (v := undef) rfl (by kernel_rfl) (by kernel_rfl) (by kernel_rfl) (fun _ _ _ h => h) (Or.inr ⟨by rfl, rfl⟩) (by assumption) ?_
            try simp only [Act.put, List.getElem_toArray, List.getElem_cons_succ, List.getElem_cons_zero, List.setIfInBounds_toArray, List.set_cons_zero, List.set_cons_succ]
            refine wpAnyH_take (i := 14) (v := undef) rfl (by kernel_rfl) (by kernel_rfl) (by kernel_rfl) (fun _ _ _ h => h) (Or.inr ⟨by rfl, rfl⟩) (by assumption) ?_
            try simp only [Act.put, List.getElem_toArray, List.getElem_cons_succ, List.getElem_cons_zero, List.setIfInBounds_toArray, List.set_cons_zero, List.set_cons_succ]
            refine wpAnyH_take (i := 15) (v := undef) rfl (by kernel_rfl) (by kernel_rfl) (by kernel_rfl) (fun _ _ _ h => h) (Or.inr ⟨by rfl, rfl⟩) (by assumption) ?_
            try simp only [Act.put, List.getElem_toArray, List.getElem_cons_succ, List.getElem_cons_zero, List.setIfInBounds_toArray, List.set_cons_zero, List.set_cons_succ]
            refine wpAnyH_take (i := 16) (v := undef) rfl (by kernel_rfl) (by kernel_rfl) (by kernel_rfl) (fun _ _ _ h => h) (Or.inr ⟨by rfl, rfl⟩) (by assumption) ?_
            try simp only [Act.put, List.getElem_toArray, List.getElem_cons_succ, List.getElem_cons_zero, List.setIfInBounds_toArray, List.set_cons_zero, List.set_cons_succ]
            refine wpAnyH_take (i := 17) (v := undef) rfl (by kernel_rfl) (by kernel_rfl) (by kernel_rfl) (fun _ _ _ h => h) (Or.inr ⟨by rfl, rfl⟩) (by assumption) ?_
            try simp only [Act.put, List.getElem_toArray, List.getElem_cons_succ, List.getElem_cons_zero, List.setIfInBounds_toArray, List.set_cons_zero, List.set_cons_succ]
            refine wpAnyH_take (i := 18) (v := undef) rfl (by kernel_rfl) (by kernel_rfl) (by kernel_rfl) (fun _ _ _ h => h) (Or.inr ⟨by rfl, rfl⟩) (by assumption) ?_
            try simp only [Act.put, List.getElem_toArray, List.getElem_cons_succ, List.getElem_cons_zero, List.setIfInBounds_toArray, List.set_cons_zero, List.set_cons_succ]
            refine wpAnyH_take (i := 19) (v := ?_) rfl (by kernel_rfl) (by kernel_rfl) (by kernel_rfl) (fun _ _ _ h => h) (Or.inl ⟨by rfl, ?_⟩) (by assumption) ?_
            rotate_left 1
            · (intro w hSw; (try dsimp only at hSw); go_simp; (try with_reducible rfl))
            try simp only [Act.put, List.getElem_toArray, List.getElem_cons_succ, List.getElem_cons_zero, List.setIfInBounds_toArray, List.set_cons_zero, List.set_cons_succ]
            refine wpAnyH_done (by kernel_rfl) ?_ _
            refine NoPanic.normal ?_
            go_wp2
            exact bodyPost_ret (v := .int .i64 2) (by simp [results, Try.results18, go_sem]) rfl ⟨by rw [HNi.out rfl], below_nxt HB.out HB3.out⟩
          · refine wp_region_noPanic ?_
            refine wp_region_held_drew (S := (fun V => ((V.cell? ⟨w.heap.size, 0, none⟩ = some (.int .i64 n) ∧ V.cell? ⟨w.heap.size, 1, none⟩ = some (.slice (some ⟨g, off, none⟩) E.length cap)) ∧ (V.cell? ⟨g, off + i * 2, none⟩ = some (.int .i64 y.1) ∧ V.cell? ⟨g, off + i * 2 + 1, none⟩ = some (.int .i64 y.2))) ∧ Hid (Below wr.heap.size wr V))) (by kernel_rfl) ?_ (fun hHeld => ?_)
            · exact ⟨⟨⟨g1, g2⟩, ⟨c1, c2⟩⟩, HD⟩
            refine wpAnyH_take (i := 0) (v := ?_) rfl (by kernel_rfl) (by kernel_rfl) (by kernel_rfl) (fun _ _ _ h => h) (Or.inl ⟨by rfl, ?_⟩) (by assumption) ?_
            rotate_left 1
            · (intro w hSw; (try dsimp only at hSw); go_simp; (try with_reducible rfl))
            try simp only [Act.put, List.getElem_toArray, List.getElem_cons_succ, List.getElem_cons_zero, List.setIfInBounds_toArray, List.set_cons_zero, List.set_cons_succ]
            refine wpAnyH_take (i := 1) (v := ?_) rfl (by kernel_rfl) (by kernel_rfl) (by kernel_rfl) (fun _ _ _ h => h) (Or.inl ⟨by rfl, ?_⟩) (by assumption) ?_
            rotate_left 1
            · (intro w hSw; (try dsimp only at hSw); go_simp; (try with_reducible rfl))
            try simp only [Act.put, List.getElem_toArray, List.getElem_cons_succ, List.getElem_cons_zero, List.setIfInBounds_toArray, List.set_cons_zero, List.set_cons_succ]
            refine wpAnyH_take (i := 2) (v := ?_) rfl (by kernel_rfl) (by kernel_rfl) (by kernel_rfl) (fun _ _ _ h => h) (Or.inl ⟨by rfl, ?_⟩) (by assumption) ?_
            rotate_left 1
            · (intro w hSw; (try dsimp only at hSw); go_simp; (try with_reducible rfl))
            try simp only [Act.put, List.getElem_toArray, List.getElem_cons_succ, List.getElem_cons_zero, List.setIfInBounds_toArray, List.set_cons_zero, List.set_cons_succ]
            refine wpAnyH_take (i := 3) (v := ?_) rfl (by kernel_rfl) (by kernel_rfl) (by kernel_rfl) (fun _ _ _ h => h) (Or.inl ⟨by rfl, ?_⟩) (by assumption) ?_
            rotate_left 1
            · (intro w hSw; (try dsimp only at hSw); go_simp; (try with_reducible rfl))
            try simp only [Act.put, List.getElem_toArray, List.getElem_cons_succ, List.getElem_cons_zero, List.setIfInBounds_toArray, List.set_cons_zero, List.set_cons_succ]
            refine wpAnyH_take (i := 4) (v := ?_) rfl (by kernel_rfl) (by kernel_rfl) (by kernel_rfl) (fun _ _ _ h => h) (Or.inl ⟨by rfl, ?_⟩) (by assumption) ?_
            rotate_left 1
            · (intro w hSw; (try dsimp only at hSw); go_simp; (try with_reducible rfl))
            try simp only [Act.put, List.getElem_toArray, List.getElem_cons_succ, List.getElem_cons_zero, List.setIfInBounds_toArray, List.set_cons_zero, List.set_cons_succ]
            refine wpAnyH_take (i := 5) (v := ?_) rfl (by kernel_rfl) (by kernel_rfl) (by kernel_rfl) (fun _ _ _ h => h) (Or.inl ⟨by rfl, ?_⟩) (by assumption) ?_
            rotate_left 1
            · (intro w hSw; (try dsimp only at hSw); go_simp; (try with_reducible rfl))
            try simp only [Act.put, List.getElem_toArray, List.getElem_cons_succ, List.getElem_cons_zero, List.setIfInBounds_toArray, List.set_cons_zero, List.set_cons_succ]
            refine wpAnyH_take (i := 6) (v := ?_) rfl (by kernel_rfl) (by kernel_rfl) (by kernel_rfl) (fun _ _ _ h => h) (Or.inl ⟨by rfl, ?_⟩) (by assumption) ?_
            rotate_left 1
            · (intro w hSw; (try dsimp only at hSw); go_simp; (try with_reducible rfl))
            try simp only [Act.put, List.getElem_toArray, List.getElem_cons_succ, List.getElem_cons_zero, List.setIfInBounds_toArray, List.set_cons_zero, List.set_cons_succ]
            refine wpAnyH_ready (rs := [7]) (by kernel_rfl) (by simp) ?_
            refine AllReadyH.cons rfl (fun K hK => ?_) AllReadyH.nil
            go_simp
            (go_at_call 49; (with_reducible refine ((C1 _).out).mono ?_); rintro e w3 ⟨rfl, hw⟩; have hb := below_nxt HD.out hw; have HB3 := Lib.hid hb; have g31 := (hb.cell (p := ⟨w.heap.size, 0, none⟩) g0).trans g1; have g32 := (hb.cell (p := ⟨w.heap.size, 1, none⟩) g0).trans g2; have c31 := (hb.cell (p := ⟨g, off + i * 2, none⟩) hgr).trans c1; have c32 := (hb.cell (p := ⟨g, off + i * 2 + 1, none⟩) hgr).trans c2; clear hb hw)
            go_simp
            refine hK.out _ _ ?_ (fun hHeld => ?_)
            · exact ⟨⟨⟨g31, g32⟩, ⟨c31, c32⟩⟩, HB3⟩
            clear hK K
            try simp only [Act.put, List.getElem_toArray, List.getElem_cons_succ, List.getElem_cons_zero, List.setIfInBounds_toArray, List.set_cons_zero, List.set_cons_succ]
            refine wpAnyH_take (i := 8) (v := ?_) rfl (by kernel_rfl) (by kernel_rfl) (by kernel_rfl) (fun _ _ _ h => h) (Or.inl ⟨by rfl, ?_⟩) (by assumption) ?_
            rotate_left 1
            · (intro w hSw; (try dsimp only at hSw); go_simp; (try with_reducible rfl))
            try simp only [Act.put, List.getElem_toArray, List.getElem_cons_succ, List.getElem_cons_zero, List.setIfInBounds_toArray, List.set_cons_zero, List.set_cons_succ]
            refine wpAnyH_take (i := 9) (v := ?_) rfl (by kernel_rfl) (by kernel_rfl) (by kernel_rfl) (fun _ _ _ h => h) (Or.inl ⟨by rfl, ?_⟩) (by assumption) ?_
            rotate_left 1
            · (intro w hSw; (try dsimp only at hSw); go_simp; (try with_reducible rfl))
            try simp only [Act.put, List.getElem_toArray, List.getElem_cons_succ, List.getElem_cons_zero, List.setIfInBounds_toArray, List.set_cons_zero, List.set_cons_succ]
            refine wpAnyH_take (i := 10) (v := undef) rfl (by kernel_rfl) (by kernel_rfl) (by kernel_rfl) (fun _ _ _ h => h) (Or.inr ⟨by rfl, rfl⟩) (by assumption) ?_
            try simp only [Act.put, List.getElem_toArray, List.getElem_cons_succ, List.getElem_cons_zero, List.setIfInBounds_toArray, List.set_cons_zero, List.set_cons_succ]
            refine wpAnyH_take (i := 11) (v := undef) rfl (by kernel_rfl) (by kernel_rfl) (by kernel_rfl) (fun _ _ _ h => h) (Or.inr ⟨by rfl, rfl⟩) (by assumption) ?_
            try simp only [Act.put, List.getElem_toArray, List.getElem_cons_succ, List.getElem_cons_zero, List.setIfInBounds_toArray, List.set_cons_zero, List.set_cons_succ]
            refine wpAnyH_take (i := 12) (v := undef) rfl (by kernel_rfl) (by kernel_rfl) (by kernel_rfl) (fun _ _ _ h => h) (Or.inr ⟨by rfl, rfl⟩) (by assumption) ?_
            try simp only [Act.put, List.getElem_toArray, List.getElem_cons_succ, List.getElem_cons_zero, List.setIfInBounds_toArray, List.set_cons_zero, List.set_cons_succ]
            refine wpAnyH_take (i := 13) (v := undef) rfl (by kernel_rfl) (by kernel_rfl) (by kernel_rfl) (fun _ _ _ h => h) (Or.inr ⟨by rfl, rfl⟩) (by assumption) ?_
            try simp only [Act.put, List.getElem_toArray, List.getElem_cons_succ, List.getElem_cons_zero, List.setIfInBounds_toArray, List.set_cons_zero, List.set_cons_succ]
            refine wpAnyH_take (i := 14) (v := undef) rfl (by kernel_rfl) (by kernel_rfl) (by kernel_rfl) (fun _ _ _ h => h) (Or.inr ⟨by rfl, rfl⟩) (by assumption) ?_
            try simp only [Act.put, List.getElem_toArray, List.getElem_cons_succ, List.getElem_cons_zero, List.setIfInBounds_toArray, List.set_cons_zero, List.set_cons_succ]
            refine wpAnyH_take (i := 15) (v := undef) rfl (by kernel_rfl) (by kernel_rfl) (by kernel_rfl) (fun _ _ _ h => h) (Or.inr ⟨by rfl, rfl⟩) (by assumption) ?_
            try simp only [Act.put, List.getElem_toArray, List.getElem_cons_succ, List.getElem_cons_zero, List.setIfInBounds_toArray, List.set_cons_zero, List.set_cons_succ]
            refine wpAnyH_take (i := 16) (v := undef) rfl (by kernel_rfl) (by kernel_rfl) (by kernel_rfl) (fun _ _ _ h => h) (Or.inr ⟨by rfl, rfl⟩) (by assumption) ?_
            try simp only [Act.put, List.getElem_toArray, List.getElem_cons_succ, List.getElem_cons_zero, List.setIfInBounds_toArray, List.set_cons_zero, List.set_cons_succ]
            refine wpAnyH_take (i := 17) (v := undef) rfl (by kernel_rfl) (by kernel_rfl) (by kernel_rfl) (fun _ _ _ h => h) (Or.inr ⟨by rfl, rfl⟩) (by assumption) ?_
            try simp only [Act.put, List.getElem_toArray, List.getElem_cons_succ, List.getElem_cons_zero, List.setIfInBounds_toArray, List.set_cons_zero, List.set_cons_succ]
            refine wpAnyH_take (i := 18) (v := undef) rfl (by kernel_rfl) (by kernel_rfl) (by kernel_rfl) (fun _ _ _ h => h) (Or.inr ⟨by rfl, rfl⟩) (by assumption) ?_
            try simp only [Act.put, List.getElem_toArray, List.getElem_cons_succ, List.getElem_cons_zero, List.setIfInBounds_toArray, List.set_cons_zero, List.set_cons_succ]
            refine wpAnyH_take (i := 19) (v := ?_) rfl (by kernel_rfl) (by kernel_rfl) (by kernel_rfl) (fun _ _ _ h => h) (Or.inl ⟨by rfl, ?_⟩) (by assumption) ?_
            rotate_left 1
            · (intro w hSw; (try dsimp only at hSw); go_simp; (try with_reducible rfl))
            try simp only [Act.put, List.getElem_toArray, List.getElem_cons_succ, List.getElem_cons_zero, List.setIfInBounds_toArray, List.set_cons_zero, List.set_cons_succ]
            refine wpAnyH_done (by kernel_rfl) ?_ _
            refine NoPanic.normal ?_
            go_wp2
            exact bodyPost_ret (v := .int .i64 2) (by simp [results, Try.results18, go_sem]) rfl ⟨by rw [HNi.out rfl], below_nxt HB.out HB3.out⟩
          · refine wp_region_noPanic ?_
            refine wp_region_held_drew (S := (fun V => ((V.cell? ⟨w.heap.size, 0, none⟩ = some (.int .i64 n) ∧ V.cell? ⟨w.heap.size, 1, none⟩ = some (.slice (some ⟨g, off, none⟩) E.length cap)) ∧ (V.cell? ⟨g, off + i * 2, none⟩ = some (.int .i64 y.1) ∧ V.cell? ⟨g, off + i * 2 + 1, none⟩ = some (.int .i64 y.2))) ∧ Hid (Below wr.heap.size wr V))) (by kernel_rfl) ?_ (fun hHeld => ?_)
            · exact ⟨⟨⟨g1, g2⟩, ⟨c1, c2⟩⟩, HD⟩
            refine wpAnyH_take (i := 0) (v := ?_) rfl (by kernel_rfl) (by kernel_rfl) (by kernel_rfl) (fun _ _ _ h => h) (Or.inl ⟨by rfl, ?_⟩) (by assumption) ?_
            rotate_left 1
            · (intro w hSw; (try dsimp only at hSw); go_simp; (try with_reducible rfl))
            try simp only [Act.put, List.getElem_toArray, List.getElem_cons_succ, List.getElem_cons_zero, List.setIfInBounds_toArray, List.set_cons_zero, List.set_cons_succ]
            refine wpAnyH_take (i := 1) (v := ?_) rfl (by kernel_rfl) (by kernel_rfl) (by kernel_rfl) (fun _ _ _ h => h) (Or.inl ⟨by rfl, ?_⟩) (by assumption) ?_
            rotate_left 1
            · (intro w hSw; (try dsimp only at hSw); go_simp; (try with_reducible rfl))
            try simp only [Act.put, List.getElem_toArray, List.getElem_cons_succ, List.getElem_cons_zero, List.setIfInBounds_toArray, List.set_cons_zero, List.set_cons_succ]
            refine wpAnyH_take (i := 2) (v := ?_) rfl (by kernel_rfl) (by kernel_rfl) (by kernel_rfl) (fun _ _ _ h => h) (Or.inl ⟨by rfl, ?_⟩) (by assumption) ?_
            rotate_left 1
            · (intro w hSw; (try dsimp only at hSw); go_simp; (try with_reducible rfl))
            try simp only [Act.put, List.getElem_toArray, List.getElem_cons_succ, List.getElem_cons_zero, List.setIfInBounds_toArray, List.set_cons_zero, List.set_cons_succ]
            refine wpAnyH_take (i := 3) (v := ?_) rfl (by kernel_rfl) (by kernel_rfl) (by kernel_rfl) (fun _ _ _ h => h) (Or.inl ⟨by rfl, ?_⟩) (by assumption) ?_
            rotate_left 1
            · (intro w hSw; (try dsimp only at hSw); go_simp; (try with_reducible rfl))
            try simp only [Act.put, List.getElem_toArray, List.getElem_cons_succ, List.getElem_cons_zero, List.setIfInBounds_toArray, List.set_cons_zero, List.set_cons_succ]
            refine wpAnyH_take (i := 4) (v := ?_) rfl (by kernel_rfl) (by kernel_rfl) (by kernel_rfl) (fun _ _ _ h => h) (Or.inl ⟨by rfl, ?_⟩) (by assumption) ?_
            rotate_left 1
            · (intro w hSw; (try dsimp only at hSw); go_simp; (try with_reducible rfl))
            try simp only [Act.put, List.getElem_toArray, List.getElem_cons_succ, List.getElem_cons_zero, List.setIfInBounds_toArray, List.set_cons_zero, List.set_cons_succ]
            refine wpAnyH_take (i := 5) (v := ?_) rfl (by kernel_rfl) (by kernel_rfl) (by kernel_rfl) (fun _ _ _ h => h) (Or.inl ⟨by rfl, ?_⟩) (by assumption) ?_
            rotate_left 1
            · (intro w hSw; (try dsimp only at hSw); go_simp; (try with_reducible rfl))
            try simp only [Act.put, List.getElem_toArray, List.getElem_cons_succ, List.getElem_cons_zero, List.setIfInBounds_toArray, List.set_cons_zero, List.set_cons_succ]
            refine wpAnyH_take (i := 6) (v := ?_) rfl (by kernel_rfl) (by kernel_rfl) (by kernel_rfl) (fun _ _ _ h => h) (Or.inl ⟨by rfl, ?_⟩) (by assumption) ?_
            rotate_left 1
            · (intro w hSw; (try dsimp only at hSw); go_simp; (try with_reducible rfl))
            try simp only [Act.put, List.getElem_toArray, List.getElem_cons_succ, List.getElem_cons_zero, List.setIfInBounds_toArray, List.set_cons_zero, List.set_cons_succ]
            refine wpAnyH_ready (rs := [7]) (by kernel_rfl) (by simp) ?_
            refine AllReadyH.cons rfl (fun K hK => ?_) AllReadyH.nil
            go_simp
            (go_at_call 49; (with_reducible refine ((C1 _).out).mono ?_); rintro e w3 ⟨rfl, hw⟩; have hb := below_nxt HD.out hw; have HB3 := Lib.hid hb; have g31 := (hb.cell (p := ⟨w.heap.size, 0, none⟩) g0).trans g1; have g32 := (hb.cell (p := ⟨w.heap.size, 1, none⟩) g0).trans g2; have c31 := (hb.cell (p := ⟨g, off + i * 2, none⟩) hgr).trans c1; have c32 := (hb.cell (p := ⟨g, off + i * 2 + 1, none⟩) hgr).trans c2; clear hb hw)
            go_simp
            refine hK.out _ _ ?_ (fun hHeld => ?_)
            · exact ⟨⟨⟨g31, g32⟩, ⟨c31, c32⟩⟩, HB3⟩
            clear hK K
            try simp only [Act.put, List.getElem_toArray, List.getElem_cons_succ, List.getElem_cons_zero, List.setIfInBounds_toArray, List.set_cons_zero, List.set_cons_succ]
            refine wpAnyH_take (i := 8) (v := ?_) rfl (by kernel_rfl) (by kernel_rfl) (by kernel_rfl) (fun _ _ _ h => h) (Or.inl ⟨by rfl, ?_⟩) (by assumption) ?_
            rotate_left 1
            · (intro w hSw; (try dsimp only at hSw); go_simp; (try with_reducible rfl))
            try simp only [Act.put, List.getElem_toArray, List.getElem_cons_succ, List.getElem_cons_zero, List.setIfInBounds_toArray, List.set_cons_zero, List.set_cons_succ]
            refine wpAnyH_take (i := 9) (v := ?_) rfl (by kernel_rfl) (by kernel_rfl) (by kernel_rfl) (fun _ _ _ h => h) (Or.inl ⟨by rfl, ?_⟩) (by assumption) ?_
            rotate_left 1
            · (intro w hSw; (try dsimp only at hSw); go_simp; (try with_reducible rfl))
            try simp only [Act.put, List.getElem_toArray, List.getElem_cons_succ, List.getElem_cons_zero, List.setIfInBounds_toArray, List.set_cons_zero, List.set_cons_succ]
            refine wpAnyH_take (i := 10) (v := ?_) rfl (by kernel_rfl) (by kernel_rfl) (by kernel_rfl) (fun _ _ _ h => h) (Or.inl ⟨by rfl, ?_⟩) (by assumption) ?_
            rotate_left 1
            · (intro w hSw; (try dsimp only at hSw); go_simp; (try with_reducible rfl))
            try simp only [Act.put, List.getElem_toArray, List.getElem_cons_succ, List.getElem_cons_zero, List.setIfInBounds_toArray, List.set_cons_zero, List.set_cons_succ]
            refine wpAnyH_take (i := 11) (v := ?_) rfl (by kernel_rfl) (by kernel_rfl) (by kernel_rfl) (fun _ _ _ h => h) (Or.inl ⟨by rfl, ?_⟩) (by assumption) ?_
            rotate_left 1
            · (intro w hSw; (try dsimp only at hSw); go_simp; (try with_reducible rfl))
            try simp only [Act.put, List.getElem_toArray, List.getElem_cons_succ, List.getElem_cons_zero, List.setIfInBounds_toArray, List.set_cons_zero, List.set_cons_succ]
            refine wpAnyH_take (i := 12) (v := ?_) rfl (by kernel_rfl) (by kernel_rfl) (by kernel_rfl) (fun _ _ _ h => h) (Or.inl ⟨by rfl, ?_⟩) (by assumption) ?_
            rotate_left 1
            · (intro w hSw; (try dsimp only at hSw); go_simp; (try with_reducible rfl))
            try simp only [Act.put, List.getElem_toArray, List.getElem_cons_succ, List.getElem_cons_zero, List.setIfInBounds_toArray, List.set_cons_zero, List.set_cons_succ]
            refine wpAnyH_take (i := 13) (v := ?_) rfl (by kernel_rfl) (by kernel_rfl) (by kernel_rfl) (fun _ _ _ h => h) (Or.inl ⟨by rfl, ?_⟩) (by assumption) ?_
            rotate_left 1
            · (intro w hSw; (try dsimp only at hSw); go_simp; (try with_reducible rfl))
            try simp only [Act.put, List.getElem_toArray, List.getElem_cons_succ, List.getElem_cons_zero, List.setIfInBounds_toArray, List.set_cons_zero, List.set_cons_succ]
            refine wpAnyH_take (i := 14) (v := ?_) rfl (by kernel_rfl) (by kernel_rfl) (by kernel_rfl) (fun _ _ _ h => h) (Or.inl ⟨by rfl, ?_⟩) (by assumption) ?_
            rotate_left 1
            · (intro w hSw; (try dsimp only at hSw); go_simp; (try with_reducible rfl))
            try simp only [Act.put, List.getElem_toArray, List.getElem_cons_succ, List.getElem_cons_zero, List.setIfInBounds_toArray, List.set_cons_zero, List.set_cons_succ]
            refine wpAnyH_take (i := 15) (v := ?_) rfl (by kernel_rfl) (by kernel_rfl) (by kernel_rfl) (fun _ _ _ h => h) (Or.inl ⟨by rfl, ?_⟩) (by assumption) ?_
            rotate_left 1
            · (intro w hSw; (try dsimp only at hSw); go_simp; (try with_reducible rfl))
            try simp only [Act.put, List.getElem_toArray, List.getElem_cons_succ, List.getElem_cons_zero, List.setIfInBounds_toArray, List.set_cons_zero, List.set_cons_succ]
            refine wpAnyH_take (i := 16) (v := ?_) rfl (by kernel_rfl) (by kernel_rfl) (by kernel_rfl) (fun _ _ _ h => h) (Or.inl ⟨by rfl, ?_⟩) (by assumption) ?_
            rotate_left 1
            · (intro w hSw; (try dsimp only at hSw); go_simp; (try with_reducible rfl))
            try simp only [Act.put, List.getElem_toArray, List.getElem_cons_succ, List.getElem_cons_zero, List.setIfInBounds_toArray, List.set_cons_zero, List.set_cons_succ]
            refine wpAnyH_ready (rs := [17]) (by kernel_rfl) (by simp) ?_
            refine AllReadyH.cons rfl (fun K hK => ?_) AllReadyH.nil
            go_simp
            (go_at_call 49; (with_reducible refine ((C2 _).out).mono ?_); rintro e w4 ⟨rfl, hw⟩; have hb := below_nxt HB3.out hw; have HB4 := Lib.hid hb; have g41 := (hb.cell (p := ⟨w.heap.size, 0, none⟩) g0).trans g1; have g42 := (hb.cell (p := ⟨w.heap.size, 1, none⟩) g0).trans g2; have c41 := (hb.cell (p := ⟨g, off + i * 2, none⟩) hgr).trans c1; have c42 := (hb.cell (p := ⟨g, off + i * 2 + 1, none⟩) hgr).trans c2; clear hb hw)
            go_simp
            refine hK.out _ _ ?_ (fun hHeld => ?_)
            · exact ⟨⟨⟨g41, g42⟩, ⟨c41, c42⟩⟩, HB4⟩
            clear hK K
            try simp only [Act.put, List.getElem_toArray, List.getElem_cons_succ, List.getElem_cons_zero, List.setIfInBounds_toArray, List.set_cons_zero, List.set_cons_succ]
            refine wpAnyH_take (i := 18) (v := ?_) rfl (by kernel_rfl) (by kernel_rfl) (by kernel_rfl) (fun _ _ _ h => h) (Or.inl ⟨by rfl, ?_⟩) (by assumption) ?_
            rotate_left 1
            · (intro w hSw; (try dsimp only at hSw); go_simp; (try with_reducible rfl))
            try simp only [Act.put, List.getElem_toArray, List.getElem_cons_succ, List.getElem_cons_zero, List.setIfInBounds_toArray, List.set_cons_zero, List.set_cons_succ]
            refine wpAnyH_take (i := 19) (v := ?_) rfl (by kernel_rfl) (by kernel_rfl) (by kernel_rfl) (fun _ _ _ h => h) (Or.inl ⟨by rfl, ?_⟩) (by assumption) ?_
            rotate_left 1
            · (intro w hSw; (try dsimp only at hSw); go_simp; (try with_reducible rfl))
            try simp only [Act.put, List.getElem_toArray, List.getElem_cons_succ, List.getElem_cons_zero, List.setIfInBounds_toArray, List.set_cons_zero, List.set_cons_succ]
            refine wpAnyH_done (by kernel_rfl) ?_ _
            refine NoPanic.normal ?_
            go_wp2
            exact bodyPost_ret (v := .int .i64 2) (by simp [results, Try.results18, go_sem]) rfl ⟨by rw [HNi.out rfl], below_nxt HB.out HB4.out⟩
          · refine wp_region_noPanic ?_
            refine wp_region_held_drew (S := (fun V => ((V.cell? ⟨w.heap.size, 0, none⟩ = some (.int .i64 n) ∧ V.cell? ⟨w.heap.size, 1, none⟩ = some (.slice (some ⟨g, off, none⟩) E.length cap)) ∧ (V.cell? ⟨g, off + i * 2, none⟩ = some (.int .i64 y.1) ∧ V.cell? ⟨g, off + i * 2 + 1, none⟩ = some (.int .i64 y.2))) ∧ Hid (Below wr.heap.size wr V))) (by kernel_rfl) ?_ (fun hHeld => ?_)
            · exact ⟨⟨⟨g1, g2⟩, ⟨c1, c2⟩⟩, HD⟩
            refine wpAnyH_take (i := 0) (v := ?_) rfl (by kernel_rfl) (by kernel_rfl) (by kernel_rfl) (fun _ _ _ h => h) (Or.inl ⟨by rfl, ?_⟩) (by assumption) ?_
            rotate_left 1
            · (intro w hSw; (try dsimp only at hSw); go_simp; (try with_reducible rfl))
            try simp only [Act.put, List.getElem_toArray, List.getElem_cons_succ, List.getElem_cons_zero, List.setIfInBounds_toArray, List.set_cons_zero, List.set_cons_succ]
            refine wpAnyH_take (i := 1) (v := ?_) rfl (by kernel_rfl) (by kernel_rfl) (by kernel_rfl) (fun _ _ _ h => h) (Or.inl ⟨by rfl, ?_⟩) (by assumption) ?_
            rotate_left 1
            · (intro w hSw; (try dsimp only at hSw); go_simp; (try with_reducible rfl))
            try simp only [Act.put, List.getElem_toArray, List.getElem_cons_succ, List.getElem_cons_zero, List.setIfInBounds_toArray, List.set_cons_zero, List.set_cons_succ]
            refine wpAnyH_take (i := 2) (v := ?_) rfl (by kernel_rfl) (by kernel_rfl) (by kernel_rfl) (fun _ _ _ h => h) (Or.inl ⟨by rfl, ?_⟩) (by assumption) ?_
            rotate_left 1
            · (intro w hSw; (try dsimp only at hSw); go_simp; (try with_reducible rfl))
            try simp only [Act.put, List.getElem_toArray, List.getElem_cons_succ, List.getElem_cons_zero, List.setIfInBounds_toArray, List.set_cons_zero, List.set_cons_succ]
            refine wpAnyH_take (i := 3) (v := ?_) rfl (by kernel_rfl) (by kernel_rfl) (by kernel_rfl) (fun _ _ _ h => h) (Or.inl ⟨by rfl, ?_⟩) (by assumption) ?_
            rotate_left 1
            · (intro w hSw; (try dsimp only at hSw); go_simp; (try with_reducible rfl))
            try simp only [Act.put, List.getElem_toArray, List.getElem_cons_succ, List.getElem_cons_zero, List.setIfInBounds_toArray, List.set_cons_zero, List.set_cons_succ]
            refine wpAnyH_take (i := 4) (v := ?_) rfl (by kernel_rfl) (by kernel_rfl) (by kernel_rfl) (fun _ _ _ h => h) (Or.inl ⟨by rfl, ?_⟩) (by assumption) ?_
            rotate_left 1
            · (intro w hSw; (try dsimp only at hSw); go_simp; (try with_reducible rfl))
            try simp only [Act.put, List.getElem_toArray, List.getElem_cons_succ, List.getElem_cons_zero, List.setIfInBounds_toArray, List.set_cons_zero, List.set_cons_succ]
            refine wpAnyH_take (i := 5) (v := ?_) rfl (by kernel_rfl) (by kernel_rfl) (by kernel_rfl) (fun _ _ _ h => h) (Or.inl ⟨by rfl, ?_⟩) (by assumption) ?_
            rotate_left 1
            · (intro w hSw; (try dsimp only at hSw); go_simp; (try with_reducible rfl))
            try simp only [Act.put, List.getElem_toArray, List.getElem_cons_succ, List.getElem_cons_zero, List.setIfInBounds_toArray, List.set_cons_zero, List.set_cons_succ]
            refine wpAnyH_take (i := 6) (v := ?_) rfl (by kernel_rfl) (by kernel_rfl) (by kernel_rfl) (fun _ _ _ h => h) (Or.inl ⟨by rfl, ?_⟩) (by assumption) ?_
            rotate_left 1
            · (intro w hSw; (try dsimp only at hSw); go_simp; (try with_reducible rfl))
            try simp only [Act.put, List.getElem_toArray, List.getElem_cons_succ, List.getElem_cons_zero, List.setIfInBounds_toArray, List.set_cons_zero, List.set_cons_succ]
            refine wpAnyH_ready (rs := [7]) (by kernel_rfl) (by simp) ?_
            refine AllReadyH.cons rfl (fun K hK => ?_) AllReadyH.nil
            go_simp
            (go_at_call 49; (with_reducible refine ((C1 _).out).mono ?_); rintro e w3 ⟨rfl, hw⟩; have hb := below_nxt HD.out hw; have HB3 := Lib.hid hb; have g31 := (hb.cell (p := ⟨w.heap.size, 0, none⟩) g0).trans g1; have g32 := (hb.cell (p := ⟨w.heap.size, 1, none⟩) g0).trans g2; have c31 := (hb.cell (p := ⟨g, off + i * 2, none⟩) hgr).trans c1; have c32 := (hb.cell (p := ⟨g, off + i * 2 + 1, none⟩) hgr).trans c2; clear hb hw)
            go_simp
            refine hK.out _ _ ?_ (fun hHeld => ?_)
            · exact ⟨⟨⟨g31, g32⟩, ⟨c31, c32⟩⟩, HB3⟩
            clear hK K
            try simp only [Act.put, List.getElem_toArray, List.getElem_cons_succ, List.getElem_cons_zero, List.setIfInBounds_toArray, List.set_cons_zero, List.set_cons_succ]
            refine wpAnyH_take (i := 8) (v := ?_) rfl (by kernel_rfl) (by kernel_rfl) (by kernel_rfl) (fun _ _ _ h => h) (Or.inl ⟨by rfl, ?_⟩) (by assumption) ?_
            rotate_left 1
            · (intro w hSw; (try dsimp only at hSw); go_simp; (try with_reducible rfl))
            try simp only [Act.put, List.getElem_toArray, List.getElem_cons_succ, List.getElem_cons_zero, List.setIfInBounds_toArray, List.set_cons_zero, List.set_cons_succ]
            refine wpAnyH_take (i := 9) (v := ?_) rfl (by kernel_rfl) (by kernel_rfl) (by kernel_rfl) (fun _ _ _ h => h) (Or.inl ⟨by rfl, ?_⟩) (by assumption) ?_
            rotate_left 1
            · (intro w hSw; (try dsimp only at hSw); go_simp; (try with_reducible rfl))
            try simp only [Act.put, List.getElem_toArray, List.getElem_cons_succ, List.getElem_cons_zero, List.setIfInBounds_toArray, List.set_cons_zero, List.set_cons_succ]
            refine wpAnyH_take (i := 10) (v := ?_) rfl (by kernel_rfl) (by kernel_rfl) (by kernel_rfl) (fun _ _ _ h => h) (Or.inl ⟨by rfl, ?_⟩) (by assumption) ?_
            rotate_left 1
            · (intro w hSw; (try dsimp only at hSw); go_simp; (try with_reducible rfl))
            try simp only [Act.put, List.getElem_toArray, List.getElem_cons_succ, List.getElem_cons_zero, List.setIfInBounds_toArray, List.set_cons_zero, List.set_cons_succ]
            refine wpAnyH_take (i := 11) (v := ?_) rfl (by kernel_rfl) (by kernel_rfl) (by kernel_rfl) (fun _ _ _ h => h) (Or.inl ⟨by rfl, ?_⟩) (by assumption) ?_
            rotate_left 1
            · (intro w hSw; (try dsimp only at hSw); go_simp; (try with_reducible rfl))
            try simp only [Act.put, List.getElem_toArray, List.getElem_cons_succ, List.getElem_cons_zero, List.setIfInBounds_toArray, List.set_cons_zero, List.set_cons_succ]
            refine wpAnyH_take (i := 12) (v := ?_) rfl (by kernel_rfl) (by kernel_rfl) (by kernel_rfl) (fun _ _ _ h => h) (Or.inl ⟨by rfl, ?_⟩) (by assumption) ?_
            rotate_left 1
            · (intro w hSw; (try dsimp only at hSw); go_simp; (try with_reducible rfl))
            try simp only [Act.put, List.getElem_toArray, List.getElem_cons_succ, List.getElem_cons_zero, List.setIfInBounds_toArray, List.set_cons_zero, List.set_cons_succ]
            refine wpAnyH_take (i := 13) (v := ?_) rfl (by kernel_rfl) (by kernel_rfl) (by kernel_rfl) (fun _ _ _ h => h) (Or.inl ⟨by rfl, ?_⟩) (by assumption) ?_
            rotate_left 1
            · (intro w hSw; (try dsimp only at hSw); go_simp; (try with_reducible rfl))
            try simp only [Act.put, List.getElem_toArray, List.getElem_cons_succ, List.getElem_cons_zero, List.setIfInBounds_toArray, List.set_cons_zero, List.set_cons_succ]
            refine wpAnyH_take (i := 14) (v := ?_) rfl (by kernel_rfl) (by kernel_rfl) (by kernel_rfl) (fun _ _ _ h => h) (Or.inl ⟨by rfl, ?_⟩) (by assumption) ?_
            rotate_left 1
            · (intro w hSw; (try dsimp only at hSw); go_simp; (try with_reducible rfl))
            try simp only [Act.put, List.getElem_toArray, List.getElem_cons_succ, List.getElem_cons_zero, List.setIfInBounds_toArray, List.set_cons_zero, List.set_cons_succ]
            refine wpAnyH_take (i := 15) (v := ?_) rfl (by kernel_rfl) (by kernel_rfl) (by kernel_rfl) (fun _ _ _ h => h) (Or.inl ⟨by rfl, ?_⟩) (by assumption) ?_
            rotate_left 1
            · (intro w hSw; (try dsimp only at hSw); go_simp; (try with_reducible rfl))
            try simp only [Act.put, List.getElem_toArray, List.getElem_cons_succ, List.getElem_cons_zero, List.setIfInBounds_toArray, List.set_cons_zero, List.set_cons_succ]
            refine wpAnyH_take (i := 16) (v := ?_) rfl (by kernel_rfl) (by kernel_rfl) (by kernel_rfl) (fun _ _ _ h => h) (Or.inl ⟨by rfl, ?_⟩) (by assumption) ?_
            rotate_left 1
            · (intro w hSw; (try dsimp only at hSw); go_simp; (try with_reducible rfl))
            try simp only [Act.put, List.getElem_toArray, List.getElem_cons_succ, List.getElem_cons_zero, List.setIfInBounds_toArray, List.set_cons_zero, List.set_cons_succ]
            refine wpAnyH_ready (rs := [17]) (by kernel_rfl) (by simp) ?_
            refine AllReadyH.cons rfl (fun K hK => ?_) AllReadyH.nil
            go_simp
            (go_at_call 49; (with_reducible refine ((C2 _).out).mono ?_); rintro e w4 ⟨rfl, hw⟩; have hb := below_nxt HB3.out hw; have HB4 := Lib.hid hb; have g41 := (hb.cell (p := ⟨w.heap.size, 0, none⟩) g0).trans g1; have g42 := (hb.cell (p := ⟨w.heap.size, 1, none⟩) g0).trans g2; have c41 := (hb.cell (p := ⟨g, off + i * 2, none⟩) hgr).trans c1; have c42 := (hb.cell (p := ⟨g, off + i * 2 + 1, none⟩) hgr).trans c2; clear hb hw)
            go_simp
            refine hK.out _ _ ?_ (fun hHeld => ?_)
            · exact ⟨⟨⟨g41, g42⟩, ⟨c41, c42⟩⟩, HB4⟩
            clear hK K
            try simp only [Act.put, List.getElem_toArray, List.getElem_cons_succ, List.getElem_cons_zero, List.setIfInBounds_toArray, List.set_cons_zero, List.set_cons_succ]
            refine wpAnyH_take (i := 18) (v := ?_) rfl (by kernel_rfl) (by kernel_rfl) (by kernel_rfl) (fun _ _ _ h => h) (Or.inl ⟨by rfl, ?_⟩) (by assumption) ?_
            rotate_left 1
            · (intro w hSw; (try dsimp only at hSw); go_simp; (try with_reducible rfl))
            try simp only [Act.put, List.getElem_toArray, List.getElem_cons_succ, List.getElem_cons_zero, List.setIfInBounds_toArray, List.set_cons_zero, List.set_cons_succ]
            refine wpAnyH_take (i := 19) (v := ?_) rfl (by kernel_rfl) (by kernel_rfl) (by kernel_rfl) (fun _ _ _ h => h) (Or.inl ⟨by rfl, ?_⟩) (by assumption) ?_
            rotate_left 1
            · (intro w hSw; (try dsimp only at hSw); go_simp; (try with_reducible rfl))
            try simp only [Act.put, List.getElem_toArray, List.getElem_cons_succ, List.getElem_cons_zero, List.setIfInBounds_toArray, List.set_cons_zero, List.set_cons_succ]
            refine wpAnyH_done (by kernel_rfl) ?_ _
            refine NoPanic.normal ?_
            go_wp2
            exact ⟨⟨i + 1, by omega, rfl, HG.out.step HB4.out, Lib.hid (HJ2.out rfl), Lib.hid (below_nxt HB.out HB4.out)⟩, by simp [intOf]; omega⟩
        · obtain rfl : i = E.length := by omega
          have HR := Lib.hid (HY.out HJ.out)
          clear HY HN HJ CV
          obtain ⟨g0, g1, g2⟩ := hG
          go_wp2
          exact bodyPost_ret (v := .int .i64 0) (by simp [results, Try.results18, go_sem]) rfl ⟨by rw [HR.out], HB.out⟩
end Go.Proofs.Ytkjhockppkdakaa
namespace Dg
/-- The error of a graph with some vertices. -/
def chkV (n : Int) (E : List (Int × Int)) (l : List Int) : Int := if chk n E = 0 then (if l.all (vtx n) then 0 else 2) else chk n E
end Dg
namespace Go.Proofs.Ytkjhockppkdakaa
open Go.RowKit

set_option maxHeartbeats 4000000 in
set_option maxRecDepth 100000 in
theorem rGiv_any (n x : Int) (v : Value) (E : List (Int × Int)) (w : World) (hs : SeesE w v E) :
    Calls Try.prog 43 #[.agg #[.int .i64 n, v], .int .i64 x] w fun e w' => e = .returned (.int .i64 (Dg.chkV n E [x])) ∧ Below w.heap.size w w' := by
  have CK := fun W h => Lib.hid (rChk_any n v E W h)
  have HS := Lib.hid hs
  obtain ⟨ao, cap, rfl, hcap1, hcap2, hC⟩ := hs
  have CV := fun W => Lib.hid (rIsV_any n x ao E.length cap W)
  have HV : Hid (Dg.chkV n E [x] = if Dg.chk n E = 0 then (if Dg.vtx n x = true then 0 else 2) else Dg.chk n E) := Lib.hid (by unfold Dg.chkV; simp)
  obtain ⟨P0, L0, -⟩ := gph_new w n (.slice ao E.length cap) 24
  have HL := Lib.hid L0
  generalize Dg.chkV n E [x] = R at *
  generalize Dg.vtx n x = b at *
  clear hC L0
  generalize hX : w.alloc (.cells #[.int .i64 n, .slice ao E.length cap] 24) = X at *
  obtain ⟨p0, p1, p2⟩ := id P0
  by_cases hk : Dg.chk n E = 0
  · rw [hk] at CK
    have HV2 : Hid (R = if b = true then 0 else 2) := Lib.hid (by rw [HV.out, if_pos hk])
    clear HV hk
    cases b
    all_goals
      go_enter Try.func43, Try.ntmps43
      go_wp2_with fail
      refine ((CK _ (HS.out.step HL.out)).out).mono ?_
      rintro e w1 ⟨rfl, hb⟩
      have HB1 := Lib.hid (below_nxt HL.out hb)
      obtain ⟨p0', q1, q2⟩ := P0.step hb
      clear hb
      go_wp2_with fail
      refine ((CV _).out).mono ?_
      rintro e w2 ⟨rfl, hb⟩
      have HB2 := Lib.hid (below_nxt HB1.out hb)
      go_wp2
    · exact bodyPost_ret (v := .int .i64 2) (by simp [results, Try.results43, go_sem]) rfl ⟨by rw [HV2.out]; rfl, HB2.out⟩
    · exact bodyPost_ret (v := .int .i64 0) (by simp [results, Try.results43, go_sem]) rfl ⟨by rw [HV2.out]; rfl, HB2.out⟩
  · have HV2 : Hid (R = Dg.chk n E) := Lib.hid (by rw [HV.out, if_neg hk])
    have hne : (Dg.chk n E != 0) = true := by simp [hk]
    generalize Dg.chk n E = k at *
    clear HV hk
    go_enter Try.func43, Try.ntmps43
    go_wp2_with fail
    refine ((CK _ (HS.out.step HL.out)).out).mono ?_
    rintro e w1 ⟨rfl, hb⟩
    have HB1 := Lib.hid (below_nxt HL.out hb)
    go_wp2
    exact bodyPost_ret (v := .int .i64 k) (by simp [results, Try.results43, go_sem]) rfl ⟨by rw [HV2.out], HB1.out⟩
end Go.Proofs.Ytkjhockppkdakaa
