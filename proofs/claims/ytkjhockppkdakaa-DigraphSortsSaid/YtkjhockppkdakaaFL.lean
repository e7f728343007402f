/- Leads, Looped and Round of the reference. -/
import Derived.Test.YtkjhockppkdakaaFK
namespace Dg
/-- The nearest neighbour of x below i from which x is reached. -/
def Bst (n : Nat) (es : List (Nat × Nat)) (x i : Nat) (b : Int) (y : Nat) : Prop := (b = (n : Int) + 1 ∧ y = 0 ∧ ∀ u, u < i → (x, u) ∈ es → dist n es u x = -1) ∨ ((x, y) ∈ es ∧ y < i ∧ 0 ≤ b ∧ dist n es y x = b ∧ ∀ u, u < i → (x, u) ∈ es → 0 ≤ dist n es u x → b ≤ dist n es u x ∧ (dist n es u x = b → y ≤ u))
theorem Bst.start (n : Nat) (es : List (Nat × Nat)) (x : Nat) : Bst n es x 0 ((n : Int) + 1) 0 := .inl ⟨rfl, rfl, fun u hu => by omega⟩
theorem Bst.skip {n : Nat} {es : List (Nat × Nat)} {x i : Nat} {b : Int} {y : Nat} (h : Bst n es x i b y) (hi : i < n) (hs : (x, i) ∉ es ∨ dist n es i x = -1 ∨ b ≤ dist n es i x) : Bst n es x (i + 1) b y := by
  rcases h with ⟨h1, h2, h3⟩ | ⟨h1, h2, h3, h4, h5⟩
  · refine .inl ⟨h1, h2, fun u hu he => ?_⟩
    by_cases e : u = i
    · subst e
      rcases hs with hs | hs | hs
      · exact absurd he hs
      · exact hs
      · have := dist_lt (n := n) (E := es) (s := u) hi (v := x); omega
    · exact h3 u (by omega) he
  · refine .inr ⟨h1, by omega, h3, h4, fun u hu he hd => ?_⟩
    by_cases e : u = i
    · subst e
      rcases hs with hs | hs | hs
      · exact absurd he hs
      · omega
      · exact ⟨hs, fun _ => by omega⟩
    · exact h5 u (by omega) he hd
theorem Bst.take {n : Nat} {es : List (Nat × Nat)} {x i : Nat} {b : Int} {y : Nat} (h : Bst n es x i b y) (he : (x, i) ∈ es) (h0 : 0 ≤ dist n es i x) (hb : dist n es i x < b) : Bst n es x (i + 1) (dist n es i x) i := by
  refine .inr ⟨he, by omega, h0, rfl, fun u hu hue hud => ?_⟩
  by_cases e : u = i
  · subst e; exact ⟨Int.le_refl _, fun _ => Nat.le_refl _⟩
  · rcases h with ⟨_, _, h3⟩ | ⟨_, _, _, _, h5⟩
    · have := h3 u (by omega) hue; omega
    · have := (h5 u (by omega) hue hud).1
      exact ⟨by omega, fun _ => by omega⟩
theorem Bst.nx {n : Nat} {es : List (Nat × Nat)} (hE : Ok n es) {x : Nat} {b : Int} {y : Nat} (h : Bst n es x n b y) (hc : onC n es x = true) : y = nx n es x x := by
  obtain ⟨h1, h2, _, h4, h5, h6⟩ := near_ok (t := x) hE x hc
  have hd := fun u => dist_dt n es u x
  rcases h with ⟨_, _, g3⟩ | ⟨g1, g2, g3, g4, g5⟩
  · have := g3 _ h2 h1
    rw [hd] at this; omega
  · obtain ⟨k1, k2⟩ := g5 _ h2 h1 (by rw [hd]; exact h4)
    have k3 := h5 y g1 (by rw [← hd, g4]; exact g3)
    rw [hd] at k1 k2 g4
    have k4 := h6 y g1 (by omega)
    have k5 := k2 (by omega)
    omega
end Dg
namespace Go.Proofs.Ytkjhockppkdakaa
open Go.RowKit Go.Shelf

set_option linter.unusedSimpArgs false in
set_option maxHeartbeats 4000000 in
set_option maxRecDepth 100000 in
theorem rLeads_ok (m : Nat) (es : List (Nat × Nat)) (a b : Nat) (v : Value) (w : World) (d : Bool) (hE : Dg.Ok m es) (hm : m ≤ 256) (hle : es.length ≤ 4096) (hb0 : b < m) (hd : d = true ↔ ∃ u, (a, u) ∈ es ∧ 0 ≤ Dg.dist m es u b) (hv : SeesE w v (Dg.cst es)) :
    Calls Try.prog 70 #[.agg #[.int .i64 m, v], .int .i64 a, .int .i64 b] w fun e w' => e = .returned (.bool d) ∧ Below w.heap.size w w' := by
  have SG0 := Lib.hid hv
  have hCE0 : ∃ ao cap, v = .slice ao (Dg.cst es).length cap ∧ CellsE w ao (Dg.cst es) := by
    obtain ⟨ao', cap', h1, _, _, h4⟩ := hv
    exact ⟨ao', cap', h1, h4⟩
  obtain ⟨ao, cap, rfl, hC⟩ := hCE0
  rw [Dg.cst_len] at *
  obtain ⟨P0, L0, z0⟩ := gph_new w m (.slice ao es.length cap) 24
  generalize hX : w.alloc (.cells #[.int .i64 m, .slice ao es.length cap] 24) = X at *
  obtain ⟨-, p1, p2⟩ := id P0
  have HL := Lib.hid L0
  have HM := Lib.hid (fun i (hi : i < es.length) => Dg.getD_mem (d := ((0, 0) : Nat × Nat)) hi)
  have HD := Lib.hid hd
  have HE := Lib.hid hE
  clear L0 z0 hv hd hE
  go_enter Try.func70, Try.ntmps70
  go_wp2
  go_loopw [7] (fun s7 wr => ∃ i : Nat, i ≤ es.length ∧ s7 = .int .i64 i ∧ Hid (Below X.heap.size X wr) ∧ Hid (∀ j, j < i → (es.getD j (0, 0)).1 = a → Dg.dist m es (es.getD j (0, 0)).2 b < 0)) (fun s7 _ => es.length - (intOf s7).toNat)
  case atStart => exact ⟨0, Nat.zero_le _, rfl, Lib.hid (Below.refl _ _), Lib.hid (fun j h => by omega)⟩
  case round =>
    obtain ⟨i, hi, rfl, HB, HN⟩ := hrel
    have HBw := Lib.hid (below_nxt HL.out HB.out)
    have P := P0.step HB.out
    obtain ⟨-, P1, P2⟩ := id P
    clear p1 p2
    by_cases hil : i < es.length
    · obtain ⟨g, off, rfl, hg, c1, c2⟩ := hC.at HBw.out (i := i) (by rw [Dg.cst_len]; exact hil)
      rw [Dg.cst_at] at c1 c2
      have HMi := Lib.hid (HM.out i hil)
      obtain ⟨o1, o2⟩ := HE.out _ HMi.out
      have HQ : Hid (((es.getD i (0, 0)).1 = a → Dg.dist m es (es.getD i (0, 0)).2 b < 0) → ∀ j, j < i + 1 → (es.getD j (0, 0)).1 = a → Dg.dist m es (es.getD j (0, 0)).2 b < 0) := Lib.hid (fun h j hj => by
        by_cases e : j = i
        · rw [e]; exact h
        · exact HN.out j (by omega))
      have SG := Lib.hid (SG0.out.step HBw.out)
      have hgz := Nat.lt_of_lt_of_le hg HBw.out.size
      clear HN HM
      generalize es.getD i (0, 0) = y at *
      have KE : CellV _ _ _ _ := ⟨hgz, c1⟩
      have KF : CellV _ _ _ _ := ⟨hgz, c2⟩
      have KE1 := KE.2
      have KF1 := KF.2
      have CF := fun W h => rFar_any m es y.2 (.slice (some ⟨g, off, none⟩) es.length cap) W HE.out o2 hm hle h
      clear c1 c2 hgz
      by_cases e1 : y.1 = a
      · have d1 : ((y.1 : Int) == (a : Int)) = true := by simp [e1]
        rcases Dg.dist_cases m es y.2 b with hDD | ⟨q, -, hDD⟩
        · have HQ2 := Lib.hid (HQ.out (fun _ => by rw [hDD]; decide))
          have HDD := Lib.hid hDD
          clear e1 HQ hDD
          go_wp2_with fail
          have HBq := Lib.hid (below_nxt HB.out (Below.refl wr.heap.size wr).drew)
          have SGq := Lib.hid (SG.out.step (Below.refl wr.heap.size wr).drew)
          have Pq := P.step (Below.refl wr.heap.size wr).drew
          have KEq := KE.step (Below.refl wr.heap.size wr).drew
          have KFq := KF.step (Below.refl wr.heap.size wr).drew
          clear HB SG P KE KF
          have HB := HBq
          have SG := SGq
          have P := Pq
          have KE := KEq
          have KF := KFq
          clear HBq SGq Pq KEq KFq
          clear P1 P2 KE1 KF1
          obtain ⟨-, P1, P2⟩ := id P
          obtain ⟨-, KE1⟩ := id KE
          obtain ⟨-, KF1⟩ := id KF
          refine wp_region_noPanic ?_
          refine wp_region_held_drew (S := (fun V => V.cell? ⟨w.heap.size, 0, none⟩ = some (.int .i64 m) ∧ V.cell? ⟨w.heap.size, 1, none⟩ = some (.slice (some ⟨g, off, none⟩) es.length cap) ∧ V.cell? ⟨g, off + i * 2, none⟩ = some (.int .i64 (y.1 : Int)) ∧ V.cell? ⟨g, off + i * 2 + 1, none⟩ = some (.int .i64 (y.2 : Int)))) (by kernel_rfl) ?_ (fun hHeld => ?_)
          · exact ⟨P1, P2, KE1, KF1⟩
          refine wpAnyH_take (i := 0) (v := ?_) rfl (by kernel_rfl) (by kernel_rfl) (by kernel_rfl) (fun _ _ _ h => h) (Or.inl ⟨by rfl, ?_⟩) (by assumption) ?_
          rotate_left 1
          · (intro w hSw; (try dsimp only at hSw); go_simp; (try with_reducible rfl))
          try simp only [Act.put, List.getElem_toArray, List.getElem_cons_succ, List.getElem_cons_zero, List.setIfInBounds_toArray, List.set_cons_zero, List.set_cons_succ]
          refine wpAnyH_take (i := 1) (v := ?_) rfl (by kernel_rfl) (by kernel_rfl) (by kernel_rfl) (fun _ _ _ h => h) (Or.inl ⟨by rfl, ?_⟩) (by assumption) ?_
          rotate_left 1
          · (intro w hSw; (try dsimp only at hSw); go_simp; (try with_reducible rfl))
          try simp only [Act.put, List.getElem_toArray, List.getElem_cons_succ, List.getElem_cons_zero, List.setIfInBounds_toArray, List.set_cons_zero, List.set_cons_succ]
          refine wpAnyH_take (i := 2) (v := ?_) rfl (by kernel_rfl) (by kernel_rfl) (by kernel_rfl) (fun _ _ _ h => h) (Or.inl ⟨by rfl, ?_⟩) (by assumption) ?_
          rotate_left 1
          · (intro w hSw; (try dsimp only at hSw); go_simp; (try with_reducible rfl))
          try simp only [Act.put, List.getElem_toArray, List.getElem_cons_succ, List.getElem_cons_zero, List.setIfInBounds_toArray, List.set_cons_zero, List.set_cons_succ]
          refine wpAnyH_take (i := 3) (v := ?_) rfl (by kernel_rfl) (by kernel_rfl) (by kernel_rfl) (fun _ _ _ h => h) (Or.inl ⟨by rfl, ?_⟩) (by assumption) ?_
          rotate_left 1
          · (intro w hSw; (try dsimp only at hSw); go_simp; (try with_reducible rfl))
          try simp only [Act.put, List.getElem_toArray, List.getElem_cons_succ, List.getElem_cons_zero, List.setIfInBounds_toArray, List.set_cons_zero, List.set_cons_succ]
          refine wpAnyH_take (i := 4) (v := ?_) rfl (by kernel_rfl) (by kernel_rfl) (by kernel_rfl) (fun _ _ _ h => h) (Or.inl ⟨by rfl, ?_⟩) (by assumption) ?_
          rotate_left 1
          · (intro w hSw; (try dsimp only at hSw); go_simp; (try with_reducible rfl))
          try simp only [Act.put, List.getElem_toArray, List.getElem_cons_succ, List.getElem_cons_zero, List.setIfInBounds_toArray, List.set_cons_zero, List.set_cons_succ]
          refine wpAnyH_take (i := 5) (v := ?_) rfl (by kernel_rfl) (by kernel_rfl) (by kernel_rfl) (fun _ _ _ h => h) (Or.inl ⟨by rfl, ?_⟩) (by assumption) ?_
          rotate_left 1
          · (intro w hSw; (try dsimp only at hSw); go_simp; (try with_reducible rfl))
          try simp only [Act.put, List.getElem_toArray, List.getElem_cons_succ, List.getElem_cons_zero, List.setIfInBounds_toArray, List.set_cons_zero, List.set_cons_succ]
          refine wpAnyH_take (i := 6) (v := ?_) rfl (by kernel_rfl) (by kernel_rfl) (by kernel_rfl) (fun _ _ _ h => h) (Or.inl ⟨by rfl, ?_⟩) (by assumption) ?_
          rotate_left 1
          · (intro w hSw; (try dsimp only at hSw); go_simp; (try with_reducible rfl))
          try simp only [Act.put, List.getElem_toArray, List.getElem_cons_succ, List.getElem_cons_zero, List.setIfInBounds_toArray, List.set_cons_zero, List.set_cons_succ]
          refine wpAnyH_take (i := 7) (v := ?_) rfl (by kernel_rfl) (by kernel_rfl) (by kernel_rfl) (fun _ _ _ h => h) (Or.inl ⟨by rfl, ?_⟩) (by assumption) ?_
          rotate_left 1
          · (intro w hSw; (try dsimp only at hSw); go_simp; (try with_reducible rfl))
          try simp only [Act.put, List.getElem_toArray, List.getElem_cons_succ, List.getElem_cons_zero, List.setIfInBounds_toArray, List.set_cons_zero, List.set_cons_succ]
          refine wpAnyH_take (i := 8) (v := ?_) rfl (by kernel_rfl) (by kernel_rfl) (by kernel_rfl) (fun _ _ _ h => h) (Or.inl ⟨by rfl, ?_⟩) (by assumption) ?_
          rotate_left 1
          · (intro w hSw; (try dsimp only at hSw); go_simp; (try with_reducible rfl))
          try simp only [Act.put, List.getElem_toArray, List.getElem_cons_succ, List.getElem_cons_zero, List.setIfInBounds_toArray, List.set_cons_zero, List.set_cons_succ]
          refine wpAnyH_take (i := 9) (v := ?_) rfl (by kernel_rfl) (by kernel_rfl) (by kernel_rfl) (fun _ _ _ h => h) (Or.inl ⟨by rfl, ?_⟩) (by assumption) ?_
          rotate_left 1
          · (intro w hSw; (try dsimp only at hSw); go_simp; (try with_reducible rfl))
          try simp only [Act.put, List.getElem_toArray, List.getElem_cons_succ, List.getElem_cons_zero, List.setIfInBounds_toArray, List.set_cons_zero, List.set_cons_succ]
          refine wpAnyH_take (i := 10) (v := ?_) rfl (by kernel_rfl) (by kernel_rfl) (by kernel_rfl) (fun _ _ _ h => h) (Or.inl ⟨by rfl, ?_⟩) (by assumption) ?_
          rotate_left 1
          · (intro w hSw; (try dsimp only at hSw); go_simp; (try with_reducible rfl))
          try simp only [Act.put, List.getElem_toArray, List.getElem_cons_succ, List.getElem_cons_zero, List.setIfInBounds_toArray, List.set_cons_zero, List.set_cons_succ]
          refine wpAnyH_take (i := 11) (v := ?_) rfl (by kernel_rfl) (by kernel_rfl) (by kernel_rfl) (fun _ _ _ h => h) (Or.inl ⟨by rfl, ?_⟩) (by assumption) ?_
          rotate_left 1
          · (intro w hSw; (try dsimp only at hSw); go_simp; (try with_reducible rfl))
          try simp only [Act.put, List.getElem_toArray, List.getElem_cons_succ, List.getElem_cons_zero, List.setIfInBounds_toArray, List.set_cons_zero, List.set_cons_succ]
          refine wpAnyH_take (i := 12) (v := ?_) rfl (by kernel_rfl) (by kernel_rfl) (by kernel_rfl) (fun _ _ _ h => h) (Or.inl ⟨by rfl, ?_⟩) (by assumption) ?_
          rotate_left 1
          · (intro w hSw; (try dsimp only at hSw); go_simp; (try with_reducible rfl))
          try simp only [Act.put, List.getElem_toArray, List.getElem_cons_succ, List.getElem_cons_zero, List.setIfInBounds_toArray, List.set_cons_zero, List.set_cons_succ]
          refine wpAnyH_take (i := 13) (v := ?_) rfl (by kernel_rfl) (by kernel_rfl) (by kernel_rfl) (fun _ _ _ h => h) (Or.inl ⟨by rfl, ?_⟩) (by assumption) ?_
          rotate_left 1
          · (intro w hSw; (try dsimp only at hSw); go_simp; (try with_reducible rfl))
          try simp only [Act.put, List.getElem_toArray, List.getElem_cons_succ, List.getElem_cons_zero, List.setIfInBounds_toArray, List.set_cons_zero, List.set_cons_succ]
          refine wpAnyH_take (i := 14) (v := ?_) rfl (by kernel_rfl) (by kernel_rfl) (by kernel_rfl) (fun _ _ _ h => h) (Or.inl ⟨by rfl, ?_⟩) (by assumption) ?_
          rotate_left 1
          · (intro w hSw; (try dsimp only at hSw); go_simp; (try with_reducible rfl))
          try simp only [Act.put, List.getElem_toArray, List.getElem_cons_succ, List.getElem_cons_zero, List.setIfInBounds_toArray, List.set_cons_zero, List.set_cons_succ]
          refine wpAnyH_take (i := 15) (v := ?_) rfl (by kernel_rfl) (by kernel_rfl) (by kernel_rfl) (fun _ _ _ h => h) (Or.inl ⟨by rfl, ?_⟩) (by assumption) ?_
          rotate_left 1
          · (intro w hSw; (try dsimp only at hSw); go_simp; (try with_reducible rfl))
          try simp only [Act.put, List.getElem_toArray, List.getElem_cons_succ, List.getElem_cons_zero, List.setIfInBounds_toArray, List.set_cons_zero, List.set_cons_succ]
          refine wpAnyH_take (i := 17) (v := ?_) rfl (by kernel_rfl) (by kernel_rfl) (by kernel_rfl) (fun _ _ _ h => h) (Or.inl ⟨by rfl, ?_⟩) (by assumption) ?_
          rotate_left 1
          · (intro w hSw; (try dsimp only at hSw); go_simp; (try with_reducible rfl))
          try simp only [Act.put, List.getElem_toArray, List.getElem_cons_succ, List.getElem_cons_zero, List.setIfInBounds_toArray, List.set_cons_zero, List.set_cons_succ]
          refine wpAnyH_ready (rs := [16]) (by kernel_rfl) (by simp) ?_
          refine AllReadyH.cons rfl (fun K hK => ?_) AllReadyH.nil
          go_simp
          (go_at_call 44; (with_reducible refine (CF _ SG.out).mono ?_); rintro e wn ⟨uf, rfl, hs, hb⟩; have HBq := Lib.hid (below_nxt HB.out hb); have SGq := Lib.hid (SG.out.step hb); have Pq := P.step hb; have KEq := KE.step hb; have KFq := KF.step hb; clear HB SG P KE KF; have HB := HBq; have SG := SGq; have P := Pq; have KE := KEq; have KF := KFq; clear HBq SGq Pq KEq KFq; clear P1 P2 KE1 KF1; clear hb; obtain ⟨-, P1, P2⟩ := id P; obtain ⟨-, KE1⟩ := id KE; obtain ⟨-, KF1⟩ := id KF; obtain ⟨af, cf, rfl, -, -, hCf⟩ := hs.opened; obtain ⟨bf, of, rfl, hbf, df⟩ := hCf.at (Below.refl _ _) (i := b) (by rw [Dg.distL_len]; exact hb0); rw [Dg.distL_at hb0, HDD.out] at df; simp only [Dg.distL_len]; clear hs hCf hbf)
          go_simp
          refine hK.out _ _ ?_ (fun hHeld => ?_)
          · exact ⟨P1, P2, KE1, KF1⟩
          clear hK K
          try simp only [Act.put, List.getElem_toArray, List.getElem_cons_succ, List.getElem_cons_zero, List.setIfInBounds_toArray, List.set_cons_zero, List.set_cons_succ]
          refine wpAnyH_take (i := 18) (v := ?_) rfl (by kernel_rfl) (by kernel_rfl) (by kernel_rfl) (fun _ _ _ h => h) (Or.inl ⟨by rfl, ?_⟩) (by assumption) ?_
          rotate_left 1
          · (intro w hSw; (try dsimp only at hSw); go_simp; (try with_reducible rfl))
          try simp only [Act.put, List.getElem_toArray, List.getElem_cons_succ, List.getElem_cons_zero, List.setIfInBounds_toArray, List.set_cons_zero, List.set_cons_succ]
          refine wpAnyH_ready (rs := [19]) (by kernel_rfl) (by simp) ?_
          refine AllReadyH.cons rfl (fun K hK => ?_) AllReadyH.nil
          go_simp
          skip
          go_simp
          refine hK.out _ _ ?_ (fun hHeld => ?_)
          · exact ⟨P1, P2, KE1, KF1⟩
          clear hK K
          try simp only [Act.put, List.getElem_toArray, List.getElem_cons_succ, List.getElem_cons_zero, List.setIfInBounds_toArray, List.set_cons_zero, List.set_cons_succ]
          refine wpAnyH_take (i := 20) (v := ?_) rfl (by kernel_rfl) (by kernel_rfl) (by kernel_rfl) (fun _ _ _ h => h) (Or.inl ⟨by rfl, ?_⟩) (by assumption) ?_
          rotate_left 1
          · (intro w hSw; (try dsimp only at hSw); go_simp; (try with_reducible rfl))
          try simp only [Act.put, List.getElem_toArray, List.getElem_cons_succ, List.getElem_cons_zero, List.setIfInBounds_toArray, List.set_cons_zero, List.set_cons_succ]
          refine wpAnyH_take (i := 21) (v := ?_) rfl (by kernel_rfl) (by kernel_rfl) (by kernel_rfl) (fun _ _ _ h => h) (Or.inl ⟨by rfl, ?_⟩) (by assumption) ?_
          rotate_left 1
          · (intro w hSw; (try dsimp only at hSw); go_simp; (try with_reducible rfl))
          try simp only [Act.put, List.getElem_toArray, List.getElem_cons_succ, List.getElem_cons_zero, List.setIfInBounds_toArray, List.set_cons_zero, List.set_cons_succ]
          refine wpAnyH_done (by kernel_rfl) ?_ _
          refine NoPanic.normal ?_
          go_wp2
          exact ⟨⟨i + 1, by omega, by first | rfl | go_num, HB, HQ2⟩, by simp [intOf]; omega⟩
        · have HDD := Lib.hid hDD
          have hq0 : (0 : Int) ≤ (q : Int) := by omega
          have HR : Hid (d = true) := Lib.hid (HD.out.2 ⟨y.2, by rw [← e1]; exact HMi.out, by rw [HDD.out]; exact hq0⟩)
          clear e1 HQ hDD
          go_wp2_with fail
          have HBq := Lib.hid (below_nxt HB.out (Below.refl wr.heap.size wr).drew)
          have SGq := Lib.hid (SG.out.step (Below.refl wr.heap.size wr).drew)
          have Pq := P.step (Below.refl wr.heap.size wr).drew
          have KEq := KE.step (Below.refl wr.heap.size wr).drew
          have KFq := KF.step (Below.refl wr.heap.size wr).drew
          clear HB SG P KE KF
          have HB := HBq
          have SG := SGq
          have P := Pq
          have KE := KEq
          have KF := KFq
          clear HBq SGq Pq KEq KFq
          clear P1 P2 KE1 KF1
          obtain ⟨-, P1, P2⟩ := id P
          obtain ⟨-, KE1⟩ := id KE
          obtain ⟨-, KF1⟩ := id KF
          refine wp_region_noPanic ?_
          refine wp_region_held_drew (S := (fun V => V.cell? ⟨w.heap.size, 0, none⟩ = some (.int .i64 m) ∧ V.cell? ⟨w.heap.size, 1, none⟩ = some (.slice (some ⟨g, off, none⟩) es.length cap) ∧ V.cell? ⟨g, off + i * 2, none⟩ = some (.int .i64 (y.1 : Int)) ∧ V.cell? ⟨g, off + i * 2 + 1, none⟩ = some (.int .i64 (y.2 : Int)))) (by kernel_rfl) ?_ (fun hHeld => ?_)
          · exact ⟨P1, P2, KE1, KF1⟩
          refine wpAnyH_take (i := 0) (v := ?_) rfl (by kernel_rfl) (by kernel_rfl) (by kernel_rfl) (fun _ _ _ h => h) (Or.inl ⟨by rfl, ?_⟩) (by assumption) ?_
          rotate_left 1
          · (intro w hSw; (try dsimp only at hSw); go_simp; (try with_reducible rfl))
          try simp only [Act.put, List.getElem_toArray, List.getElem_cons_succ, List.getElem_cons_zero, List.setIfInBounds_toArray, List.set_cons_zero, List.set_cons_succ]
          refine wpAnyH_take (i := 1) (v := ?_) rfl (by kernel_rfl) (by kernel_rfl) (by kernel_rfl) (fun _ _ _ h => h) (Or.inl ⟨by rfl, ?_⟩) (by assumption) ?_
          rotate_left 1
          · (intro w hSw; (try dsimp only at hSw); go_simp; (try with_reducible rfl))
          try simp only [Act.put, List.getElem_toArray, List.getElem_cons_succ, List.getElem_cons_zero, List.setIfInBounds_toArray, List.set_cons_zero, List.set_cons_succ]
          refine wpAnyH_take (i := 2) (v := ?_) rfl (by kernel_rfl) (by kernel_rfl) (by kernel_rfl) (fun _ _ _ h => h) (Or.inl ⟨by rfl, ?_⟩) (by assumption) ?_
          rotate_left 1
          · (intro w hSw; (try dsimp only at hSw); go_simp; (try with_reducible rfl))
          try simp only [Act.put, List.getElem_toArray, List.getElem_cons_succ, List.getElem_cons_zero, List.setIfInBounds_toArray, List.set_cons_zero, List.set_cons_succ]
          refine wpAnyH_take (i := 3) (v := ?_) rfl (by kernel_rfl) (by kernel_rfl) (by kernel_rfl) (fun _ _ _ h => h) (Or.inl ⟨by rfl, ?_⟩) (by assumption) ?_
          rotate_left 1
          · (intro w hSw; (try dsimp only at hSw); go_simp; (try with_reducible rfl))
          try simp only [Act.put, List.getElem_toArray, List.getElem_cons_succ, List.getElem_cons_zero, List.setIfInBounds_toArray, List.set_cons_zero, List.set_cons_succ]
          refine wpAnyH_take (i := 4) (v := ?_) rfl (by kernel_rfl) (by kernel_rfl) (by kernel_rfl) (fun _ _ _ h => h) (Or.inl ⟨by rfl, ?_⟩) (by assumption) ?_
          rotate_left 1
          · (intro w hSw; (try dsimp only at hSw); go_simp; (try with_reducible rfl))
          try simp only [Act.put, List.getElem_toArray, List.getElem_cons_succ, List.getElem_cons_zero, List.setIfInBounds_toArray, List.set_cons_zero, List.set_cons_succ]
          refine wpAnyH_take (i := 5) (v := ?_) rfl (by kernel_rfl) (by kernel_rfl) (by kernel_rfl) (fun _ _ _ h => h) (Or.inl ⟨by rfl, ?_⟩) (by assumption) ?_
          rotate_left 1
          · (intro w hSw; (try dsimp only at hSw); go_simp; (try with_reducible rfl))
          try simp only [Act.put, List.getElem_toArray, List.getElem_cons_succ, List.getElem_cons_zero, List.setIfInBounds_toArray, List.set_cons_zero, List.set_cons_succ]
          refine wpAnyH_take (i := 6) (v := ?_) rfl (by kernel_rfl) (by kernel_rfl) (by kernel_rfl) (fun _ _ _ h => h) (Or.inl ⟨by rfl, ?_⟩) (by assumption) ?_
          rotate_left 1
          · (intro w hSw; (try dsimp only at hSw); go_simp; (try with_reducible rfl))
          try simp only [Act.put, List.getElem_toArray, List.getElem_cons_succ, List.getElem_cons_zero, List.setIfInBounds_toArray, List.set_cons_zero, List.set_cons_succ]
          refine wpAnyH_take (i := 7) (v := ?_) rfl (by kernel_rfl) (by kernel_rfl) (by kernel_rfl) (fun _ _ _ h => h) (Or.inl ⟨by rfl, ?_⟩) (by assumption) ?_
          rotate_left 1
          · (intro w hSw; (try dsimp only at hSw); go_simp; (try with_reducible rfl))
          try simp only [Act.put, List.getElem_toArray, List.getElem_cons_succ, List.getElem_cons_zero, List.setIfInBounds_toArray, List.set_cons_zero, List.set_cons_succ]
          refine wpAnyH_take (i := 8) (v := ?_) rfl (by kernel_rfl) (by kernel_rfl) (by kernel_rfl) (fun _ _ _ h => h) (Or.inl ⟨by rfl, ?_⟩) (by assumption) ?_
          rotate_left 1
          · (intro w hSw; (try dsimp only at hSw); go_simp; (try with_reducible rfl))
          try simp only [Act.put, List.getElem_toArray, List.getElem_cons_succ, List.getElem_cons_zero, List.setIfInBounds_toArray, List.set_cons_zero, List.set_cons_succ]
          refine wpAnyH_take (i := 9) (v := ?_) rfl (by kernel_rfl) (by kernel_rfl) (by kernel_rfl) (fun _ _ _ h => h) (Or.inl ⟨by rfl, ?_⟩) (by assumption) ?_
          rotate_left 1
          · (intro w hSw; (try dsimp only at hSw); go_simp; (try with_reducible rfl))
          try simp only [Act.put, List.getElem_toArray, List.getElem_cons_succ, List.getElem_cons_zero, List.setIfInBounds_toArray, List.set_cons_zero, List.set_cons_succ]
          refine wpAnyH_take (i := 10) (v := ?_) rfl (by kernel_rfl) (by kernel_rfl) (by kernel_rfl) (fun _ _ _ h => h) (Or.inl ⟨by rfl, ?_⟩) (by assumption) ?_
          rotate_left 1
          · (intro w hSw; (try dsimp only at hSw); go_simp; (try with_reducible rfl))
          try simp only [Act.put, List.getElem_toArray, List.getElem_cons_succ, List.getElem_cons_zero, List.setIfInBounds_toArray, List.set_cons_zero, List.set_cons_succ]
          refine wpAnyH_take (i := 11) (v := ?_) rfl (by kernel_rfl) (by kernel_rfl) (by kernel_rfl) (fun _ _ _ h => h) (Or.inl ⟨by rfl, ?_⟩) (by assumption) ?_
          rotate_left 1
          · (intro w hSw; (try dsimp only at hSw); go_simp; (try with_reducible rfl))
          try simp only [Act.put, List.getElem_toArray, List.getElem_cons_succ, List.getElem_cons_zero, List.setIfInBounds_toArray, List.set_cons_zero, List.set_cons_succ]
          refine wpAnyH_take (i := 12) (v := ?_) rfl (by kernel_rfl) (by kernel_rfl) (by kernel_rfl) (fun _ _ _ h => h) (Or.inl ⟨by rfl, ?_⟩) (by assumption) ?_
          rotate_left 1
          · (intro w hSw; (try dsimp only at hSw); go_simp; (try with_reducible rfl))
          try simp only [Act.put, List.getElem_toArray, List.getElem_cons_succ, List.getElem_cons_zero, List.setIfInBounds_toArray, List.set_cons_zero, List.set_cons_succ]
          refine wpAnyH_take (i := 13) (v := ?_) rfl (by kernel_rfl) (by kernel_rfl) (by kernel_rfl) (fun _ _ _ h => h) (Or.inl ⟨by rfl, ?_⟩) (by assumption) ?_
          rotate_left 1
          · (intro w hSw; (try dsimp only at hSw); go_simp; (try with_reducible rfl))
          try simp only [Act.put, List.getElem_toArray, List.getElem_cons_succ, List.getElem_cons_zero, List.setIfInBounds_toArray, List.set_cons_zero, List.set_cons_succ]
          refine wpAnyH_take (i := 14) (v := ?_) rfl (by kernel_rfl) (by kernel_rfl) (by kernel_rfl) (fun _ _ _ h => h) (Or.inl ⟨by rfl, ?_⟩) (by assumption) ?_
          rotate_left 1
          · (intro w hSw; (try dsimp only at hSw); go_simp; (try with_reducible rfl))
          try simp only [Act.put, List.getElem_toArray, List.getElem_cons_succ, List.getElem_cons_zero, List.setIfInBounds_toArray, List.set_cons_zero, List.set_cons_succ]
          refine wpAnyH_take (i := 15) (v := ?_) rfl (by kernel_rfl) (by kernel_rfl) (by kernel_rfl) (fun _ _ _ h => h) (Or.inl ⟨by rfl, ?_⟩) (by assumption) ?_
          rotate_left 1
          · (intro w hSw; (try dsimp only at hSw); go_simp; (try with_reducible rfl))
          try simp only [Act.put, List.getElem_toArray, List.getElem_cons_succ, List.getElem_cons_zero, List.setIfInBounds_toArray, List.set_cons_zero, List.set_cons_succ]
          refine wpAnyH_take (i := 17) (v := ?_) rfl (by kernel_rfl) (by kernel_rfl) (by kernel_rfl) (fun _ _ _ h => h) (Or.inl ⟨by rfl, ?_⟩) (by assumption) ?_
          rotate_left 1
          · (intro w hSw; (try dsimp only at hSw); go_simp; (try with_reducible rfl))
          try simp only [Act.put, List.getElem_toArray, List.getElem_cons_succ, List.getElem_cons_zero, List.setIfInBounds_toArray, List.set_cons_zero, List.set_cons_succ]
          refine wpAnyH_ready (rs := [16]) (by kernel_rfl) (by simp) ?_
          refine AllReadyH.cons rfl (fun K hK => ?_) AllReadyH.nil
          go_simp
          (go_at_call 44; (with_reducible refine (CF _ SG.out).mono ?_); rintro e wn ⟨uf, rfl, hs, hb⟩; have HBq := Lib.hid (below_nxt HB.out hb); have SGq := Lib.hid (SG.out.step hb); have Pq := P.step hb; have KEq := KE.step hb; have KFq := KF.step hb; clear HB SG P KE KF; have HB := HBq; have SG := SGq; have P := Pq; have KE := KEq; have KF := KFq; clear HBq SGq Pq KEq KFq; clear P1 P2 KE1 KF1; clear hb; obtain ⟨-, P1, P2⟩ := id P; obtain ⟨-, KE1⟩ := id KE; obtain ⟨-, KF1⟩ := id KF; obtain ⟨af, cf, rfl, -, -, hCf⟩ := hs.opened; obtain ⟨bf, of, rfl, hbf, df⟩ := hCf.at (Below.refl _ _) (i := b) (by rw [Dg.distL_len]; exact hb0); rw [Dg.distL_at hb0, HDD.out] at df; simp only [Dg.distL_len]; clear hs hCf hbf)
          go_simp
          refine hK.out _ _ ?_ (fun hHeld => ?_)
          · exact ⟨P1, P2, KE1, KF1⟩
          clear hK K
          try simp only [Act.put, List.getElem_toArray, List.getElem_cons_succ, List.getElem_cons_zero, List.setIfInBounds_toArray, List.set_cons_zero, List.set_cons_succ]
          refine wpAnyH_take (i := 18) (v := ?_) rfl (by kernel_rfl) (by kernel_rfl) (by kernel_rfl) (fun _ _ _ h => h) (Or.inl ⟨by rfl, ?_⟩) (by assumption) ?_
          rotate_left 1
          · (intro w hSw; (try dsimp only at hSw); go_simp; (try with_reducible rfl))
          try simp only [Act.put, List.getElem_toArray, List.getElem_cons_succ, List.getElem_cons_zero, List.setIfInBounds_toArray, List.set_cons_zero, List.set_cons_succ]
          refine wpAnyH_ready (rs := [19]) (by kernel_rfl) (by simp) ?_
          refine AllReadyH.cons rfl (fun K hK => ?_) AllReadyH.nil
          go_simp
          skip
          go_simp
          refine hK.out _ _ ?_ (fun hHeld => ?_)
          · exact ⟨P1, P2, KE1, KF1⟩
          clear hK K
          try simp only [Act.put, List.getElem_toArray, List.getElem_cons_succ, List.getElem_cons_zero, List.setIfInBounds_toArray, List.set_cons_zero, List.set_cons_succ]
          refine wpAnyH_take (i := 20) (v := ?_) rfl (by kernel_rfl) (by kernel_rfl) (by kernel_rfl) (fun _ _ _ h => h) (Or.inl ⟨by rfl, ?_⟩) (by assumption) ?_
          rotate_left 1
          · (intro w hSw; (try dsimp only at hSw); go_simp; (try with_reducible rfl))
          try simp only [Act.put, List.getElem_toArray, List.getElem_cons_succ, List.getElem_cons_zero, List.setIfInBounds_toArray, List.set_cons_zero, List.set_cons_succ]
          refine wpAnyH_take (i := 21) (v := ?_) rfl (by kernel_rfl) (by kernel_rfl) (by kernel_rfl) (fun _ _ _ h => h) (Or.inl ⟨by rfl, ?_⟩) (by assumption) ?_
          rotate_left 1
          · (intro w hSw; (try dsimp only at hSw); go_simp; (try with_reducible rfl))
          try simp only [Act.put, List.getElem_toArray, List.getElem_cons_succ, List.getElem_cons_zero, List.setIfInBounds_toArray, List.set_cons_zero, List.set_cons_succ]
          refine wpAnyH_done (by kernel_rfl) ?_ _
          refine NoPanic.normal ?_
          go_wp2
          go_ret
          exact ⟨ret_bool (by rw [HR.out]), below_nxt HL.out HB.out⟩
      · have d1 : ((y.1 : Int) == (a : Int)) = false := by simp; omega
        have HQ2 := Lib.hid (HQ.out (fun e => absurd e e1))
        clear e1 HQ
        go_wp2_with fail
        have HBq := Lib.hid (below_nxt HB.out (Below.refl wr.heap.size wr).drew)
        have SGq := Lib.hid (SG.out.step (Below.refl wr.heap.size wr).drew)
        have Pq := P.step (Below.refl wr.heap.size wr).drew
        have KEq := KE.step (Below.refl wr.heap.size wr).drew
        have KFq := KF.step (Below.refl wr.heap.size wr).drew
        clear HB SG P KE KF
        have HB := HBq
        have SG := SGq
        have P := Pq
        have KE := KEq
        have KF := KFq
        clear HBq SGq Pq KEq KFq
        clear P1 P2 KE1 KF1
        obtain ⟨-, P1, P2⟩ := id P
        obtain ⟨-, KE1⟩ := id KE
        obtain ⟨-, KF1⟩ := id KF
        refine wp_region_noPanic ?_
        refine wp_region_held_drew (S := (fun V => V.cell? ⟨w.heap.size, 0, none⟩ = some (.int .i64 m) ∧ V.cell? ⟨w.heap.size, 1, none⟩ = some (.slice (some ⟨g, off, none⟩) es.length cap) ∧ V.cell? ⟨g, off + i * 2, none⟩ = some (.int .i64 (y.1 : Int)) ∧ V.cell? ⟨g, off + i * 2 + 1, none⟩ = some (.int .i64 (y.2 : Int)))) (by kernel_rfl) ?_ (fun hHeld => ?_)
        · exact ⟨P1, P2, KE1, KF1⟩
        refine wpAnyH_take (i := 0) (v := ?_) rfl (by kernel_rfl) (by kernel_rfl) (by kernel_rfl) (fun _ _ _ h => h) (Or.inl ⟨by rfl, ?_⟩) (by assumption) ?_
        rotate_left 1
        · (intro w hSw; (try dsimp only at hSw); go_simp; (try with_reducible rfl))
        try simp only [Act.put, List.getElem_toArray, List.getElem_cons_succ, List.getElem_cons_zero, List.setIfInBounds_toArray, List.set_cons_zero, List.set_cons_succ]
        refine wpAnyH_take (i := 1) (v := ?_) rfl (by kernel_rfl) (by kernel_rfl) (by kernel_rfl) (fun _ _ _ h => h) (Or.inl ⟨by rfl, ?_⟩) (by assumption) ?_
        rotate_left 1
        · (intro w hSw; (try dsimp only at hSw); go_simp; (try with_reducible rfl))
        try simp only [Act.put, List.getElem_toArray, List.getElem_cons_succ, List.getElem_cons_zero, List.setIfInBounds_toArray, List.set_cons_zero, List.set_cons_succ]
        refine wpAnyH_take (i := 2) (v := ?_) rfl (by kernel_rfl) (by kernel_rfl) (by kernel_rfl) (fun _ _ _ h => h) (Or.inl ⟨by rfl, ?_⟩) (by assumption) ?_
        rotate_left 1
        · (intro w hSw; (try dsimp only at hSw); go_simp; (try with_reducible rfl))
        try simp only [Act.put, List.getElem_toArray, List.getElem_cons_succ, List.getElem_cons_zero, List.setIfInBounds_toArray, List.set_cons_zero, List.set_cons_succ]
        refine wpAnyH_take (i := 3) (v := ?_) rfl (by kernel_rfl) (by kernel_rfl) (by kernel_rfl) (fun _ _ _ h => h) (Or.inl ⟨by rfl, ?_⟩) (by assumption) ?_
        rotate_left 1
        · (intro w hSw; (try dsimp only at hSw); go_simp; (try with_reducible rfl))
        try simp only [Act.put, List.getElem_toArray, List.getElem_cons_succ, List.getElem_cons_zero, List.setIfInBounds_toArray, List.set_cons_zero, List.set_cons_succ]
        refine wpAnyH_take (i := 4) (v := ?_) rfl (by kernel_rfl) (by kernel_rfl) (by kernel_rfl) (fun _ _ _ h => h) (Or.inl ⟨by rfl, ?_⟩) (by assumption) ?_
        rotate_left 1
        · (intro w hSw; (try dsimp only at hSw); go_simp; (try with_reducible rfl))
        try simp only [Act.put, List.getElem_toArray, List.getElem_cons_succ, List.getElem_cons_zero, List.setIfInBounds_toArray, List.set_cons_zero, List.set_cons_succ]
        refine wpAnyH_take (i := 5) (v := ?_) rfl (by kernel_rfl) (by kernel_rfl) (by kernel_rfl) (fun _ _ _ h => h) (Or.inl ⟨by rfl, ?_⟩) (by assumption) ?_
        rotate_left 1
        · (intro w hSw; (try dsimp only at hSw); go_simp; (try with_reducible rfl))
        try simp only [Act.put, List.getElem_toArray, List.getElem_cons_succ, List.getElem_cons_zero, List.setIfInBounds_toArray, List.set_cons_zero, List.set_cons_succ]
        refine wpAnyH_take (i := 6) (v := ?_) rfl (by kernel_rfl) (by kernel_rfl) (by kernel_rfl) (fun _ _ _ h => h) (Or.inl ⟨by rfl, ?_⟩) (by assumption) ?_
        rotate_left 1
        · (intro w hSw; (try dsimp only at hSw); go_simp; (try with_reducible rfl))
        try simp only [Act.put, List.getElem_toArray, List.getElem_cons_succ, List.getElem_cons_zero, List.setIfInBounds_toArray, List.set_cons_zero, List.set_cons_succ]
        refine wpAnyH_take (i := 7) (v := ?_) rfl (by kernel_rfl) (by kernel_rfl) (by kernel_rfl) (fun _ _ _ h => h) (Or.inl ⟨by rfl, ?_⟩) (by assumption) ?_
        rotate_left 1
        · (intro w hSw; (try dsimp only at hSw); go_simp; (try with_reducible rfl))
        try simp only [Act.put, List.getElem_toArray, List.getElem_cons_succ, List.getElem_cons_zero, List.setIfInBounds_toArray, List.set_cons_zero, List.set_cons_succ]
        refine wpAnyH_take (i := 8) (v := ?_) rfl (by kernel_rfl) (by kernel_rfl) (by kernel_rfl) (fun _ _ _ h => h) (Or.inl ⟨by rfl, ?_⟩) (by assumption) ?_
        rotate_left 1
        · (intro w hSw; (try dsimp only at hSw); go_simp; (try with_reducible rfl))
        try simp only [Act.put, List.getElem_toArray, List.getElem_cons_succ, List.getElem_cons_zero, List.setIfInBounds_toArray, List.set_cons_zero, List.set_cons_succ]
        refine wpAnyH_take (i := 9) (v := undef) rfl (by kernel_rfl) (by kernel_rfl) (by kernel_rfl) (fun _ _ _ h => h) (Or.inr ⟨by rfl, rfl⟩) (by assumption) ?_
        try simp only [Act.put, List.getElem_toArray, List.getElem_cons_succ, List.getElem_cons_zero, List.setIfInBounds_toArray, List.set_cons_zero, List.set_cons_succ]
        refine wpAnyH_take (i := 10) (v := undef) rfl (by kernel_rfl) (by kernel_rfl) (by kernel_rfl) (fun _ _ _ h => h) (Or.inr ⟨by rfl, rfl⟩) (by assumption) ?_
        try simp only [Act.put, List.getElem_toArray, List.getElem_cons_succ, List.getElem_cons_zero, List.setIfInBounds_toArray, List.set_cons_zero, List.set_cons_succ]
        refine wpAnyH_take (i := 11) (v := undef) rfl (by kernel_rfl) (by kernel_rfl) (by kernel_rfl) (fun _ _ _ h => h) (Or.inr ⟨by rfl, rfl⟩) (by assumption) ?_
        try simp only [Act.put, List.getElem_toArray, List.getElem_cons_succ, List.getElem_cons_zero, List.setIfInBounds_toArray, List.set_cons_zero, List.set_cons_succ]
        refine wpAnyH_take (i := 12) (v := undef) rfl (by kernel_rfl) (by kernel_rfl) (by kernel_rfl) (fun _ _ _ h => h) (Or.inr ⟨by rfl, rfl⟩) (by assumption) ?_
        try simp only [Act.put, List.getElem_toArray, List.getElem_cons_succ, List.getElem_cons_zero, List.setIfInBounds_toArray, List.set_cons_zero, List.set_cons_succ]
        refine wpAnyH_take (i := 13) (v := undef) rfl (by kernel_rfl) (by kernel_rfl) (by kernel_rfl) (fun _ _ _ h => h) (Or.inr ⟨by rfl, rfl⟩) (by assumption) ?_
        try simp only [Act.put, List.getElem_toArray, List.getElem_cons_succ, List.getElem_cons_zero, List.setIfInBounds_toArray, List.set_cons_zero, List.set_cons_succ]
        refine wpAnyH_take (i := 14) (v := undef) rfl (by kernel_rfl) (by kernel_rfl) (by kernel_rfl) (fun _ _ _ h => h) (Or.inr ⟨by rfl, rfl⟩) (by assumption) ?_
        try simp only [Act.put, List.getElem_toArray, List.getElem_cons_succ, List.getElem_cons_zero, List.setIfInBounds_toArray, List.set_cons_zero, List.set_cons_succ]
        refine wpAnyH_take (i := 15) (v := undef) rfl (by kernel_rfl) (by kernel_rfl) (by kernel_rfl) (fun _ _ _ h => h) (Or.inr ⟨by rfl, rfl⟩) (by assumption) ?_
        try simp only [Act.put, List.getElem_toArray, List.getElem_cons_succ, List.getElem_cons_zero, List.setIfInBounds_toArray, List.set_cons_zero, List.set_cons_succ]
        refine wpAnyH_take (i := 16) (v := undef) rfl (by kernel_rfl) (by kernel_rfl) (by kernel_rfl) (fun _ _ _ h => h) (Or.inr ⟨by rfl, rfl⟩) (by assumption) ?_
        try simp only [Act.put, List.getElem_toArray, List.getElem_cons_succ, List.getElem_cons_zero, List.setIfInBounds_toArray, List.set_cons_zero, List.set_cons_succ]
        refine wpAnyH_take (i := 17) (v := undef) rfl (by kernel_rfl) (by kernel_rfl) (by kernel_rfl) (fun _ _ _ h => h) (Or.inr ⟨by rfl, rfl⟩) (by assumption) ?_
        try simp only [Act.put, List.getElem_toArray, List.getElem_cons_succ, List.getElem_cons_zero, List.setIfInBounds_toArray, List.set_cons_zero, List.set_cons_succ]
        refine wpAnyH_take (i := 18) (v := undef) rfl (by kernel_rfl) (by kernel_rfl) (by kernel_rfl) (fun _ _ _ h => h) (Or.inr ⟨by rfl, rfl⟩) (by assumption) ?_
        try simp only [Act.put, List.getElem_toArray, List.getElem_cons_succ, List.getElem_cons_zero, List.setIfInBounds_toArray, List.set_cons_zero, List.set_cons_succ]
        refine wpAnyH_take (i := 19) (v := undef) rfl (by kernel_rfl) (by kernel_rfl) (by kernel_rfl) (fun _ _ _ h => h) (Or.inr ⟨by rfl, rfl⟩) (by assumption) ?_
        try simp only [Act.put, List.getElem_toArray, List.getElem_cons_succ, List.getElem_cons_zero, List.setIfInBounds_toArray, List.set_cons_zero, List.set_cons_succ]
        refine wpAnyH_take (i := 20) (v := undef) rfl (by kernel_rfl) (by kernel_rfl) (by kernel_rfl) (fun _ _ _ h => h) (Or.inr ⟨by rfl, rfl⟩) (by assumption) ?_
        try simp only [Act.put, List.getElem_toArray, List.getElem_cons_succ, List.getElem_cons_zero, List.setIfInBounds_toArray, List.set_cons_zero, List.set_cons_succ]
        refine wpAnyH_take (i := 21) (v := ?_) rfl (by kernel_rfl) (by kernel_rfl) (by kernel_rfl) (fun _ _ _ h => h) (Or.inl ⟨by rfl, ?_⟩) (by assumption) ?_
        rotate_left 1
        · (intro w hSw; (try dsimp only at hSw); go_simp; (try with_reducible rfl))
        try simp only [Act.put, List.getElem_toArray, List.getElem_cons_succ, List.getElem_cons_zero, List.setIfInBounds_toArray, List.set_cons_zero, List.set_cons_succ]
        refine wpAnyH_done (by kernel_rfl) ?_ _
        refine NoPanic.normal ?_
        go_wp2
        exact ⟨⟨i + 1, by omega, by first | rfl | go_num, HB, HQ2⟩, by simp [intOf]; omega⟩
    · obtain rfl : i = es.length := by omega
      have HR : Hid (d = false) := Lib.hid (by
        cases hdd : d
        · rfl
        · obtain ⟨u, hu, h0⟩ := HD.out.1 hdd
          obtain ⟨j, hj, e⟩ := Dg.mem_getD (0, 0) hu
          have := HN.out j hj (by rw [e])
          rw [e] at this
          simp only at this
          omega)
      go_wp2
      go_ret
      exact ⟨ret_bool (by rw [HR.out]), HBw.out⟩

set_option maxHeartbeats 4000000 in
set_option maxRecDepth 100000 in
theorem rLooped_ok (m : Nat) (es : List (Nat × Nat)) (v : Value) (w : World) (hE : Dg.Ok m es) (hm : m ≤ 256) (hle : es.length ≤ 4096) (hv : SeesE w v (Dg.cst es)) :
    Calls Try.prog 54 #[.agg #[.int .i64 m, v]] w fun e w' => ∃ r : Int, e = .returned (.int .i64 r) ∧ ((r = -1 ∧ ∀ y, y < m → Dg.onC m es y = false) ∨ ∃ x : Nat, r = x ∧ x < m ∧ Dg.onC m es x = true ∧ ∀ y, y < x → Dg.onC m es y = false) ∧ Below w.heap.size w w' := by
  have SG := Lib.hid hv
  obtain ⟨ao, cap, rfl⟩ := hv.slice
  rw [Dg.cst_len] at *
  obtain ⟨P, L0, z0⟩ := gph_new w m (.slice ao es.length cap) 24
  generalize hX : w.alloc (.cells #[.int .i64 m, .slice ao es.length cap] 24) = X at *
  obtain ⟨-, p1, p2⟩ := id P
  have HL := Lib.hid L0
  have SX := Lib.hid (SG.out.step L0)
  have HE := Lib.hid hE
  have HC := Lib.hid (fun x (hx : x < m) => show Dg.onC m es x = true ↔ ∃ u, (x, u) ∈ es ∧ 0 ≤ Dg.dist m es u x from (Dg.onC_iff hE hx).trans ⟨fun ⟨u, h1, h2⟩ => ⟨u, h1, (Dg.dist_rch hE (hE _ h1).2).2 h2⟩, fun ⟨u, h1, h2⟩ => ⟨u, h1, (Dg.dist_rch hE (hE _ h1).2).1 h2⟩⟩)
  clear SG hv L0 z0 hE
  go_enter Try.func54, Try.ntmps54
  go_wp2
  go_loopw [3] (fun s3 wr => ∃ i : Nat, i ≤ m ∧ s3 = .int .i64 i ∧ Hid (Below X.heap.size X wr) ∧ Hid (∀ y, y < i → Dg.onC m es y = false)) (fun s3 _ => m - (intOf s3).toNat)
  case atStart => exact ⟨0, Nat.zero_le _, rfl, Lib.hid (Below.refl _ _), Lib.hid (fun j h => by omega)⟩
  case round =>
    obtain ⟨i, hi, rfl, HB, HN⟩ := hrel
    have HBw := Lib.hid (below_nxt HL.out HB.out)
    obtain ⟨-, g1, g2⟩ := P.step HB.out
    clear p1 p2
    by_cases him : i < m
    · have CL := Lib.hid (rLeads_ok m es i i _ wr (Dg.onC m es i) HE.out hm hle him (HC.out i him) (SX.out.step HB.out))
      have HQ : Hid (Dg.onC m es i = false → ∀ y, y < i + 1 → Dg.onC m es y = false) := Lib.hid (fun h y hy => by
        by_cases e : y = i
        · rw [e]; exact h
        · exact HN.out y (by omega))
      cases hoc : Dg.onC m es i
      · rw [hoc] at CL
        have HQ2 := Lib.hid (HQ.out hoc)
        clear hoc HQ HN HC
        go_wp2_with fail
        refine CL.out.mono ?_
        rintro e w2 ⟨rfl, hb⟩
        have HB2 := Lib.hid (below_nxt HB.out hb)
        clear hb
        go_wp2
        exact ⟨⟨i + 1, by omega, by first | rfl | go_num, HB2, HQ2⟩, by simp [intOf]; omega⟩
      · rw [hoc] at CL
        have HO := Lib.hid hoc
        clear hoc HQ HC
        go_wp2_with fail
        refine CL.out.mono ?_
        rintro e w2 ⟨rfl, hb⟩
        have HB2 := Lib.hid (below_nxt HBw.out hb)
        clear hb
        go_wp2
        go_ret
        exact ⟨_, rfl, .inr ⟨i, rfl, him, HO.out, HN.out⟩, HB2.out⟩
    · obtain rfl : i = m := by omega
      clear HC
      go_wp2
      go_ret
      exact ⟨_, rfl, .inl ⟨rfl, HN.out⟩, HBw.out⟩
end Go.Proofs.Ytkjhockppkdakaa
