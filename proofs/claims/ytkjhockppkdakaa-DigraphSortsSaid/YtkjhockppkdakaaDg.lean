/- neighbours of package digraph. -/
import Derived.Test.YtkjhockppkdakaaDf
import Derived.Test.YtkjhockppkdakaaShelf
import Derived.Lib.OwnBridge
namespace Go.Proofs.Ytkjhockppkdakaa
open Go.RowKit Go.Shelf

theorem below_grow (w : World) (os : Array Obj) : Below w.heap.size w (Sort.grow w os) :=
  ⟨rfl, rfl, rfl, by simp [Sort.grow], fun k hk => by simp [Sort.grow, Array.getElem?_append, hk]⟩
/-- slices.Sort of a row of the call's own. -/
theorem sSortI_any (B : Nat) (v : Value) (l : List Int) (w : World) (hl : l.length ≤ 1048576) (h : RowI B 3 w v l) :
    Calls Try.prog 68 #[v] w fun e w' => e = .returned (.tuple #[]) ∧ w.grownBy w' v.ownBlock ∧ RowI B 3 w' v (l.mergeSort fun x y => decide (x ≤ y)) := by
  by_cases hv : v = .slice none 0 0
  · subst hv
    have h0 : l = [] := by
      rcases h.2 with ⟨_, h0⟩ | ⟨g, cap, cur, h0, _⟩
      · exact List.eq_nil_of_length_eq_zero h0
      · cases h0
    subst h0
    refine (Try.slices_Sort_int_none none 0 w).mono ?_
    rintro e w' ⟨rfl, rfl⟩
    exact ⟨rfl, ⟨rfl, rfl, rfl, Nat.le_refl _, fun _ _ _ => rfl⟩, by rw [List.mergeSort_nil]; exact RowI.nil _ _ _⟩
  · have h' : w.ownsRow B 3 1 v l.length (l.map (Value.int .i64)) := h
    obtain ⟨g, cap, rfl, h1, h2, h3, h4, h5, h6⟩ := Lib.holds_of_ownsRow h' hv
    refine (Try.slices_Sort_int g 0 cap l w h6 h2 (by omega)).mono ?_
    rintro e w' ⟨rfl, q, os, rfl⟩
    have hp := Lib.ownsRow_putRow (q := q) (k := l.length) (ys := l.mergeSort fun x y => decide (x ≤ y)) h' (by rw [List.length_mergeSort]) (Nat.le_refl _)
    have hr : RowI B 3 (Sort.putRow (Value.int .i64) (Sort.ahead w q) g 0 (l.mergeSort fun x y => decide (x ≤ y)).toArray) (.slice (some ⟨g, 0, none⟩) l.length cap) (l.mergeSort fun x y => decide (x ≤ y)) := by
      have e1 : (l.mergeSort fun x y => decide (x ≤ y)).take l.length = l.mergeSort fun x y => decide (x ≤ y) := List.take_of_length_le (by rw [List.length_mergeSort]; exact Nat.le_refl _)
      rw [e1] at hp
      unfold RowI
      rw [List.length_mergeSort]
      exact hp
    refine ⟨rfl, ?_, hr.step (below_grow _ _)⟩
    refine grown_trans (w1 := Sort.putRow (Value.int .i64) (Sort.ahead w q) g 0 (l.mergeSort fun x y => decide (x ≤ y)).toArray) ⟨rfl, rfl, rfl, by simp [Sort.putRow, Sort.mapBlock, Sort.ahead], fun k hk hne => ?_⟩ (grown_below (below_grow _ _))
    have : g ≠ k := fun e => hne (by rw [e]; rfl)
    simp [Sort.putRow, Sort.mapBlock, Sort.ahead, Array.getElem?_modify, this]

set_option maxHeartbeats 4000000 in
set_option maxRecDepth 100000 in
theorem dNb_any (n : Nat) (v : Value) (es : List (Nat × Nat)) (w : World) (hn : n ≤ 256) (hlen : es.length ≤ 4096) (ho : Dg.Ok n es) (hs : SeesE w v (Dg.cst es)) :
    Calls Try.prog 47 #[.agg #[.int .i64 n, v]] w fun e w' => ∃ u, e = .returned u ∧ SeesL w' u (Dg.nbL n es) ∧ Below w.heap.size w w' := by
  obtain ⟨i0, hi0, hz0, hz1, hz2⟩ := info_int
  obtain ⟨ao, cap, rfl, hcap1, hcap2, hC⟩ := hs
  rw [Dg.cst_len] at hcap1
  have HC := Lib.hid hC
  have HO := Lib.hid (fun i (hi : i < es.length) => ho _ (Dg.getD_mem (d := (0, 0)) hi))
  have HA := Lib.hid (fun i (hi : i < es.length) => show Dg.adjL n (es.take (i + 1)) = (Dg.adjL n (es.take i)).set (es.getD i (0, 0)).1 (Dg.ci (Dg.adj (es.take i) (es.getD i (0, 0)).1) ++ [((es.getD i (0, 0)).2 : Int)]) by
    rw [Dg.take_at (0, 0) hi, Dg.adjL_snoc (ho _ (Dg.getD_mem (d := (0, 0)) hi)).1])
  have HAL := Lib.hid (fun i v => show (Dg.adj (es.take i) v).length ≤ 4096 from Nat.le_trans (Dg.adj_len _ _) (by rw [List.length_take]; omega))
  have hmk := run_make_row' (P := Try.prog) 47 27 (.slice none 0 0) 24 Try.underlying47 (by kernel_rfl) rfl .i64 .i64 n (by omega) (by omega)
  obtain ⟨P0, L0, z0⟩ := gph_new w n (.slice ao es.length cap) 24
  have N0 := NbrI.new (w.alloc (.cells #[.int .i64 n, .slice ao es.length cap] 24)) n 27 3
  have HL := Lib.hid (L0.alloc L0.size (.cells (madeCells #[.slice none 0 0] n) 27))
  have hlc := Dg.cst_len es
  rw [z0] at N0
  go_enter Try.func47, Try.ntmps47
  rw [hlc]
  go_wp2
  go_loopw [14] (fun s14 wr => ∃ i : Nat, i ≤ es.length ∧ s14 = .int .i64 i ∧ (∃ us, NbrI 3 wr (w.heap.size + 1) us (Dg.adjL n (es.take i))) ∧ Hid (Below w.heap.size w wr)) (fun s14 _ => es.length - (intOf s14).toNat)
  case atStart => exact ⟨0, Nat.zero_le _, rfl, ⟨_, by simpa [Dg.adjL, Dg.adj, Dg.ci, List.map_const'] using N0⟩, HL⟩
  case round =>
    clear N0 hmk
    obtain ⟨i, hi, rfl, ⟨us, hN⟩, HB⟩ := hrel
    by_cases hil : i < es.length
    · obtain ⟨g, off, rfl, hg, c1, c2⟩ := HC.out.at HB.out (i := i) (by rw [Dg.cst_len]; exact hil)
      rw [Dg.cst_at] at c1 c2
      obtain ⟨ho1, ho2⟩ := HO.out i hil
      have HAi := Lib.hid (HA.out i hil)
      have hal := HAL.out i (es.getD i (0, 0)).1
      have hLn := Dg.adjL_len n (es.take i)
      have hLa := Dg.adjL_at (es.take i) ho1
      clear HA HAL
      generalize es.getD i (0, 0) = y at *
      have BX := fun (W : World) (o : Obj) => (Below.refl W.heap.size W).alloc (Nat.le_refl _) o
      obtain ⟨PE, LE, zE⟩ := edg_new wr (y.1 : Int) (y.2 : Int) 60
      generalize hX : wr.alloc (.cells #[.int .i64 (y.1 : Int), .int .i64 (y.2 : Int)] 60) = X at *
      have hne : some wr.heap.size ≠ (us.getD y.1 (.slice none 0 0)).ownBlock := fun e => by
        have := (World.ownsRow.lt (hN.row y.1 (by rw [hLn]; exact ho1)) _ e.symm).2
        omega
      have hNX := hN.below LE
      have HBX := Lib.hid (below_nxt HB.out LE)
      have HNX := Lib.hid hNX
      have k1 := hNX.cell y.1 (by rw [hLn]; exact ho1)
      have k2 := hNX.free y.1 (by rw [hLn]; exact ho1)
      have k3 : ∀ o, (X.alloc o).cell? ⟨w.heap.size + 1, y.1, none⟩ = some (us.getD y.1 (.slice none 0 0)) := fun o => ((BX X o).cell (p := ⟨w.heap.size + 1, y.1, none⟩) hNX.lt).trans k1
      have HR := Lib.hid (hNX.row y.1 (by rw [hLn]; exact ho1))
      rw [hLa] at HR
      obtain ⟨e0, e1, e2⟩ := id PE
      have kN := hNX.lt
      clear hN hNX LE PE
      generalize hu : us.getD y.1 (.slice none 0 0) = u at *
      go_wp2
      go_region_law (refine step_append_int rfl (.tmp 25) (.tmp 28) 27 rfl 3 i0 Try.underlying27 hi0 hz0 hz1 hz2 u (Dg.ci (Dg.adj (es.take i) y.1)) (y.2 : Int) X.heap.size (by simp [Act.eval]) (by simp [Act.eval]) (w.heap.size + 1 + 1) (((HR.out.step (BX _ _)).step ((Below.refl _ _).drew))) (by simp) (by rw [Dg.ci_len]; omega) (by simp; omega) ?_; intro a5 p5 w5 hr5 hg5 ho5; have hb5 := RowI.belowOwn (C := w.heap.size + 1 + 1) ((HR.out.step (BX _ _)).step ((Below.refl _ _).drew)) hg5 (by simp; omega) (Nat.le_refl _); have hbX : Below (w.heap.size + 1 + 1) X w5 := (((BX X (.cells #[.int .i64 (y.2 : Int)] 3)).drew).mono kN).trans hb5; have q1 := (hbX.cell (p := ⟨w.heap.size + 1, y.1, none⟩) (Nat.lt_succ_self _)).trans k1; have q2 := (hbX.frozen (p := ⟨w.heap.size + 1, y.1, none⟩) (Nat.lt_succ_self _)).trans k2; have HGX := Lib.hid (grown_trans (grown_below ((BX X (.cells #[.int .i64 (y.2 : Int)] 3)).drew)) hg5); have e3 := HGX.out.cell e1 hne; have e4 := HGX.out.cell e2 hne; have HR5 := Lib.hid hr5; have HO5 := Lib.hid ho5; have HB5 := Lib.hid (HBX.out.trans (hbX.mono (by omega))); clear hb5 hbX hr5 hg5 ho5)
      all_goals
        go_wp2
        exact ⟨⟨i + 1, by omega, rfl, ⟨_, by rw [HAi.out]; exact HNX.out.put (by rw [hLn]; exact ho1) (by rw [hu]; exact HGX.out) HR5.out (by rw [hu]; exact HO5.out.imp id (fun ⟨g, h1, h2⟩ => ⟨g, h1, Nat.le_trans (by simp) h2⟩))⟩, Lib.hid (HB5.out.setCell (by simp) _)⟩, by simp [intOf]; omega⟩
    · obtain rfl : i = es.length := by omega
      rw [List.take_length, ← Dg.mixL_zero] at hN
      go_wp2
      have HSC := Lib.hid (fun j (hj : j < n) => Dg.mixL_succ es hj)
      have HAL2 := Lib.hid (fun v => show (Dg.adj es v).length ≤ 4096 from Nat.le_trans (Dg.adj_len _ _) hlen)
      obtain ⟨wo, rfl⟩ : ∃ wo, wo = wr := ⟨_, rfl⟩
      go_loopw [34] (fun s34 wr => ∃ j : Nat, j ≤ n ∧ s34 = .int .i64 j ∧ (∃ us, NbrI 3 wr (w.heap.size + 1) us (Dg.mixL n es j)) ∧ Hid (Below w.heap.size w wr)) (fun s34 _ => n - (intOf s34).toNat)
      case atStart => exact ⟨0, Nat.zero_le _, rfl, ⟨us, hN⟩, HB⟩
      case round =>
        clear hN us HB
        obtain ⟨j, hj, rfl, ⟨us, hN⟩, HB⟩ := hrel
        by_cases hjn : j < n
        · have hLn := Dg.mixL_len n es j
          have hLa := Dg.mixL_at (n := n) (v := j) es j hjn
          rw [if_neg (Nat.lt_irrefl j)] at hLa
          have k1 := hN.cell j (by rw [hLn]; exact hjn)
          have hR := hN.row j (by rw [hLn]; exact hjn)
          rw [hLa] at hR
          have CS := Lib.hid (sSortI_any (w.heap.size + 1 + 1) _ _ wr (by rw [Dg.ci_len]; have := HAL2.out j; omega) hR)
          have HSj := Lib.hid (HSC.out j hjn)
          have HN := Lib.hid hN
          have HB0 := Lib.hid (fun W (hg : wr.grownBy W (us.getD j (.slice none 0 0)).ownBlock) => hR.belowOwn (C := w.heap.size) hg HB.out.size (by omega))
          clear hN hR HSC HAL2 HA HAL HO
          generalize hu : us.getD j (.slice none 0 0) = u at *
          go_wp2_with (go_at_call 68; (with_reducible refine (CS.out).mono ?_); rintro e w5 ⟨rfl, hg5, hr5⟩; have HG5 := Lib.hid hg5; have HR5 := Lib.hid hr5; clear hg5 hr5)
          exact ⟨⟨j + 1, by omega, rfl, ⟨us, by rw [HSj.out]; exact HN.out.turn (by rw [hLn]; exact hjn) (by rw [hu]; exact HG5.out) (by rw [hu]; exact HR5.out)⟩, Lib.hid (HB.out.trans (HB0.out _ HG5.out))⟩, by simp [intOf]; omega⟩
        · obtain rfl : j = n := by omega
          rw [Dg.mixL_all] at hN
          have hSE := hN.sees (cap := j) (by rw [Dg.nbL_len]; exact Nat.le_refl _) (by omega)
          rw [Dg.nbL_len] at hSE
          go_wp2
          exact bodyPost_ret (v := .slice (some ⟨w.heap.size + 1, 0, none⟩) j j) (by simp [results, Try.results47, go_sem]) rfl ⟨_, rfl, hSE, HB.out⟩
end Go.Proofs.Ytkjhockppkdakaa
