/- copied of the reference. -/
import Derived.Test.YtkemicfaiipidaaBq
namespace Go.Proofs.Ytkemicfaiipidaa
open Go.RowKit

def heapNew (w : World) (q : Nat) (T : TypeId) : Prop := w.heap[q]? = some (.cells #[] T (0, 0))
theorem SeesR.row {w wr : World} {ao : Option Addr} {cap : Nat} {R : List (List Int)} (h : SeesR w (.slice ao R.length cap) R) (hb : Below w.heap.size w wr) {i : Nat} (hi : i < R.length) (h0 : 0 < (R.getD i []).length) :
    ∃ b off d o2 cr, ao = some ⟨b, off, none⟩ ∧ b < w.heap.size ∧ d < w.heap.size ∧ wr.cell? ⟨b, off + i, none⟩ = some (.slice (some ⟨d, o2, none⟩) (R.getD i []).length cr) ∧ ∀ j, j < (R.getD i []).length → wr.cell? ⟨d, o2 + j, none⟩ = some (.int .i64 ((R.getD i []).getD j 0)) := by
  obtain ⟨b, off, cap', ar, cr, hv, h2, h3, _, _, h4⟩ := h.at hb hi
  simp only [Value.slice.injEq] at hv
  obtain ⟨rfl, _, _⟩ := hv
  obtain ⟨d, o2, rfl, h5, h6⟩ := h4 h0
  exact ⟨b, off, d, o2, cr, rfl, h2, h5, h3, fun j hj => (hb.cell (p := ⟨d, o2 + j, none⟩) h5).trans (h6 j hj)⟩

set_option maxHeartbeats 4000000 in
set_option maxRecDepth 100000 in
theorem rCopied_any (N : Nat) (v : Value) (R : List (List Int)) (w : World) (hN : N ≤ 12) (hS : Bn.Shp N R) (hs : SeesR w v R) :
    Calls Try.prog 67 #[.agg #[.int .i64 (N : Int), v]] w fun e w' => ∃ v, e = .returned v ∧ OwnB w.heap.size w' v N (Bn.mx R) ∧ Below w.heap.size w w' := by
  obtain ⟨i0, hi0, hz0, hz1, hz2⟩ := info_int
  obtain ⟨i1, hi1, hy0, hy1, hy2⟩ := info_row
  have HS := Lib.hid hs
  have HSh := Lib.hid hS
  obtain ⟨ao, cap, rfl, hcap1, hcap2, -⟩ := hs
  have hl := hS.1
  clear hS
  generalize hK : R.length = K at *
  subst hl
  clear hK
  have HX : ∃ X, X = (((w.alloc (.cells #[.int .i64 (N : Int), .slice ao (N + 1) cap] 24)).alloc (.cells #[.int .i64 0, .slice none 0 0] 24)).alloc (.cells #[.int .i64 (N : Int), .slice none 0 0] 24)) ∧ BoxB X w.heap.size N (.slice ao (N + 1) cap) ∧ Hid (ResI X (w.heap.size + 1) 0 (.slice none 0 0) ∧ ResI X (w.heap.size + 1 + 1) N (.slice none 0 0) ∧ Below w.heap.size w X ∧ w.heap.size + 1 + 1 + 1 ≤ X.heap.size) := by
    refine ⟨_, rfl, ?_⟩
    obtain ⟨B0, L0⟩ := boxB_new w (N : Int) (.slice ao (N + 1) cap) 24
    have e0 : (w.alloc (.cells #[.int .i64 (N : Int), .slice ao (N + 1) cap] 24)).heap.size = w.heap.size + 1 := by simp
    generalize w.alloc (.cells #[.int .i64 (N : Int), .slice ao (N + 1) cap] 24) = Y at *
    have R1 := resI_new Y 0 (.slice none 0 0) 24
    have L1 : Below Y.heap.size Y (Y.alloc (.cells #[.int .i64 0, .slice none 0 0] 24)) := (Below.refl _ _).alloc (Nat.le_refl _) _
    have e1 : (Y.alloc (.cells #[.int .i64 0, .slice none 0 0] 24)).heap.size = w.heap.size + 1 + 1 := by simp [e0]
    rw [e0] at R1
    have B1 := B0.step L1
    have L01 := below_nxt L0 L1
    generalize Y.alloc (.cells #[.int .i64 0, .slice none 0 0] 24) = Z at *
    have R2 := resI_new Z (N : Int) (.slice none 0 0) 24
    have L2 : Below Z.heap.size Z (Z.alloc (.cells #[.int .i64 (N : Int), .slice none 0 0] 24)) := (Below.refl _ _).alloc (Nat.le_refl _) _
    rw [e1] at R2
    exact ⟨B1.step L2, Lib.hid ⟨R1.step L2, R2, below_nxt L01 L2, by simp [e1]⟩⟩
  obtain ⟨X, hX, HBX, HX⟩ := HX
  have HBX := Lib.hid HBX
  go_enter Try.func67, Try.ntmps67
  go_wp2
  rw [← hX]
  clear hX
  go_loopw [4] (fun s4 wr => ∃ (i : Nat) (v : Value) (f c : Nat → Nat) (m : Bn.Mx), i ≤ N + 1 ∧ s4 = .int .i64 (i : Int) ∧ Hid (Gro 42 (w.heap.size + 1 + 1 + 1) wr v (N + 1) i f c m) ∧ Hid (∀ a b, a < i → b < N + 1 → m a b = Bn.mx R a b) ∧ BoxB wr w.heap.size N (.slice ao (N + 1) cap) ∧ Hid (ResI wr (w.heap.size + 1 + 1) N v) ∧ Hid (ResI wr (w.heap.size + 1) 0 (.slice none 0 0)) ∧ Hid (Below w.heap.size w wr) ∧ Hid (w.heap.size + 1 + 1 + 1 ≤ wr.heap.size)) (fun s4 _ => N + 1 - (intOf s4).toNat)
  case atStart => exact ⟨0, _, (fun _ => 0), (fun _ => 0), Bn.zer, Nat.zero_le _, rfl, Lib.hid (Gro.nil _ _ _ _ _ _ _), Lib.hid (fun a b h => by omega), HBX.out, Lib.hid HX.out.2.1, Lib.hid HX.out.1, Lib.hid HX.out.2.2.1, Lib.hid HX.out.2.2.2⟩
  case round =>
    clear HX HBX
    obtain ⟨i, v, f, c, m, hi, rfl, HG, HV, hBx, HO, HR, HB, HSz⟩ := hrel
    have HBx := Lib.hid hBx
    obtain ⟨x0, x1, x2⟩ := hBx
    by_cases hil : i < N + 1
    · obtain ⟨o0, o1, o2, o3, o4⟩ := HO.out
      obtain ⟨b, off, d, o, cr, rfl, hb, hd, c1, c2⟩ := (show SeesR w (.slice ao R.length cap) R by rw [HSh.out.1]; exact HS.out).row HB.out (i := i) (by rw [HSh.out.1]; exact hil) (by rw [HSh.out.2 i (by omega)]; omega)
      have hrl := HSh.out.2 i (by omega)
      rw [hrl] at c1 c2
      have HRL := Lib.hid hrl
      have HC2 := Lib.hid c2
      have HM := Lib.hid (fun a b (ha : a < i + 1) (hb : b < N + 1) => show Bn.rowS m i (R.getD i []) a b = Bn.mx R a b by
        unfold Bn.rowS
        by_cases e : a = i
        · rw [if_pos e, e]; rfl
        · rw [if_neg e]; exact HV.out a b (by omega) hb)
      clear hrl c2
      generalize R.getD i [] = l at *
      have hbw : b < wr.heap.size := Nat.lt_of_lt_of_le hb HB.out.size
      have hq0 : heapNew (wr.alloc (.cells #[] 3)) wr.heap.size 3 := heap_alloc_new wr _
      have HQ0 := Lib.hid hq0
      have BX := fun (W : World) (o : Obj) => (Below.refl W.heap.size W).alloc (Nat.le_refl _) o
      have HCA := Lib.hid (fun j (hj : j < l.length) => show (wr.alloc (.cells #[] 3)).drew.cell? ⟨d, o + j, none⟩ = some (.int .i64 (l.getD j 0)) from ((BX wr _).cell (p := ⟨d, o + j, none⟩) (Nat.lt_of_lt_of_le hd HB.out.size)).trans (HC2.out j (by rw [← HRL.out]; exact hj)))
      have hsz := HSz.out
      have hvg := HG.out.lt
      have HVG := Lib.hid hvg
      have HFB := Lib.hid (fun q (hq : q < i) => (HG.out.blk q hq).1)
      have HG1 := Lib.hid (HG.out.step (BX wr (.cells #[] 3)).drew)
      clear hq0 hvg BX
      have HCA2 := Lib.hid (fun j (hj : j < N + 1) => HCA.out j (by rw [HRL.out]; exact hj))
      have HB1 := Lib.hid (HB.out.alloc HB.out.size (.cells #[] 3)).drew
      have HO1 := Lib.hid (HO.out.step ((Below.refl _ _).alloc (Nat.le_refl _) (.cells #[] 3)).drew)
      have HR1 := Lib.hid (HR.out.step ((Below.refl _ _).alloc (Nat.le_refl _) (.cells #[] 3)).drew)
      have HBx1 := Lib.hid (HBx.out.step ((Below.refl _ _).alloc (Nat.le_refl _) (.cells #[] 3)).drew)
      have c0 : w.cell? ⟨b, off + i, none⟩ = some (.slice (some ⟨d, o, none⟩) (N + 1) cr) := ((HB.out.cell (p := ⟨b, off + i, none⟩) hb).symm.trans c1)
      clear HCA HC2 HV HS HSh
      go_wp2
      go_region_law
        (first
          | (refine step_append_new rfl (.tmp 17) (.tmp 22) 42 rfl 3 i0 Try.underlying42 hi0 hz0 hz1 hz2 wr.heap.size d o cr (N + 1) l HRL.out (by simp [Act.eval]) (by simp [Act.eval]) (w.heap.size + 1 + 1 + 1) hsz #[] rfl HQ0.out HCA2.out (by omega) (by omega) (by simp; omega) ?_; intro g y w5 hr5 hg5 hgb5; have hgw : wr.heap.size ≤ g := (by simp at hg5; omega); have hz5 := hgb5.size; have G5 := Lib.hid (HG1.out.kept hgb5 (by cases hv : v.ownBlock with | none => left; rfl | some z => (right; have := (HVG.out z hv).2; simp; omega)) (fun z hz => by have := HFB.out z hz; simp; omega)); have O5 := Lib.hid (HO1.out.grown hgb5 (by omega)); have R5 := Lib.hid (HR1.out.grown hgb5 (by omega)); have Bx5 := Lib.hid (HBx1.out.grown hgb5 (by omega)); have B5 := Lib.hid (HB1.out.trans (below_grown hgb5 HB1.out.size (by omega))); have F5 : Hid (∀ z, z < i → f z ≠ g) := Lib.hid (fun z hz => by have := HFB.out z hz; omega); have V5 : Hid (v.ownBlock ≠ some g) := Lib.hid (fun e => by have := (HVG.out g e).2; omega); have W5 := Lib.hid hr5; have G5' := Lib.hid (G5.out.step ((Below.refl _ _).alloc (Nat.le_refl _) (.cells #[.slice (some ⟨g, 0, none⟩) (N + 1) y] 42))); have W5' := Lib.hid (W5.out.step ((Below.refl _ _).alloc (Nat.le_refl _) (.cells #[.slice (some ⟨g, 0, none⟩) (N + 1) y] 42))); have C5 : Hid ((w5.alloc (.cells #[.slice (some ⟨g, 0, none⟩) (N + 1) y] 42)).cell? ⟨w5.heap.size, 0, none⟩ = some (.slice (some ⟨g, 0, none⟩) (N + 1) y)) := Lib.hid (by simp); have Z5 : w.heap.size + 1 + 1 + 1 ≤ (w5.alloc (.cells #[.slice (some ⟨g, 0, none⟩) (N + 1) y] 42)).heap.size := (by simp at hz5; simp; omega); have O5' := Lib.hid (O5.out.step ((Below.refl _ _).alloc (Nat.le_refl _) (.cells #[.slice (some ⟨g, 0, none⟩) (N + 1) y] 42))); have R5' := Lib.hid (R5.out.step ((Below.refl _ _).alloc (Nat.le_refl _) (.cells #[.slice (some ⟨g, 0, none⟩) (N + 1) y] 42))); have Bx5' := Lib.hid (Bx5.out.step ((Below.refl _ _).alloc (Nat.le_refl _) (.cells #[.slice (some ⟨g, 0, none⟩) (N + 1) y] 42))); have B5' := Lib.hid (B5.out.alloc B5.out.size (.cells #[.slice (some ⟨g, 0, none⟩) (N + 1) y] 42)); have s7 := O5.out.2.2.1; have s70 := O5.out.1; have s8 := Bx5.out.2.2; have s9 := (B5.out.cell (p := ⟨b, off + i, none⟩) hb).trans c0; clear hr5 hg5)
          | (refine step_append_row rfl (.tmp 16) (.tmp 24) 22 rfl 42 3 i1 Try.underlying22 hi1 hy0 hy1 hy2 v (N + 1) i f c m w5.heap.size g y l (by simp [Act.eval]) (by simp [Act.eval]) (w.heap.size + 1 + 1 + 1) G5'.out C5.out W5'.out HRL.out F5.out V5.out (by omega) Z5 ?_; intro a6 p6 w6 hG6 hg6 hb6; have G6 := Lib.hid hG6; have O6 := Lib.hid (O5'.out.below (B := w.heap.size + 1 + 1 + 1) (by omega) hb6); have R6 := Lib.hid (R5'.out.below (B := w.heap.size + 1 + 1 + 1) (by omega) hb6); have Bx6 := Lib.hid (Bx5'.out.below (B := w.heap.size + 1 + 1 + 1) (by omega) hb6); have B6 := Lib.hid (B5'.out.trans (hb6.mono (by omega))); have hz6 : w.heap.size + 1 + 1 + 1 ≤ w6.heap.size := Nat.le_trans Z5 hb6.size; clear hG6 hg6 hb6; obtain ⟨t0, t1, t2, t3, t4⟩ := O6.out; have s2 := Bx6.out.2.2; have s3 := (B6.out.cell (p := ⟨b, off + i, none⟩) hb).trans c0))
      all_goals
        go_wp2
        exact ⟨⟨i + 1, _, _, _, _, by omega, by first | rfl | go_num, Lib.hid (G6.out.put0 (by omega) _), HM, Bx6.out.grown (grown_set (grown_refl _ (some (w.heap.size + 1 + 1)))) (by omega), Lib.hid (O6.out.put1 _), Lib.hid (R6.out.grown (grown_set (grown_refl _ (some (w.heap.size + 1 + 1)))) (by omega)), Lib.hid (B6.out.setCell (p := ⟨w.heap.size + 1 + 1, 1, none⟩) (by simp; omega) _), Lib.hid (by simpa [World.setCell] using hz6)⟩, by simp [intOf]; omega⟩
    · obtain rfl : i = N + 1 := by omega
      obtain ⟨A, cap2, rfl, h1, h2, hG⟩ := HG.out.grd (by omega)
      have HGD := Lib.hid (hG.congr (fun a b ha hb => HV.out a b ha hb))
      obtain ⟨r0, r1, r2, r3, r4⟩ := HR.out
      obtain ⟨o0, o1, o2, o3, o4⟩ := HO.out
      clear hG HG HV HS
      go_wp2
      have RW : ResI ((wr.setCell ⟨w.heap.size + 1, 0, none⟩ (.int .i64 (N : Int))).setCell ⟨w.heap.size + 1, 1, none⟩ (.slice (some ⟨A, 0, none⟩) (N + 1) cap2)) (w.heap.size + 1) N (.slice (some ⟨A, 0, none⟩) (N + 1) cap2) := HR.out.put N _
      have BW : Below w.heap.size w ((wr.setCell ⟨w.heap.size + 1, 0, none⟩ (.int .i64 (N : Int))).setCell ⟨w.heap.size + 1, 1, none⟩ (.slice (some ⟨A, 0, none⟩) (N + 1) cap2)) := (HB.out.setCell (p := ⟨w.heap.size + 1, 0, none⟩) (by simp) _).setCell (p := ⟨w.heap.size + 1, 1, none⟩) (by simp) _
      have hA := HGD.out.ge
      have GW := HGD.out.other (grown_set (i := 1) (v := .slice (some ⟨A, 0, none⟩) (N + 1) cap2) (grown_set (A := w.heap.size + 1) (i := 0) (v := .int .i64 (N : Int)) (grown_refl _ _))) (by omega) (fun q hq => by have := (HGD.out.blk q hq).2.1; omega)
      generalize ((wr.setCell ⟨w.heap.size + 1, 0, none⟩ (.int .i64 (N : Int))).setCell ⟨w.heap.size + 1, 1, none⟩ (.slice (some ⟨A, 0, none⟩) (N + 1) cap2)) = W2 at *
      obtain ⟨-, t1, t2, -, -⟩ := RW
      exact bodyPost_ret (v := .agg #[.int .i64 (N : Int), .slice (some ⟨A, 0, none⟩) (N + 1) cap2]) (by simp [results, Try.results67, go_sem, t1, t2]) rfl ⟨_, rfl, ⟨A, cap2, f, c, rfl, h1, h2, GW.mono (by omega)⟩, BW⟩
end Go.Proofs.Ytkemicfaiipidaa

