/- Ports of package part. -/
import Derived.Test.YthjkcncfppndkaaDoorGG
import Derived.Lib.OwnBridge
namespace Go.Proofs.YthjkcncfppndkaaDoor
open Go.RowKit
set_option maxHeartbeats 4000000 in
set_option maxRecDepth 100000 in
theorem ports_any (k : Nat) (hk : k < 14) (w : World) : Calls Tryd.prog 19 #[.int .i64 (k : Int)] w fun e w' => ∃ v, e = .returned (.tuple #[v, .int .i64 0]) ∧ SeeS w' v (Pt.srt (Pt.pre (Pt.cat k) 5)) ∧ Below w.heap.size w w' := by
  obtain ⟨i0, hi0, hz0, hz1, hz2⟩ := info_str
  have CR := fun W => rowOf_any k hk W
  obtain ⟨fl, hfl⟩ : ∃ fl : Nat → List ByteArray, ∀ i, fl i = Pt.flds ((Pt.cat k).port i) := ⟨_, fun _ => rfl⟩
  obtain ⟨pr, hpr⟩ : ∃ pr : Nat → List ByteArray, ∀ i, pr i = Pt.pre (Pt.cat k) i := ⟨_, fun _ => rfl⟩
  have CPt := fun (i : Nat) W (hi : i < 5) => Lib.hid (show Calls Tryd.prog 44 #[Pt.rowV (Pt.cat k), .int .i64 (i : Int)] W fun e w' => ∃ A, e = .returned (.slice (some ⟨A, 0, none⟩) (fl i).length (fl i).length) ∧ RowS W.heap.size w' (.slice (some ⟨A, 0, none⟩) (fl i).length (fl i).length) (fl i) ∧ Below W.heap.size W w' by
    have := portsW_any (Pt.cat k) i hi (Pt.port_small k i) W
    rw [← hfl i] at this
    exact this)
  have HP0 : Hid (pr 0 = []) := Lib.hid (by rw [hpr]; rfl)
  have HPs := Lib.hid (fun (i : Nat) => show pr (i + 1) = pr i ++ fl i by rw [hpr, hpr, hfl]; rfl)
  have HF := Lib.hid (fun (i : Nat) (hi : i < 6) => show (pr i).length ≤ 100 ∧ (fl i).length ≤ 100 by rw [hpr, hfl]; exact Pt.pre_few k hk i hi)
  have HPos : Hid (0 < (pr 5).length) := Lib.hid (by rw [hpr]; exact Pt.pre_pos k hk)
  rw [← hpr 5]
  clear hpr hfl
  have hsf := st_fn
  generalize Pt.cat k = r at *
  obtain ⟨r0, r1, r2, r3, r4, r5, r6, r7, r8, r9, r10⟩ := r
  simp only [Pt.rowV, Pt.rowC] at CR CPt
  generalize Pt.Eff.fn r10 = q at *
  have CS := fun v W (B : Nat) (h : RowS B W v (pr 5)) => Lib.hid (sort_any B v (pr 5) W h HPos.out (by have := (HF.out 5 (by omega)).1; omega))
  go_enter Tryd.func19, Tryd.ntmps19
  go_wp2_with fail
  refine (CR _).mono ?_
  rintro e w1 ⟨rfl, hb1⟩
  obtain ⟨W1, hW1⟩ : ∃ W1, W1 = w1.alloc (.cells #[.string r0, .string r1, .string r2, .string r3, .string r4, .string r5, .string r6, .int .i64 r7, .string r8, .string r9, .func (.func q) #[] #[]] 83) := ⟨_, rfl⟩
  have HB := Lib.hid (show Below w.heap.size w W1 by rw [hW1]; exact hb1.alloc hb1.size _)
  have HC := Lib.hid (show w1.heap.size < W1.heap.size ∧ ∀ i, i < 11 → W1.cell? ⟨w1.heap.size, i, none⟩ = #[.string r0, .string r1, .string r2, .string r3, .string r4, .string r5, .string r6, .int .i64 r7, .string r8, .string r9, .func (.func q) #[] #[]][i]? by
    rw [hW1]
    refine ⟨by simp, fun i hi => ?_⟩
    simp [hi])
  have HW := Lib.hid hW1
  clear hb1 hW1 CR
  go_wp2
  rw [← HW.out]
  go_loopw [6, 16] (fun s6 s16 wr => ∃ i : Nat, i ≤ 5 ∧ s16 = .int .i64 (i : Int) ∧ Hid (RowS W1.heap.size wr s6 (pr i)) ∧ Hid (Below W1.heap.size W1 wr)) (fun _ s16 _ => 5 - (intOf s16).toNat)
  case atStart => exact ⟨0, by omega, rfl, Lib.hid (by rw [HP0.out]; exact RowS.nil _ _), Lib.hid (Below.refl _ _)⟩
  case round =>
    obtain ⟨i, hi, rfl, HR, HBW⟩ := hrel
    have c0 : wr.cell? ⟨w1.heap.size, 0, none⟩ = some (.string r0) := (HBW.out.cell (p := ⟨w1.heap.size, 0, none⟩) HC.out.1).trans (HC.out.2 0 (by omega))
    have c1 : wr.cell? ⟨w1.heap.size, 1, none⟩ = some (.string r1) := (HBW.out.cell (p := ⟨w1.heap.size, 1, none⟩) HC.out.1).trans (HC.out.2 1 (by omega))
    have c2 : wr.cell? ⟨w1.heap.size, 2, none⟩ = some (.string r2) := (HBW.out.cell (p := ⟨w1.heap.size, 2, none⟩) HC.out.1).trans (HC.out.2 2 (by omega))
    have c3 : wr.cell? ⟨w1.heap.size, 3, none⟩ = some (.string r3) := (HBW.out.cell (p := ⟨w1.heap.size, 3, none⟩) HC.out.1).trans (HC.out.2 3 (by omega))
    have c4 : wr.cell? ⟨w1.heap.size, 4, none⟩ = some (.string r4) := (HBW.out.cell (p := ⟨w1.heap.size, 4, none⟩) HC.out.1).trans (HC.out.2 4 (by omega))
    have c5 : wr.cell? ⟨w1.heap.size, 5, none⟩ = some (.string r5) := (HBW.out.cell (p := ⟨w1.heap.size, 5, none⟩) HC.out.1).trans (HC.out.2 5 (by omega))
    have c6 : wr.cell? ⟨w1.heap.size, 6, none⟩ = some (.string r6) := (HBW.out.cell (p := ⟨w1.heap.size, 6, none⟩) HC.out.1).trans (HC.out.2 6 (by omega))
    have c7 : wr.cell? ⟨w1.heap.size, 7, none⟩ = some (.int .i64 r7) := (HBW.out.cell (p := ⟨w1.heap.size, 7, none⟩) HC.out.1).trans (HC.out.2 7 (by omega))
    have c8 : wr.cell? ⟨w1.heap.size, 8, none⟩ = some (.string r8) := (HBW.out.cell (p := ⟨w1.heap.size, 8, none⟩) HC.out.1).trans (HC.out.2 8 (by omega))
    have c9 : wr.cell? ⟨w1.heap.size, 9, none⟩ = some (.string r9) := (HBW.out.cell (p := ⟨w1.heap.size, 9, none⟩) HC.out.1).trans (HC.out.2 9 (by omega))
    have c10 : wr.cell? ⟨w1.heap.size, 10, none⟩ = some (.func (.func q) #[] #[]) := (HBW.out.cell (p := ⟨w1.heap.size, 10, none⟩) HC.out.1).trans (HC.out.2 10 (by omega))
    by_cases hil : i < 5
    · have zi : (i : Int) < 5 := by omega
      obtain ⟨ra, rc, rfl⟩ := HR.out.form
      go_wp2_with fail
      clear c0 c1 c2 c3 c4 c5 c6 c7 c8 c9 c10
      refine (CPt i wr hil).out.mono ?_
      rintro e w2 ⟨A, rfl, h2, hb2⟩
      have HBW2 := Lib.hid (HBW.out.trans (hb2.mono HBW.out.size))
      have HR2 := Lib.hid (HR.out.step hb2)
      have HU := Lib.hid h2
      clear h2 hb2 HBW HR
      go_wp2_with (at_builtin; refine wpList_append_texts rfl _ _ 37 rfl i0 Tryd.underlying37 hi0 hz0 hz1 hz2 _ (pr i) (fl i) A rfl rfl W1.heap.size _ HR2.out HU.out (by have := HF.out i (by omega); omega) HBW2.out.size ?_; intro v3 w3 hr3 hb3; have HR3 := Lib.hid hr3; have HB3 := Lib.hid (HBW2.out.trans hb3); clear hr3 hb3 HR2 HU HBW2)
      exact ⟨⟨i + 1, by omega, by first | rfl | go_num, Lib.hid (by rw [HPs.out]; exact HR3.out), HB3⟩, by simp [intOf]; omega⟩
    · obtain rfl : i = 5 := by omega
      clear c0 c1 c2 c3 c4 c5 c6 c7 c8 c9 c10
      go_wp2_with fail
      refine (CS _ wr W1.heap.size HR.out).out.mono ?_
      rintro e w2 ⟨rfl, h2, hb2⟩
      have H2 := Lib.hid h2
      have HB2 := Lib.hid (below_nxt HB.out (HBW.out.trans hb2))
      clear h2 hb2
      go_wp2
      refine bodyPost_ret (v := .tuple #[_, .int .i64 0]) (by simp [results, Tryd.results19, go_sem]) rfl ⟨_, rfl, H2.out, HB2.out⟩
end Go.Proofs.YthjkcncfppndkaaDoor
