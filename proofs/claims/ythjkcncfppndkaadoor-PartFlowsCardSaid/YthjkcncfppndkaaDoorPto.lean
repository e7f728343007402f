/- Roles, ports and positions of both for all kinds; the statement PartPorts. -/
import Derived.Test.YthjkcncfppndkaaDoorPtn
import Derived.Test.YthjkcncfppndkaaDoorGU
namespace Pt
def roleX (k : Int) (s : ByteArray) (n : Nat) (e : Int) : Prop := if 0 ≤ k ∧ k < 14 then RoleF (cat k.toNat) s n e else (n = 0 ∧ e = 1)
theorem roleX_one {k : Int} {s : ByteArray} {n m : Nat} {e f : Int} (h : roleX k s n e) (g : roleX k s m f) : n = m ∧ e = f := by
  unfold roleX at h g
  by_cases hk : 0 ≤ k ∧ k < 14
  · rw [if_pos hk] at h g; exact role_one h g
  · rw [if_neg hk] at h g; exact ⟨h.1.trans g.1.symm, h.2.trans g.2.symm⟩
def posV (k : Int) : Int × Int := if 0 ≤ k ∧ k < 14 then ((cat k.toNat).pos, 0) else (0, 1)
def errV (k : Int) : Int := if 0 ≤ k ∧ k < 14 then 0 else 1
def porV (k : Int) : List ByteArray := if 0 ≤ k ∧ k < 14 then srt (pre (cat k.toNat) 5) else []
end Pt
namespace Go.Proofs.YthjkcncfppndkaaDoor
open Go.RowKit
set_option maxHeartbeats 4000000 in
set_option maxRecDepth 100000 in
theorem role_fst (k : Nat) (hk : k < 14) (s : ByteArray) (w : World) : Calls Tryd.prog 21 #[.int .i64 (k : Int), .string s] w fun e w' => ∃ (n : Nat) (er : Int), e = .returned (.tuple #[.int .i64 (n : Int), .int .i64 er]) ∧ Pt.RoleF (Pt.cat k) s n er ∧ Below w.heap.size w w' := by
  have CR := fun W => rowOf_any k hk W
  obtain ⟨fl, hfl⟩ : ∃ fl : Nat → List ByteArray, ∀ i, fl i = Pt.flds ((Pt.cat k).port i) := ⟨_, fun _ => rfl⟩
  have CPt := fun (i : Nat) W (hi : i < 5) => Lib.hid (show Calls Tryd.prog 44 #[Pt.rowV (Pt.cat k), .int .i64 (i : Int)] W fun e w' => ∃ A, e = .returned (.slice (some ⟨A, 0, none⟩) (fl i).length (fl i).length) ∧ RowS W.heap.size w' (.slice (some ⟨A, 0, none⟩) (fl i).length (fl i).length) (fl i) ∧ Below W.heap.size W w' by
    have := portsW_any (Pt.cat k) i hi (Pt.port_small k i) W
    rw [← hfl i] at this
    exact this)
  have HY := Lib.hid (fun (i : Nat) (hi : i < 5) (h : s ∈ fl i) (hj : ∀ j, j < i → ¬ s ∈ fl j) => show Pt.RoleF (Pt.cat k) s i 0 from .inl ⟨hi, by rw [← hfl]; exact h, fun j hji => by rw [← hfl]; exact hj j hji, rfl⟩)
  have HN := Lib.hid (fun (h : ∀ i, i < 5 → ¬ s ∈ fl i) => show Pt.RoleF (Pt.cat k) s 0 6 from .inr ⟨rfl, rfl, fun j hj => by rw [← hfl]; exact h j hj⟩)
  clear hfl
  have hsf := st_fn
  obtain ⟨R, hR⟩ : ∃ R, R = Pt.cat k := ⟨_, rfl⟩
  rw [← hR] at HY HN ⊢
  rw [← hR] at CR CPt
  clear hR
  have HRR := Lib.hid (show R = R from rfl)
  generalize hV : Pt.rowV R = rv at CR CPt
  obtain ⟨r0, r1, r2, r3, r4, r5, r6, r7, r8, r9, q, hrv⟩ : ∃ r0 r1 r2 r3 r4 r5 r6 r7 r8 r9 q, rv = .agg #[.string r0, .string r1, .string r2, .string r3, .string r4, .string r5, .string r6, .int .i64 r7, .string r8, .string r9, .func (.func q) #[] #[]] := ⟨_, _, _, _, _, _, _, _, _, _, _, hV.symm⟩
  subst hrv
  clear hV HRR
  go_enter Tryd.func21, Tryd.ntmps21
  go_wp2_with fail
  refine (CR _).mono ?_
  rintro e w1 ⟨rfl, hb1⟩
  obtain ⟨W1, hW1⟩ : ∃ W1, W1 = w1.alloc (.cells #[.string r0, .string r1, .string r2, .string r3, .string r4, .string r5, .string r6, .int .i64 r7, .string r8, .string r9, .func (.func q) #[] #[]] 83) := ⟨_, rfl⟩
  have HB := Lib.hid (show Below w.heap.size w W1 by rw [hW1]; exact hb1.alloc hb1.size _)
  have HC := Lib.hid (show w1.heap.size < W1.heap.size ∧ ∀ i, i < 11 → W1.cell? ⟨w1.heap.size, i, none⟩ = #[.string r0, .string r1, .string r2, .string r3, .string r4, .string r5, .string r6, .int .i64 r7, .string r8, .string r9, .func (.func q) #[] #[]][i]? by
    rw [hW1]
    refine ⟨by simp, fun i hi => ?_⟩
    simp [hi])
  have HW := Lib.hid hW1
  clear hb1 hW1 CR
  go_wp2
  rw [← HW.out]
  go_loopw [17] (fun s17 wr => ∃ i : Nat, i ≤ 5 ∧ s17 = .int .i64 (i : Int) ∧ Hid (Below W1.heap.size W1 wr) ∧ Hid (∀ j, j < i → ¬ s ∈ fl j)) (fun s17 _ => 5 - (intOf s17).toNat)
  case atStart => exact ⟨0, by omega, rfl, Lib.hid (Below.refl _ _), Lib.hid (fun j h => by omega)⟩
  case round =>
    obtain ⟨i, hi, rfl, HBW, HJ⟩ := hrel
    have c0 : wr.cell? ⟨w1.heap.size, 0, none⟩ = some (.string r0) := (HBW.out.cell (p := ⟨w1.heap.size, 0, none⟩) HC.out.1).trans (HC.out.2 0 (by omega))
    have c1 : wr.cell? ⟨w1.heap.size, 1, none⟩ = some (.string r1) := (HBW.out.cell (p := ⟨w1.heap.size, 1, none⟩) HC.out.1).trans (HC.out.2 1 (by omega))
    have c2 : wr.cell? ⟨w1.heap.size, 2, none⟩ = some (.string r2) := (HBW.out.cell (p := ⟨w1.heap.size, 2, none⟩) HC.out.1).trans (HC.out.2 2 (by omega))
    have c3 : wr.cell? ⟨w1.heap.size, 3, none⟩ = some (.string r3) := (HBW.out.cell (p := ⟨w1.heap.size, 3, none⟩) HC.out.1).trans (HC.out.2 3 (by omega))
    have c4 : wr.cell? ⟨w1.heap.size, 4, none⟩ = some (.string r4) := (HBW.out.cell (p := ⟨w1.heap.size, 4, none⟩) HC.out.1).trans (HC.out.2 4 (by omega))
    have c5 : wr.cell? ⟨w1.heap.size, 5, none⟩ = some (.string r5) := (HBW.out.cell (p := ⟨w1.heap.size, 5, none⟩) HC.out.1).trans (HC.out.2 5 (by omega))
    have c6 : wr.cell? ⟨w1.heap.size, 6, none⟩ = some (.string r6) := (HBW.out.cell (p := ⟨w1.heap.size, 6, none⟩) HC.out.1).trans (HC.out.2 6 (by omega))
    have c7 : wr.cell? ⟨w1.heap.size, 7, none⟩ = some (.int .i64 r7) := (HBW.out.cell (p := ⟨w1.heap.size, 7, none⟩) HC.out.1).trans (HC.out.2 7 (by omega))
    have c8 : wr.cell? ⟨w1.heap.size, 8, none⟩ = some (.string r8) := (HBW.out.cell (p := ⟨w1.heap.size, 8, none⟩) HC.out.1).trans (HC.out.2 8 (by omega))
    have c9 : wr.cell? ⟨w1.heap.size, 9, none⟩ = some (.string r9) := (HBW.out.cell (p := ⟨w1.heap.size, 9, none⟩) HC.out.1).trans (HC.out.2 9 (by omega))
    have c10 : wr.cell? ⟨w1.heap.size, 10, none⟩ = some (.func (.func q) #[] #[]) := (HBW.out.cell (p := ⟨w1.heap.size, 10, none⟩) HC.out.1).trans (HC.out.2 10 (by omega))
    by_cases hil : i < 5
    · have zi : (i : Int) < 5 := by omega
      go_wp2_with fail
      clear c0 c1 c2 c3 c4 c5 c6 c7 c8 c9 c10
      refine (CPt i wr hil).out.mono ?_
      rintro e w2 ⟨A, rfl, h2, hb2⟩
      have HBW2 := Lib.hid (HBW.out.trans (hb2.mono HBW.out.size))
      have HU := Lib.hid h2
      clear h2 hb2 HBW
      go_wp2_with fail
      refine (contains_any _ _ s w2 HU.out.sees).mono ?_
      rintro e w3 ⟨b, rfl, hbm, rfl⟩
      cases b
      · have HJ2 := Lib.hid (show ∀ j, j < i + 1 → ¬ s ∈ fl j from fun j hj => by
          by_cases e2 : j = i
          · rw [e2]; exact fun h => by have := hbm.2 h; cases this
          · exact HJ.out j (by omega))
        clear hbm
        go_wp2
        exact ⟨⟨i + 1, by omega, by first | rfl | go_num, HBW2, HJ2⟩, by simp [intOf]; omega⟩
      · have HP := Lib.hid (HY.out i hil (hbm.1 rfl) HJ.out)
        have HB2 := Lib.hid (HB.out.trans (HBW2.out.mono HB.out.size))
        clear hbm
        go_wp2
        refine bodyPost_ret (v := .tuple #[.int .i64 (i : Int), .int .i64 0]) ?_ rfl ?_
        · simp [results, Tryd.results21, go_sem]
        · exact ⟨i, 0, rfl, HP.out, HB2.out⟩
    · obtain rfl : i = 5 := by omega
      have HP := Lib.hid (HN.out HJ.out)
      have HB2 := Lib.hid (HB.out.trans (HBW.out.mono HB.out.size))
      clear c0 c1 c2 c3 c4 c5 c6 c7 c8 c9 c10
      go_wp2
      refine bodyPost_ret (v := .tuple #[.int .i64 0, .int .i64 6]) ?_ rfl ?_
      · simp [results, Tryd.results21, go_sem]
      · exact ⟨0, 6, rfl, HP.out, HB2.out⟩
set_option maxHeartbeats 4000000 in
set_option maxRecDepth 100000 in
theorem pRole_no (k : Int) (s : ByteArray) (hk : ¬ (0 ≤ k ∧ k < 14)) (w : World) : Calls Tryd.prog 21 #[.int .i64 k, .string s] w fun e w' => e = .returned (.tuple #[.int .i64 0, .int .i64 1]) ∧ Below w.heap.size w w' := by
  have CR := fun W => rowOf_no k (by omega) W
  have hsn := st_nil
  simp only [noV] at CR
  clear hk
  go_enter Tryd.func21, Tryd.ntmps21
  go_wp2_with fail
  refine (CR _).mono ?_
  rintro e w1 ⟨rfl, hb1⟩
  have HB := Lib.hid (hb1.alloc hb1.size (.cells #[.string ⟨#[]⟩, .string ⟨#[]⟩, .string ⟨#[]⟩, .string ⟨#[]⟩, .string ⟨#[]⟩, .string ⟨#[]⟩, .string ⟨#[]⟩, .int .i64 0, .string ⟨#[]⟩, .string ⟨#[]⟩, .nilFunc] 83))
  clear hb1
  go_wp2
  exact bodyPost_ret (v := .tuple #[.int .i64 0, .int .i64 1]) (by simp [results, Tryd.results21, go_sem]) rfl ⟨rfl, HB.out⟩
set_option maxHeartbeats 4000000 in
set_option maxRecDepth 100000 in
theorem pPorts_no (k : Int) (hk : ¬ (0 ≤ k ∧ k < 14)) (w : World) : Calls Tryd.prog 19 #[.int .i64 k] w fun e w' => e = .returned (.tuple #[.slice none 0 0, .int .i64 1]) ∧ Below w.heap.size w w' := by
  have CR := fun W => rowOf_no k (by omega) W
  have hsn := st_nil
  simp only [noV] at CR
  clear hk
  go_enter Tryd.func19, Tryd.ntmps19
  go_wp2_with fail
  refine (CR _).mono ?_
  rintro e w1 ⟨rfl, hb1⟩
  have HB := Lib.hid (hb1.alloc hb1.size (.cells #[.string ⟨#[]⟩, .string ⟨#[]⟩, .string ⟨#[]⟩, .string ⟨#[]⟩, .string ⟨#[]⟩, .string ⟨#[]⟩, .string ⟨#[]⟩, .int .i64 0, .string ⟨#[]⟩, .string ⟨#[]⟩, .nilFunc] 83))
  clear hb1
  go_wp2
  exact bodyPost_ret (v := .tuple #[.slice none 0 0, .int .i64 1]) (by simp [results, Tryd.results19, go_sem]) rfl ⟨rfl, HB.out⟩
theorem pRole_any (k : Int) (s : ByteArray) (w : World) : Calls Tryd.prog 21 #[.int .i64 k, .string s] w fun e w' => ∃ (n : Nat) (er : Int), e = .returned (.tuple #[.int .i64 (n : Int), .int .i64 er]) ∧ Pt.roleX k s n er ∧ Below w.heap.size w w' := by
  unfold Pt.roleX
  by_cases hk : 0 ≤ k ∧ k < 14
  · obtain ⟨c, rfl⟩ := Int.eq_ofNat_of_zero_le hk.1
    simp only [if_pos hk, Int.toNat_natCast]
    exact role_fst c (by omega) s w
  · simp only [if_neg hk]
    refine (pRole_no k s hk w).mono ?_
    rintro e w' ⟨rfl, hb⟩
    exact ⟨0, 1, rfl, ⟨rfl, rfl⟩, hb⟩
theorem pPorts_any (k : Int) (w : World) : Calls Tryd.prog 19 #[.int .i64 k] w fun e w' => ∃ v, e = .returned (.tuple #[v, .int .i64 (Pt.errV k)]) ∧ SeeS w' v (Pt.porV k) ∧ Below w.heap.size w w' := by
  unfold Pt.errV Pt.porV
  by_cases hk : 0 ≤ k ∧ k < 14
  · obtain ⟨c, rfl⟩ := Int.eq_ofNat_of_zero_le hk.1
    simp only [if_pos hk, Int.toNat_natCast]
    exact ports_any c (by omega) w
  · simp only [if_neg hk]
    refine (pPorts_no k hk w).mono ?_
    rintro e w' ⟨rfl, hb⟩
    exact ⟨_, rfl, SeeS.nil _, hb⟩
theorem pPos_any (k : Int) (w : World) : Calls Tryd.prog 23 #[.int .i64 k] w fun e w' => e = .returned (.tuple #[.int .i64 (Pt.posV k).1, .int .i64 (Pt.posV k).2]) ∧ Below w.heap.size w w' := by
  unfold Pt.posV
  by_cases hk : 0 ≤ k ∧ k < 14
  · obtain ⟨c, rfl⟩ := Int.eq_ofNat_of_zero_le hk.1
    simp only [if_pos hk, Int.toNat_natCast]
    exact pos_any c (by omega) w
  · simp only [if_neg hk]
    exact pos_no k (by omega) w
set_option maxHeartbeats 4000000 in
set_option maxRecDepth 100000 in
theorem rPos_any (k : Int) (w : World) : Calls Tryd.prog 24 #[.int .i64 k] w fun e w' => e = .returned (.tuple #[.int .i64 (Pt.posV k).1, .int .i64 (Pt.posV k).2]) ∧ Below w.heap.size w w' := by
  have CR := fun W => Lib.hid (rRight_any k W)
  unfold Pt.posV
  by_cases hk : 0 ≤ k ∧ k < 14
  · obtain ⟨c, rfl⟩ := Int.eq_ofNat_of_zero_le hk.1
    have CM := fun W => Lib.hid (rMany_any c (by omega) W)
    rw [if_pos hk] at CR ⊢
    rw [Int.toNat_natCast]
    clear hk
    generalize (Pt.cat c).pos = q at *
    go_enter Tryd.func24, Tryd.ntmps24
    go_wp2_with fail
    refine (CR w).out.mono ?_
    rintro e w1 ⟨rfl, rfl⟩
    go_wp2_with fail
    refine (CM w1).out.mono ?_
    rintro e w2 ⟨rfl, hb⟩
    have HB := Lib.hid hb
    clear hb
    go_wp2
    exact bodyPost_ret (v := .tuple #[.int .i64 q, .int .i64 0]) (by simp [results, Tryd.results24, go_sem]) rfl ⟨rfl, HB.out⟩
  · rw [if_neg hk] at CR ⊢
    clear hk
    go_enter Tryd.func24, Tryd.ntmps24
    go_wp2_with fail
    refine (CR w).out.mono ?_
    rintro e w1 ⟨rfl, rfl⟩
    go_wp2
    exact bodyPost_ret (v := .tuple #[.int .i64 0, .int .i64 1]) (by simp [results, Tryd.results24, go_sem]) rfl ⟨rfl, Below.refl _ _⟩
set_option maxHeartbeats 4000000 in
set_option maxRecDepth 100000 in
theorem rPlays_any (k : Nat) (hk : k < 14) (s : ByteArray) (w : World) : Calls Tryd.prog 47 #[.int .i64 (k : Int), .string s] w fun e w' => ∃ r : Int, e = .returned (.int .i64 r) ∧ ((∃ n : Nat, r = n ∧ Pt.RoleF (Pt.cat k) s n 0) ∨ (r = -1 ∧ Pt.RoleF (Pt.cat k) s 0 6)) ∧ Below w.heap.size w w' := by
  have zk : (k : Int) < 14 := by omega
  have HK := Lib.hid hk
  have CN := fun (i : Nat) W (hi : i < 5) => Lib.hid (show Calls Tryd.prog 71 #[.string (Pt.rport k i)] W fun e w' => ∃ v, e = .returned v ∧ SeeS w' v (Pt.flds ((Pt.cat k).port i)) ∧ Below W.heap.size W w' by
    have := names_all (Pt.rport k i) W (Pt.all_few k hk i (by omega)).2.2
    rwa [Pt.names_flds k hk i hi] at this)
  have HY := Lib.hid (fun (i : Nat) (hi : i < 5) (h : s ∈ Pt.flds ((Pt.cat k).port i)) (hj : ∀ j, j < i → ¬ s ∈ Pt.flds ((Pt.cat k).port j)) => show Pt.RoleF (Pt.cat k) s i 0 from .inl ⟨hi, h, hj, rfl⟩)
  have HN := Lib.hid (fun (h : ∀ i, i < 5 → ¬ s ∈ Pt.flds ((Pt.cat k).port i)) => show Pt.RoleF (Pt.cat k) s 0 6 from .inr ⟨rfl, rfl, h⟩)
  clear hk
  go_enter Tryd.func47, Tryd.ntmps47
  go_wp2
  go_loopw [5] (fun s5 wr => ∃ i : Nat, i ≤ 5 ∧ s5 = .int .i64 (i : Int) ∧ Hid (Below w.heap.size w wr) ∧ Hid (∀ j, j < i → ¬ s ∈ Pt.flds ((Pt.cat k).port j))) (fun s5 _ => 5 - (intOf s5).toNat)
  case atStart => exact ⟨0, by omega, rfl, Lib.hid (Below.refl _ _), Lib.hid (fun j h => by omega)⟩
  case round =>
    obtain ⟨i, hi, rfl, HB, HJ⟩ := hrel
    by_cases hil : i < 5
    · have zi : (i : Int) < 5 := by omega
      have b0 : k * 7 + 2 + i = 7 * k + (2 + i) := by omega
      go_wp2_with fail
      refine (rRows_any wr).mono ?_
      rintro e w2 ⟨g, rfl, ⟨hg, hc⟩, hb⟩
      have c0 := hc k HK.out (2 + i) (by omega)
      rw [show (Pt.rowsL k)[2 + i]? = some (.string (Pt.rport k i)) by
        have h : i = 0 ∨ i = 1 ∨ i = 2 ∨ i = 3 ∨ i = 4 := by omega
        rcases h with rfl | rfl | rfl | rfl | rfl <;> rfl] at c0
      have HB2 := Lib.hid (HB.out.trans (hb.mono HB.out.size))
      clear hb hc
      go_wp2_with fail
      refine (CN i w2 hil).out.mono ?_
      rintro e w3 ⟨v, rfl, hs, hb3⟩
      have HB3 := Lib.hid (HB2.out.trans (hb3.mono HB2.out.size))
      have HV := Lib.hid hs
      clear hs hb3 HB2 c0 hg b0
      go_wp2_with fail
      refine (rHas_any v _ s w3 HV.out).mono ?_
      rintro e w4 ⟨b, rfl, hbm, rfl⟩
      cases b
      · have HJ2 := Lib.hid (show ∀ j, j < i + 1 → ¬ s ∈ Pt.flds ((Pt.cat k).port j) from fun j hj => by
          by_cases e2 : j = i
          · rw [e2]; exact fun h => by have := hbm.2 h; cases this
          · exact HJ.out j (by omega))
        clear hbm
        go_wp2
        exact ⟨⟨i + 1, by omega, by first | rfl | go_num, HB3, HJ2⟩, by simp [intOf]; omega⟩
      · have HP := Lib.hid (HY.out i hil (hbm.1 rfl) HJ.out)
        clear hbm
        go_wp2
        go_ret
        exact ⟨_, rfl, .inl ⟨i, rfl, HP.out⟩, HB3.out⟩
    · obtain rfl : i = 5 := by omega
      have HP := Lib.hid (HN.out HJ.out)
      go_wp2
      go_ret
      exact ⟨_, rfl, .inr ⟨rfl, HP.out⟩, HB.out⟩
set_option maxHeartbeats 4000000 in
set_option maxRecDepth 100000 in
theorem rRole_any (k : Int) (s : ByteArray) (w : World) : Calls Tryd.prog 22 #[.int .i64 k, .string s] w fun e w' => ∃ (n : Nat) (er : Int), e = .returned (.tuple #[.int .i64 (n : Int), .int .i64 er]) ∧ Pt.roleX k s n er ∧ Below w.heap.size w w' := by
  have CR := fun W => Lib.hid (rRight_any k W)
  by_cases hk : 0 ≤ k ∧ k < 14
  · have hX : ∀ n er, Pt.roleX k s n er = Pt.RoleF (Pt.cat k.toNat) s n er := fun n er => by unfold Pt.roleX; rw [if_pos hk]
    obtain ⟨c, rfl⟩ := Int.eq_ofNat_of_zero_le hk.1
    have CM := fun W => Lib.hid (rPlays_any c (by omega) s W)
    rw [if_pos hk] at CR
    simp only [hX, Int.toNat_natCast]
    clear hk hX
    generalize Pt.RoleF (Pt.cat c) s = RF at *
    go_enter Tryd.func22, Tryd.ntmps22
    go_wp2_with fail
    refine (CR w).out.mono ?_
    rintro e w1 ⟨rfl, rfl⟩
    go_wp2_with fail
    refine (CM w1).out.mono ?_
    rintro e w2 ⟨r, rfl, h | h, hb⟩
    · obtain ⟨n, rfl, h⟩ := h
      have HP := Lib.hid h
      have HB := Lib.hid hb
      clear h hb
      have zn : ¬ ((n : Int) < 0) := by omega
      go_wp2
      refine bodyPost_ret (v := .tuple #[.int .i64 (n : Int), .int .i64 0]) ?_ rfl ?_
      · simp [results, Tryd.results22, go_sem]
      · exact ⟨n, 0, rfl, HP.out, HB.out⟩
    · obtain ⟨rfl, h⟩ := h
      have HP := Lib.hid h
      have HB := Lib.hid hb
      clear h hb
      go_wp2
      refine bodyPost_ret (v := .tuple #[.int .i64 0, .int .i64 6]) ?_ rfl ?_
      · simp [results, Tryd.results22, go_sem]
      · exact ⟨0, 6, rfl, HP.out, HB.out⟩
  · have HX := Lib.hid (show Pt.roleX k s 0 1 by unfold Pt.roleX; rw [if_neg hk]; exact ⟨rfl, rfl⟩)
    rw [if_neg hk] at CR
    clear hk
    go_enter Tryd.func22, Tryd.ntmps22
    go_wp2_with fail
    refine (CR w).out.mono ?_
    rintro e w1 ⟨rfl, rfl⟩
    go_wp2
    refine bodyPost_ret (v := .tuple #[.int .i64 0, .int .i64 1]) ?_ rfl ?_
    · simp [results, Tryd.results22, go_sem]
    · exact ⟨0, 1, rfl, HX.out, Below.refl _ _⟩
end Go.Proofs.YthjkcncfppndkaaDoor
