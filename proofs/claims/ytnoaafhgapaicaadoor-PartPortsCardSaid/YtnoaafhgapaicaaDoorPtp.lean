/- All of the reference is what Ports has; Ports of the reference; the statement PartPorts. -/
import Derived.Test.YtnoaafhgapaicaaDoorPto
import Derived.Test.YtnoaafhgapaicaaDoorGM
namespace Pt
theorem all_asc : ∀ k, k < 14 → ((allS k 5).map (·.data.toList)).Pairwise (· ≤ ·) := by decide +kernel
theorem all_perm : ∀ k, k < 14 → (((pre (cat k) 5).map (·.data.toList)).isPerm ((allS k 5).map (·.data.toList))) = true := by decide +kernel
theorem back_list (l : List ByteArray) : (l.map (·.data.toList)).map (fun x => (⟨x.toArray⟩ : ByteArray)) = l := by
  rw [List.map_map]
  have : ((fun x => (⟨x.toArray⟩ : ByteArray)) ∘ fun (x : ByteArray) => x.data.toList) = id := by
    funext x
    simp
  rw [this, List.map_id]
theorem all_srt (k : Nat) (hk : k < 14) : srt (pre (cat k) 5) = allS k 5 := by
  have hp := List.pairwise_mergeSort (le := fun (x y : List UInt8) => decide (x ≤ y)) (fun a b c h1 h2 => by
    simp only [decide_eq_true_eq] at *
    exact List.le_trans h1 h2) (fun a b => by
    simp only [Bool.or_eq_true, decide_eq_true_eq]
    exact List.le_total a b) ((pre (cat k) 5).map (·.data.toList))
  have hs : srt (pre (cat k) 5) = (((pre (cat k) 5).map (·.data.toList)).mergeSort fun x y => decide (x ≤ y)).map fun x => ⟨x.toArray⟩ := rfl
  have hq := List.mergeSort_perm ((pre (cat k) 5).map (·.data.toList)) (fun x y => decide (x ≤ y))
  have h1 := all_asc k hk
  have h2 := List.isPerm_iff.1 (all_perm k hk)
  have e := List.Perm.eq_of_pairwise (le := fun (x y : List UInt8) => x ≤ y) (fun a b _ _ x y => List.le_antisymm x y) (hp.imp (fun h => by simpa using h)) h1 (hq.trans h2)
  rw [hs, e, back_list]
end Pt
namespace Go.Proofs.YtnoaafhgapaicaaDoor
open Go.RowKit
set_option maxHeartbeats 4000000 in
set_option maxRecDepth 100000 in
theorem rPorts_any (k : Int) (w : World) : Calls Tryd.prog 20 #[.int .i64 k] w fun e w' => ∃ v, e = .returned (.tuple #[v, .int .i64 (Pt.errV k)]) ∧ SeeS w' v (Pt.porV k) ∧ Below w.heap.size w w' := by
  have CR := fun W => Lib.hid (rRight_any k W)
  unfold Pt.errV Pt.porV
  by_cases hk : 0 ≤ k ∧ k < 14
  · obtain ⟨c, rfl⟩ := Int.eq_ofNat_of_zero_le hk.1
    have CM := fun W => Lib.hid (rAll_any c (by omega) W)
    rw [if_pos hk] at CR
    simp only [if_pos hk, Int.toNat_natCast]
    rw [Pt.all_srt c (by omega)]
    clear hk
    generalize Pt.allS c 5 = l at *
    go_enter Tryd.func20, Tryd.ntmps20
    go_wp2_with fail
    refine (CR w).out.mono ?_
    rintro e w1 ⟨rfl, rfl⟩
    go_wp2_with fail
    refine (CM w1).out.mono ?_
    rintro e w2 ⟨v, rfl, h, hb⟩
    have HS := Lib.hid h
    have HB := Lib.hid hb
    clear h hb
    go_wp2
    refine bodyPost_ret (v := .tuple #[v, .int .i64 0]) ?_ rfl ?_
    · simp [results, Tryd.results20, go_sem]
    · exact ⟨v, rfl, HS.out, HB.out⟩
  · rw [if_neg hk] at CR
    simp only [if_neg hk]
    clear hk
    go_enter Tryd.func20, Tryd.ntmps20
    go_wp2_with fail
    refine (CR w).out.mono ?_
    rintro e w1 ⟨rfl, rfl⟩
    go_wp2
    refine bodyPost_ret (v := .tuple #[.slice none 0 0, .int .i64 1]) ?_ rfl ?_
    · simp [results, Tryd.results20, go_sem]
    · exact ⟨_, rfl, SeeS.nil _, Below.refl _ _⟩
set_option maxHeartbeats 8000000 in
set_option maxRecDepth 100000 in
theorem ports_card (k : Int) (s : ByteArray) (w : World) (hst : Lx w) (_ : -9223372036854775808 ≤ k) (_ : k ≤ 9223372036854775807) (hs : s.size ≤ 9223372036854775807) :
    Calls Tryd.prog 4 #[.int .i64 k, .string s] w fun e w' => e = .returned (.bool true) ∧ Below w.heap.size w w' := by
  have HX := Lib.hid hst
  have CA := fun W (h : Lx W) => Lib.hid (awake20_any W h)
  clear hst
  by_cases hl : s.size ≤ 60
  · have C1 := fun W => Lib.hid (pPorts_any k W)
    have C2 := fun W => Lib.hid (rPorts_any k W)
    have C3 := fun W => Lib.hid (pRole_any k s W)
    have C4 := fun W => Lib.hid (rRole_any k s W)
    have C5 := fun W => Lib.hid (pPos_any k W)
    have C6 := fun W => Lib.hid (rPos_any k W)
    have CO := fun n m e f => Lib.hid (@Pt.roleX_one k s n m e f)
    have hl2 : ¬ ((60 : Int) < (s.size : Int)) := by omega
    have hl3 : ¬ (60 < s.size) := by omega
    generalize Pt.errV k = e0 at *
    generalize Pt.porV k = l at *
    generalize (Pt.posV k).1 = x0 at *
    generalize (Pt.posV k).2 = y0 at *
    generalize Pt.roleX k s = RX at *
    go_enter Tryd.func4, Tryd.ntmps4
    go_wp2_with fail
    clear hl hl2 hl3 hs
    refine (C1 w).out.mono ?_
    rintro e w1 ⟨v1, rfl, h1, hb1⟩
    have HB1 := Lib.hid hb1
    have S1 := Lib.hid h1
    clear hb1 h1 C1
    go_wp2_with fail
    refine (C2 w1).out.mono ?_
    rintro e w2 ⟨v2, rfl, h2, hb2⟩
    have HB2 := Lib.hid (below_nxt HB1.out hb2)
    have S12 := Lib.hid (S1.out.step hb2)
    have S2 := Lib.hid h2
    clear hb2 h2 C2 HB1 S1
    go_wp2_with fail
    refine (C3 w2).out.mono ?_
    rintro e w3 ⟨n3, e3, rfl, h3, hb3⟩
    have HB3 := Lib.hid (below_nxt HB2.out hb3)
    have S13 := Lib.hid (S12.out.step hb3)
    have S23 := Lib.hid (S2.out.step hb3)
    have S3 := Lib.hid h3
    clear hb3 h3 C3 HB2 S12 S2
    go_wp2_with fail
    refine (C4 w3).out.mono ?_
    rintro e w4 ⟨n4, e4, rfl, h4, hb4⟩
    have HB4 := Lib.hid (below_nxt HB3.out hb4)
    have S14 := Lib.hid (S13.out.step hb4)
    have S24 := Lib.hid (S23.out.step hb4)
    obtain ⟨rfl, rfl⟩ := (CO _ _ _ _).out S3.out h4
    clear hb4 h4 C4 HB3 S13 S23 S3 CO
    go_wp2_with fail
    refine (C5 w4).out.mono ?_
    rintro e w5 ⟨rfl, hb5⟩
    have HB5 := Lib.hid (below_nxt HB4.out hb5)
    have S15 := Lib.hid (S14.out.step hb5)
    have S25 := Lib.hid (S24.out.step hb5)
    clear hb5 C5 HB4 S14 S24
    go_wp2_with fail
    refine (C6 w5).out.mono ?_
    rintro e w6 ⟨rfl, hb6⟩
    have HB6 := Lib.hid (below_nxt HB5.out hb6)
    have S16 := Lib.hid (S15.out.step hb6)
    have S26 := Lib.hid (S25.out.step hb6)
    clear hb6 C6 HB5 S15 S25
    go_wp2_with fail
    refine (CA _ (HX.out.next HB6.out)).out.mono ?_
    rintro e w7 ⟨rfl, hb7⟩
    have HB7 := Lib.hid (below_nxt HB6.out hb7)
    have S17 := Lib.hid (S16.out.step hb7)
    have S27 := Lib.hid (S26.out.step hb7)
    clear hb7 CA HB6 S16 S26
    go_wp2_with fail
    refine (eqS_any v1 v2 l l w7 S17.out S27.out rfl).mono ?_
    rintro e w8 ⟨rfl, hb8⟩
    have HB8 := Lib.hid (below_nxt HB7.out hb8)
    clear hb8 HB7 S17 S27
    go_wp2
    go_ret
    exact ⟨rfl, HB8.out⟩
  · have hl2 : (60 : Int) < (s.size : Int) := by omega
    have hl3 : 60 < s.size := by omega
    go_enter Tryd.func4, Tryd.ntmps4
    go_wp2_with fail
    refine (CA w HX.out).out.mono ?_
    rintro e w1 ⟨rfl, hb1⟩
    have HB1 := Lib.hid hb1
    clear hb1
    go_wp2
    go_ret
    exact ⟨rfl, HB1.out⟩
end Go.Proofs.YtnoaafhgapaicaaDoor
