/- Few and Witness of the reference. -/
import Derived.Test.YtaikegiohjpifaaBI
namespace Go.Proofs.Ytaikegiohjpifaa
open Go.RowKit
set_option maxHeartbeats 4000000 in
set_option maxRecDepth 100000 in
theorem few_any (n : Int) (v : Value) (R : List (List Int)) (w : World) (hs : SeesR w v R) :
    Calls Try.prog 7 #[.agg #[.int .i64 n, v]] w fun e w' => e = .returned (.bool (Bn.few n R)) ∧ Below w.heap.size w w' := by
  have CC := fun W (h : SeesR W v R) => Lib.hid (rChk_any n v R W h)
  have HS := Lib.hid hs
  obtain ⟨ao, cap, rfl, hcap1, hcap2, -⟩ := hs
  obtain ⟨B0, L0⟩ := boxB_new w n (.slice ao R.length cap) 24
  have HL := Lib.hid L0
  have HB := Lib.hid B0
  clear L0 B0
  by_cases h1 : R.length ≤ 50
  · have HNo := Lib.hid (fun i (hi : i < R.length) (h : 50 < (R.getD i []).length) => show Bn.few n R = false by
      have : (R.all fun r => decide (r.length ≤ 50)) = false := by
        rw [List.all_eq_false]
        refine ⟨R[i], List.getElem_mem hi, ?_⟩
        rw [List.getD_eq_getElem?_getD, List.getElem?_eq_getElem hi] at h
        simpa using h
      unfold Bn.few; rw [this]; simp)
    have HYes := Lib.hid (fun (h : ∀ i, i < R.length → (R.getD i []).length ≤ 50) => show Bn.few n R = (decide (n ≤ 5) || decide (Bn.chk n R ≠ 0)) by
      have : (R.all fun r => decide (r.length ≤ 50)) = true := by
        rw [List.all_eq_true]
        intro r hr
        obtain ⟨i, hi, rfl⟩ := List.mem_iff_getElem.1 hr
        have := h i hi
        rw [List.getD_eq_getElem?_getD, List.getElem?_eq_getElem hi] at this
        simpa using this
      unfold Bn.few; rw [this]; simp [h1])
    generalize Bn.few n R = q at *
    go_enter Try.func7, Try.ntmps7
    obtain ⟨x0, x1, x2⟩ := HB.out
    go_wp2_with fail
    clear x0 x1 x2
    go_loopw [3] (fun s3 wr => ∃ i : Nat, i ≤ R.length ∧ s3 = .int .i64 (i : Int) ∧ BoxB wr w.heap.size n (.slice ao R.length cap) ∧ Hid (Below w.heap.size w wr) ∧ Hid (∀ a, a < i → (R.getD a []).length ≤ 50)) (fun s3 _ => R.length - (intOf s3).toNat)
    case atStart => exact ⟨0, Nat.zero_le _, rfl, HB.out, HL, Lib.hid (fun a h => by omega)⟩
    case round =>
      clear HB HL
      obtain ⟨i, hi, rfl, hB, HBW, HJ⟩ := hrel
      have HB := Lib.hid hB
      obtain ⟨x0, x1, x2⟩ := hB
      by_cases hil : i < R.length
      · obtain ⟨b, off, cap', ar, cr, hv, hb, c1, hc1, hc2, -⟩ := HS.out.at HBW.out hil
        simp only [Value.slice.injEq] at hv
        obtain ⟨rfl, -, rfl⟩ := hv
        have HNi := Lib.hid (HNo.out i hil)
        have HJ2 : Hid ((R.getD i []).length ≤ 50 → ∀ a, a < i + 1 → (R.getD a []).length ≤ 50) := Lib.hid (fun h a ha => by
          by_cases e : a = i
          · rw [e]; exact h
          · exact HJ.out a (by omega))
        have hq : (i : Int) < (R.length : Int) := by omega
        clear HNo HYes HJ
        generalize (R.getD i []).length = lr at *
        by_cases hlr : lr ≤ 50
        · have HJ3 := Lib.hid (HJ2.out hlr)
          clear HJ2 HNi
          go_wp2
          all_goals first | exact ⟨⟨i + 1, by omega, by first | rfl | go_num, HB.out, HBW, HJ3⟩, by simp [intOf]; omega⟩ | (exfalso; omega)
        · have HQ := Lib.hid (HNi.out (by omega))
          clear HJ2 HNi
          go_wp2
          all_goals first | exact bodyPost_ret (v := .bool false) (by simp [results, Try.results7, go_sem]) rfl ⟨by rw [HQ.out], HBW.out⟩ | (exfalso; omega)
      · obtain rfl : i = R.length := by omega
        have HQ := Lib.hid (HYes.out HJ.out)
        clear HNo HYes HJ
        by_cases h5 : n ≤ 5
        · have hq : q = true := by rw [HQ.out]; simp [h5]
          go_wp2
          all_goals first | exact bodyPost_ret (v := .bool true) (by simp [results, Try.results7, go_sem]) rfl ⟨by rw [hq], HBW.out⟩ | (exfalso; omega)
        · have hq : q = decide (Bn.chk n R ≠ 0) := by rw [HQ.out]; simp [h5]
          have HQ2 := Lib.hid hq
          clear hq
          go_wp2_with (go_at_call 28; refine ((CC _ (HS.out.step HBW.out)).out).mono ?_; rintro e w1 ⟨rfl, hb1⟩; have HB1 := Lib.hid (below_nxt HBW.out hb1); clear hb1)
          exact bodyPost_ret (v := .bool (Bn.chk n R != 0)) (by simp [results, Try.results7, go_sem]) rfl ⟨ret_bool (by rw [HQ2.out]; by_cases h : Bn.chk n R = 0 <;> simp [h]), HB1.out⟩
  · have hr : Bn.few n R = false := by unfold Bn.few; simp [h1]
    rw [hr]
    go_enter Try.func7, Try.ntmps7
    obtain ⟨x0, x1, x2⟩ := HB.out
    go_wp2
    all_goals first | (go_ret; exact ⟨rfl, HL.out⟩) | (exfalso; omega)
end Go.Proofs.Ytaikegiohjpifaa

