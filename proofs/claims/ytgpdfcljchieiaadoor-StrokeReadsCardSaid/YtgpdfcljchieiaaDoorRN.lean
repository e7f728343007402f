/- Format of the reference. -/
import Derived.Test.YtgpdfcljchieiaaDoorRM
namespace Go.Proofs.YtgpdfcljchieiaaDoor
open Go.RowKit
set_option maxHeartbeats 8000000 in
set_option maxRecDepth 100000 in
theorem rLines_any (v : Value) (L : List Sk.Stp) (w : World) (hs : SeeT w v L) (hc : Sk.chkF L = 0) (hl : L.length ≤ 64) : Calls Tryd.prog 52 #[v] w fun e w' => e = .returned (.string ⟨(Sk.fmtT L).toArray⟩) ∧ Below w.heap.size w w' := by
  obtain ⟨ao, cap, rfl, hcap1, hcap2, hC⟩ := hs
  have HC := Lib.hid hC
  have HAct := Lib.hid (fun i (hi : i < L.length) => Sk.chkF_at hc hi)
  have HTk := Lib.hid (fun i (hi : i < L.length) => Sk.fm_take hi)
  have HLn := Lib.hid (fun i => Sk.fmT_take_len hc hl i)
  have HQ : Hid (Sk.fmtT (L.take L.length) = Sk.fmtT L) := Lib.hid (by rw [List.take_length])
  clear hC hc
  go_enter Tryd.func52, Tryd.ntmps52
  go_wp2
  go_loopw [3, 4] (fun s3 s4 wr => ∃ i : Nat, i ≤ L.length ∧ s4 = .int .i64 (i : Int) ∧ s3 = .string ⟨(Sk.fmtT (L.take i)).toArray⟩ ∧ Hid (Below w.heap.size w wr)) (fun _ s4 _ => L.length - (intOf s4).toNat)
  case atStart => exact ⟨0, Nat.zero_le _, rfl, rfl, Lib.hid (Below.refl _ _)⟩
  case round =>
    obtain ⟨i, hi, rfl, rfl, HBW⟩ := hrel
    have hwi : IntKind.i64.wrap (i : Int) = (i : Int) := IntWalk.i64_in _ (by omega)
    have hz1 := HLn.out i
    by_cases hil : i < L.length
    · obtain ⟨g, off, ak, ck, rfl, hg, c1, c2, hk⟩ := (HC.out.step HBW.out).at (Below.refl _ _) hil
      have hck := HAct.out i hil
      have HTi := Lib.hid (HTk.out i hil)
      generalize L.getD i Sk.t0 = y at *
      obtain ⟨l, n⟩ := y
      simp only at c1 c2 hk hck
      have hK := Sk.chkP_ok hck
      have CW := fun W (h : SeeK W (.slice ak l.length ck) l) => Lib.hid (rLine_any _ l n W h hck)
      have hz2 : (⟨(Sk.stpT (l, n)).toArray⟩ : ByteArray).size ≤ 26 := by rw [size_mk]; exact Sk.stpT_len hK.1.le6 hK.2.1 hK.2.2
      have HK := Lib.hid hk
      clear HTk HAct HLn hK hk hck
      rw [← size_mk] at hz1
      by_cases h0 : i = 0
      · subst h0
        have hT2 : (⟨(Sk.fmtT (L.take 0)).toArray⟩ : ByteArray) ++ ⟨(Sk.stpT (l, n)).toArray⟩ = ⟨(Sk.fmtT (L.take (0 + 1))).toArray⟩ := by rw [HTi.out, if_pos rfl, cat_lists]; rfl
        simp only [Nat.zero_mul, Nat.add_zero] at c1 c2
        obtain ⟨T2, hE2⟩ : ∃ T2, (⟨(Sk.fmtT (L.take (0 + 1))).toArray⟩ : ByteArray) = T2 := ⟨_, rfl⟩
        rw [hE2] at hT2
        have HE2 := Lib.hid hE2
        clear hE2
        generalize (⟨(Sk.fmtT (L.take 0)).toArray⟩ : ByteArray) = T1 at *
        generalize (⟨(Sk.stpT (l, n)).toArray⟩ : ByteArray) = S at *
        clear HTi
        go_wp2_with fail
        refine ((CW _ HK.out).out).mono ?_
        rintro e w1 ⟨rfl, hb1⟩
        have HB1 := Lib.hid (below_nxt HBW.out hb1)
        clear hb1 CW c1 c2
        go_wp2
        exact ⟨⟨0 + 1, by omega, by first | rfl | go_num, by rw [HE2.out], HB1⟩, by simp [intOf]; omega⟩
      · have hT2 : ((⟨(Sk.fmtT (L.take i)).toArray⟩ : ByteArray) ++ ⟨#[59, 32]⟩) ++ ⟨(Sk.stpT (l, n)).toArray⟩ = ⟨(Sk.fmtT (L.take (i + 1))).toArray⟩ := by rw [HTi.out, if_neg h0, show (⟨#[59, 32]⟩ : ByteArray) = ⟨[(59 : UInt8), 32].toArray⟩ from rfl, cat_lists, cat_lists]
        have hip : (0 : Int) < (i : Int) := by omega
        obtain ⟨T2, hE2⟩ : ∃ T2, (⟨(Sk.fmtT (L.take (i + 1))).toArray⟩ : ByteArray) = T2 := ⟨_, rfl⟩
        rw [hE2] at hT2
        have HE2 := Lib.hid hE2
        clear hE2
        generalize (⟨(Sk.fmtT (L.take i)).toArray⟩ : ByteArray) = T1 at *
        generalize (⟨(Sk.stpT (l, n)).toArray⟩ : ByteArray) = S at *
        clear HTi
        go_wp2_with fail
        refine ((CW _ HK.out).out).mono ?_
        rintro e w1 ⟨rfl, hb1⟩
        have HB1 := Lib.hid (below_nxt HBW.out hb1)
        clear hb1 CW c1 c2
        go_wp2
        exact ⟨⟨i + 1, by omega, by first | rfl | go_num, by rw [HE2.out], HB1⟩, by simp [intOf]; omega⟩
    · obtain rfl : i = L.length := by omega
      rw [HQ.out]
      go_wp2
      go_ret
      exact ⟨rfl, HBW.out⟩
set_option maxHeartbeats 8000000 in
set_option maxRecDepth 100000 in
theorem rSteps_any (v : Value) (L : List Sk.Stp) (w : World) (hs : SeeT w v L) : Calls Tryd.prog 51 #[v] w fun e w' => e = .returned (.int .i64 (if 64 < L.length then 5 else Sk.chkF L)) ∧ Below w.heap.size w w' := by
  obtain ⟨ao, cap, rfl, hcap1, hcap2, hC⟩ := hs
  have HC := Lib.hid hC
  clear hC
  by_cases h64 : 64 < L.length
  · rw [if_pos h64]
    have h' : decide (64 < (L.length : Int)) = true := decide_eq_true (by omega)
    go_enter Tryd.func51, Tryd.ntmps51
    go_wp2
    go_ret
    exact ⟨rfl, Below.refl _ _⟩
  · rw [if_neg h64]
    have h' : decide (64 < (L.length : Int)) = false := decide_eq_false (by omega)
    have HNo := Lib.hid (fun i (hi : i < L.length) (hb : ∀ a, a < i → Sk.chkP (L.getD a Sk.t0).1 (L.getD a Sk.t0).2 = 0) (h : Sk.chkP (L.getD i Sk.t0).1 (L.getD i Sk.t0).2 ≠ 0) => show Sk.chkF L = Sk.chkP (L.getD i Sk.t0).1 (L.getD i Sk.t0).2 from Sk.fe_stop hb h hi)
    have HYes := Lib.hid (fun h => Sk.chkF_of (L := L) h)
    generalize Sk.chkF L = q at *
    go_enter Tryd.func51, Tryd.ntmps51
    go_wp2
    go_loopw [3] (fun s3 wr => ∃ i : Nat, i ≤ L.length ∧ s3 = .int .i64 (i : Int) ∧ Hid (∀ a, a < i → Sk.chkP (L.getD a Sk.t0).1 (L.getD a Sk.t0).2 = 0) ∧ Hid (Below w.heap.size w wr)) (fun s3 _ => L.length - (intOf s3).toNat)
    case atStart => exact ⟨0, Nat.zero_le _, rfl, Lib.hid (fun a h => by omega), Lib.hid (Below.refl _ _)⟩
    case round =>
      obtain ⟨i, hi, rfl, HJ, HBW⟩ := hrel
      have hwi : IntKind.i64.wrap (i : Int) = (i : Int) := IntWalk.i64_in _ (by omega)
      by_cases hil : i < L.length
      · obtain ⟨g, off, ak, ck, rfl, hg, c1, c2, hk⟩ := (HC.out.step HBW.out).at (Below.refl _ _) hil
        have HNi := Lib.hid (HNo.out i hil HJ.out)
        have HJ2 : Hid (Sk.chkP (L.getD i Sk.t0).1 (L.getD i Sk.t0).2 = 0 → ∀ a, a < i + 1 → Sk.chkP (L.getD a Sk.t0).1 (L.getD a Sk.t0).2 = 0) := Lib.hid (fun h a ha => by
          by_cases e : a = i
          · rw [e]; exact h
          · exact HJ.out a (by omega))
        clear HNo HYes HJ
        generalize L.getD i Sk.t0 = y at *
        obtain ⟨l, n⟩ := y
        simp only at c1 c2 hk HNi HJ2
        have HK := Lib.hid hk
        have CS := fun W (h : SeeK W (.slice ak l.length ck) l) => Lib.hid (rStp_any (.slice ak l.length ck) l n W h)
        generalize Sk.chkP l n = c at *
        clear hk
        go_wp2_with fail
        refine ((CS _ HK.out).out).mono ?_
        rintro e w1 ⟨rfl, hb1⟩
        have HB1 := Lib.hid (below_nxt HBW.out hb1)
        clear hb1 CS c1 c2
        by_cases h0 : c = 0
        · have HJ3 := Lib.hid (HJ2.out h0)
          subst h0
          clear HNi HJ2
          go_wp2
          exact ⟨⟨i + 1, by omega, by first | rfl | go_num, HJ3, HB1⟩, by simp [intOf]; omega⟩
        · have hq := HNi.out h0
          have hc : (c == 0) = false := by rw [beq_eq_false_iff_ne]; exact h0
          subst hq
          clear HNi HJ2 h0
          go_wp2
          go_ret
          exact ⟨rfl, HB1.out⟩
      · obtain rfl : i = L.length := by omega
        have hq := HYes.out HJ.out
        subst hq
        go_wp2
        go_ret
        exact ⟨rfl, HBW.out⟩
set_option maxHeartbeats 4000000 in
set_option maxRecDepth 100000 in
theorem rFmt_any (v : Value) (L : List Sk.Stp) (w : World) (hs : SeeT w v L) : Calls Tryd.prog 28 #[v] w (FmtP (Sk.fmtV L) w) := by
  have CS := fun W (h : SeeT W v L) => Lib.hid (rSteps_any v L W h)
  have HS := Lib.hid hs
  have HF := Lib.hid (show Sk.fmtV L = if (if 64 < L.length then 5 else Sk.chkF L) = 0 then (Sk.fmtT L, 0) else ([], if 64 < L.length then 5 else Sk.chkF L) by
    unfold Sk.fmtV
    by_cases h : 64 < L.length
    · rw [if_pos h, if_pos h, if_neg (by decide)]
    · rw [if_neg h, if_neg h])
  by_cases h0 : (if 64 < L.length then 5 else Sk.chkF L) = 0
  · have hv : Sk.fmtV L = (Sk.fmtT L, 0) := by rw [HF.out, if_pos h0]
    have h64 : ¬ 64 < L.length := fun h => by rw [if_pos h] at h0; omega
    have hch : Sk.chkF L = 0 := by rw [if_neg h64] at h0; exact h0
    have CL := fun W (h : SeeT W v L) => Lib.hid (rLines_any v L W h hch (by omega))
    rw [hv]
    rw [h0] at CS
    clear hv h64 hch h0 HF
    generalize Sk.fmtT L = lt at *
    obtain ⟨ao, cap, rfl, -⟩ := hs
    go_enter Tryd.func28, Tryd.ntmps28
    go_wp2_with fail
    refine ((CS _ HS.out).out).mono ?_
    rintro e w1 ⟨rfl, hb1⟩
    have HB1 := Lib.hid hb1
    clear hb1
    go_wp2_with fail
    refine ((CL _ (HS.out.step HB1.out)).out).mono ?_
    rintro e w2 ⟨rfl, hb2⟩
    have HB2 := Lib.hid (below_nxt HB1.out hb2)
    clear hb2
    go_wp2
    exact bodyPost_ret (v := .tuple #[.string ⟨lt.toArray⟩, .int .i64 0]) (by simp [results, Tryd.results28, go_sem]) rfl ⟨rfl, HB2.out⟩
  · have hv := HF.out
    rw [if_neg h0] at hv
    rw [hv]
    clear hv HF
    generalize (if 64 < L.length then 5 else Sk.chkF L) = c at *
    have hc : (c == 0) = false := by rw [beq_eq_false_iff_ne]; exact h0
    obtain ⟨ao, cap, rfl, -⟩ := hs
    go_enter Tryd.func28, Tryd.ntmps28
    go_wp2_with fail
    refine ((CS _ HS.out).out).mono ?_
    rintro e w1 ⟨rfl, hb1⟩
    have HB1 := Lib.hid hb1
    clear hb1
    go_wp2
    exact bodyPost_ret (v := .tuple #[.string ⟨#[]⟩, .int .i64 c]) (by simp [results, Tryd.results28, go_sem]) rfl ⟨rfl, HB1.out⟩
end Go.Proofs.YtgpdfcljchieiaaDoor
