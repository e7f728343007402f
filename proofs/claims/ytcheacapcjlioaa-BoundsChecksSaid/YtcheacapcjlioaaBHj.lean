/- Holds of the reference: all of it. -/
import Derived.Test.YtcheacapcjlioaaBHi
namespace Go.Proofs.Ytcheacapcjlioaa
open Go.RowKit
set_option maxHeartbeats 4000000 in
set_option maxRecDepth 100000 in
theorem rHol_any (n : Int) (v il : Value) (R : List (List Int)) (ts : List Int) (w : World) (hs : SeesR w v R) (hl : SeeI w il ts) (hnil : ∀ n c, il = .slice none n c → c = 0) :
    Calls Try.prog 13 #[.agg #[.int .i64 n, v], il] w (HolP (Bn.hldV n R ts) w) := by
  have CC := fun W (h : SeesR W v R) => Lib.hid (rChk_any n v R W h)
  have HS := Lib.hid hs
  have HI := Lib.hid hl
  have hnil := Lib.hid hnil
  obtain ⟨ao, cap, rfl, hcap1, hcap2, -⟩ := hs
  obtain ⟨io, icap, rfl, hi1, hi2, hI⟩ := hl
  have HC := Lib.hid hI
  obtain ⟨B0, L0⟩ := boxB_new w n (.slice ao R.length cap) 24
  have HL := Lib.hid L0
  have HSX := Lib.hid (HS.out.step L0)
  have HB := Lib.hid B0
  clear L0 hI B0
  by_cases h1 : Bn.chk n R = 0
  · obtain ⟨N, rfl, hN, hSh, hR⟩ := Bn.chk_ok h1
    have hv : Bn.hldV N R ts = if (ts.length : Int) = N then (if ts.all Bn.num then (Bn.hldB N R ts, 0) else (false, 2)) else (false, 8) := by unfold Bn.hldV; rw [if_pos h1, Int.toNat_natCast]
    rw [h1] at CC
    by_cases h2 : ts.length = N
    · subst h2
      rw [if_pos rfl] at hv
      have HNo := Lib.hid (fun i (hi : i < ts.length) (h : Bn.num (ts.getD i 0) = false) => show Bn.hldV ts.length R ts = (false, 2) by rw [hv, Bn.all_num_no hi h]; rfl)
      have HYes := Lib.hid (fun (h : ∀ i, i < ts.length → Bn.num (ts.getD i 0) = true) => show Bn.hldV ts.length R ts = (Bn.hldB ts.length R ts, 0) ∧ ts.all Bn.num = true from ⟨by rw [hv, Bn.all_num_of h]; rfl, Bn.all_num_of h⟩)
      have CK := fun W (hnum : ts.all Bn.num = true) (h : SeesR W (.slice ao R.length cap) R) (h2 : SeeI W (.slice io ts.length icap) ts) => Lib.hid (rKept_any ts.length _ _ R ts W hN rfl hnum hSh hR h h2 hnil.out)
      have CN := fun x W => Lib.hid (rIn_any x W)
      clear hv h1 hSh hR
      generalize Bn.hldV ts.length R ts = q at *
      go_enter Try.func13, Try.ntmps13
      go_wp2_with fail
      refine ((CC _ HSX.out).out).mono ?_
      rintro e w1 ⟨rfl, hb1⟩
      have HB1 := Lib.hid (below_nxt HL.out hb1)
      have HBx := Lib.hid (HB.out.step hb1)
      obtain ⟨b0, b1, b2⟩ := HBx.out
      clear hb1
      go_wp2
      go_loopw [7] (fun s17 wr => ∃ i : Nat, i ≤ ts.length ∧ s17 = .int .i64 (i : Int) ∧ BoxB wr w.heap.size ts.length (.slice ao R.length cap) ∧ Hid (∀ a, a < i → Bn.num (ts.getD a 0) = true) ∧ Hid (Below w.heap.size w wr)) (fun s17 _ => ts.length - (intOf s17).toNat)
      case atStart => exact ⟨0, Nat.zero_le _, rfl, HBx.out, Lib.hid (fun a h => by omega), HB1⟩
      case round =>
        clear HBx HB1 b0 b1 b2
        obtain ⟨i, hi, rfl, hB, HJ, HBW⟩ := hrel
        have HBx := Lib.hid hB
        obtain ⟨b0, b1, b2⟩ := hB
        by_cases hil : i < ts.length
        · obtain ⟨b, off, rfl, hb, c1⟩ := HC.out.at HBW.out hil
          have HNi := Lib.hid (HNo.out i hil)
          have HJ2 : Hid (Bn.num (ts.getD i 0) = true → ∀ a, a < i + 1 → Bn.num (ts.getD a 0) = true) := Lib.hid (fun h a ha => by
            by_cases e : a = i
            · rw [e]; exact h
            · exact HJ.out a (by omega))
          have CN2 := CN (ts.getD i 0)
          clear HNo HYes HJ CN
          generalize ts.getD i 0 = x at *
          cases hx : Bn.num x <;> rw [hx] at CN2 HNi HJ2
          · have HN2 := Lib.hid (HNi.out rfl)
            clear hx HJ2 HNi
            go_wp2_with fail
            refine ((CN2 _).out).mono ?_
            rintro e w3 ⟨rfl, rfl⟩
            go_wp2
            exact bodyPost_ret (v := .tuple #[.bool false, .int .i64 2]) (by simp [results, Try.results13, go_sem]) rfl ⟨by rw [HN2.out], HBW.out⟩
          · have HJ3 := Lib.hid (HJ2.out rfl)
            clear hx HJ2 HNi
            go_wp2_with fail
            refine ((CN2 _).out).mono ?_
            rintro e w3 ⟨rfl, rfl⟩
            go_wp2
            exact ⟨⟨i + 1, by omega, by first | rfl | go_num, HBx.out, HJ3, HBW⟩, by simp [intOf]; omega⟩
        · obtain rfl : i = ts.length := by omega
          obtain ⟨hq, hnum⟩ := HYes.out HJ.out
          have HNum := Lib.hid hnum
          subst hq
          clear HNo HYes HJ hnum CN
          have HSr := Lib.hid (HS.out.step HBW.out)
          have HIr := Lib.hid (HI.out.step HBW.out)
          go_wp2_with fail
          refine ((CK _ HNum.out HSr.out HIr.out).out).mono ?_
          rintro e w3 ⟨rfl, hb3⟩
          have HB3 := Lib.hid (below_nxt HBW.out hb3)
          clear hb3
          go_wp2
          exact bodyPost_ret (v := .tuple #[.bool (Bn.hldB ts.length R ts), .int .i64 0]) (by simp [results, Try.results13, go_sem]) rfl ⟨rfl, HB3.out⟩
    · have hv2 : Bn.hldV N R ts = (false, 8) := by rw [hv, if_neg (by omega)]
      rw [hv2]
      have hne : (ts.length == N) = false := by simpa using h2
      clear hv hv2 h1 hSh hR h2
      go_enter Try.func13, Try.ntmps13
      go_wp2_with fail
      refine ((CC _ HSX.out).out).mono ?_
      rintro e w1 ⟨rfl, hb1⟩
      have HB1 := Lib.hid (below_nxt HL.out hb1)
      obtain ⟨b0, b1, b2⟩ := HB.out.step hb1
      clear hb1
      go_wp2
      exact bodyPost_ret (v := .tuple #[.bool false, .int .i64 8]) (by simp [results, Try.results13, go_sem]) rfl ⟨rfl, HB1.out⟩
  · have hv : Bn.hldV n R ts = (false, Bn.chk n R) := if_neg h1
    rw [hv]
    clear hv
    generalize Bn.chk n R = q at *
    go_enter Try.func13, Try.ntmps13
    go_wp2_with fail
    refine ((CC _ HSX.out).out).mono ?_
    rintro e w1 ⟨rfl, hb1⟩
    have HB1 := Lib.hid (below_nxt HL.out hb1)
    clear hb1
    go_wp2
    exact bodyPost_ret (v := .tuple #[.bool false, .int .i64 q]) (by simp [results, Try.results13, go_sem]) rfl ⟨rfl, HB1.out⟩
end Go.Proofs.Ytcheacapcjlioaa
