/- Grow of the reference. -/
import Derived.Test.YtaikegiohjpifaaBQg
namespace Go.Proofs.Ytaikegiohjpifaa
open Go.RowKit
set_option maxHeartbeats 8000000 in
set_option maxRecDepth 100000 in
theorem rGrow_any (n a b : Int) (v : Value) (R : List (List Int)) (w : World) (hs : SeesR w v R) :
    Calls Try.prog 14 #[.agg #[.int .i64 n, v], .agg #[.int .i64 a, .int .i64 b]] w (RetB (Bn.growV n R a b) w) := by
  have CC := fun W (h : SeesR W v R) => Lib.hid (rChk_any n v R W h)
  have CT := fun W => Lib.hid (rCk3_any a b W)
  have HS := Lib.hid hs
  obtain ⟨ao, cap, rfl, hcap1, hcap2, -⟩ := hs
  obtain ⟨X, hX, hBX, hEX, hRX, hLX⟩ := proS w n a b (.slice ao R.length cap)
  have HBX := Lib.hid hBX
  have HEX := Lib.hid hEX
  have HRX := Lib.hid hRX
  have HLX := Lib.hid hLX
  obtain ⟨x0, x1, x2⟩ := hBX
  obtain ⟨y0, y1, y2⟩ := hEX
  rw [hX] at x0 x1 x2 y0 y1 y2
  clear hRX hLX
  unfold Bn.growV
  by_cases h1 : Bn.chk n R = 0
  · rw [if_pos h1]
    rw [h1] at CC
    obtain ⟨N, rfl, hN, hSh, hR⟩ := Bn.chk_ok h1
    clear h1
    by_cases hn : (N : Int) = 12
    · rw [if_pos hn]
      have hnz : ((N : Int) == 12) = true := by rw [hn]; rfl
      clear hn
      go_enter Try.func14, Try.ntmps14
      go_wp2_with fail
      rw [← hX]
      clear x0 x1 x2 y0 y1 y2
      refine ((CC X (HS.out.step HLX.out)).out).mono ?_
      rintro e w1 ⟨rfl, hb1⟩
      have HB1 := Lib.hid (below_nxt HLX.out hb1)
      have HR1 := Lib.hid (HRX.out.step hb1)
      have HX1 := Lib.hid (HBX.out.step hb1)
      have HE1 := Lib.hid (HEX.out.step hb1)
      clear hb1 HLX HRX HBX HEX
      obtain ⟨r0, r1, r2, r3, r4⟩ := HR1.out
      obtain ⟨x0, x1, x2⟩ := HX1.out
      obtain ⟨y0, y1, y2⟩ := HE1.out
      go_wp2
      obtain ⟨RW, BW, VW⟩ := fin_nilG HR1.out HB1.out (by omega)
      generalize ((w1.setCell ⟨w.heap.size + 1 + 1, 0, none⟩ (.int .i64 0)).setCell ⟨w.heap.size + 1 + 1, 1, none⟩ (.slice none 0 0)) = W2 at *
      obtain ⟨-, t1, t2, -, -⟩ := RW
      exact bodyPost_ret (v := .tuple #[.agg #[.int .i64 0, .slice none 0 0], .int .i64 5]) (by simp [results, Try.results14, go_sem, t1, t2]) rfl ⟨_, rfl, VW, BW⟩
    · rw [if_neg hn]
      have hnz : ((N : Int) == 12) = false := by rw [beq_eq_false_iff_ne]; exact hn
      by_cases h2 : Bn.spE a b = 0
      · rw [if_pos h2, Int.toNat_natCast, show ((N : Int) + 1).toNat = N + 1 by omega]
        rw [h2] at CT
        obtain ⟨q1, q2, q3⟩ := Bn.spE_ok h2
        have CM := fun W (h : SeesR W (.slice ao R.length cap) R) => Lib.hid (rMore_any N a b _ R W (by omega) hSh ⟨q1, by omega⟩ ⟨by omega, q3⟩ h)
        clear h2 hn hSh hR q1 q2 q3
        go_enter Try.func14, Try.ntmps14
        go_wp2_with fail
        rw [← hX]
        clear x0 x1 x2 y0 y1 y2
        refine ((CC X (HS.out.step HLX.out)).out).mono ?_
        rintro e w1 ⟨rfl, hb1⟩
        have HB1 := Lib.hid (below_nxt HLX.out hb1)
        have HR1 := Lib.hid (HRX.out.step hb1)
        have HX1 := Lib.hid (HBX.out.step hb1)
        have HE1 := Lib.hid (HEX.out.step hb1)
        clear hb1 HLX HRX HBX HEX
        obtain ⟨r0, r1, r2, r3, r4⟩ := HR1.out
        obtain ⟨x0, x1, x2⟩ := HX1.out
        obtain ⟨y0, y1, y2⟩ := HE1.out
        go_wp2_with fail
        refine ((CT w1).out).mono ?_
        rintro e w2 ⟨rfl, hb⟩
        have HB2 := Lib.hid (below_nxt HB1.out hb)
        have HR2 := Lib.hid (HR1.out.step hb)
        have HX2 := Lib.hid (HX1.out.step hb)
        have HE2 := Lib.hid (HE1.out.step hb)
        clear hb HB1 HR1 HX1 HE1 r0 r1 r2 r3 r4 x0 x1 x2 y0 y1 y2
        obtain ⟨r0, r1, r2, r3, r4⟩ := HR2.out
        obtain ⟨x0, x1, x2⟩ := HX2.out
        obtain ⟨y0, y1, y2⟩ := HE2.out
        go_wp2_with fail
        clear r0 r1 r2 r3 r4 x0 x1 x2 y0 y1 y2
        refine ((CM w2 (HS.out.step HB2.out)).out).mono ?_
        rintro e w4 ⟨v4, rfl, ⟨A, cp, f, c, rfl, hcp1, hcp2, hG⟩, hb4⟩
        have HF4 := Lib.hid (hG.valF hcp1 hcp2)
        have HB4 := Lib.hid (below_nxt HB2.out hb4)
        have HR4 := Lib.hid (HR2.out.step hb4)
        have hz3 := HR2.out.1
        clear hb4 hG
        obtain ⟨k0, k1, k2, k3, k4⟩ := HR4.out
        rw [show ((N + 1 : Nat) : Int) = (N : Int) + 1 from rfl] at HF4 ⊢
        go_wp2
        obtain ⟨RW, BW, VW⟩ := fin_valG HR4.out HB4.out (by omega) HF4.out hz3
        generalize ((w4.setCell ⟨w.heap.size + 1 + 1, 0, none⟩ (.int .i64 ((N : Int) + 1))).setCell ⟨w.heap.size + 1 + 1, 1, none⟩ (.slice (some ⟨A, 0, none⟩) (N + 1 + 1) cp)) = W2 at *
        obtain ⟨-, t1, t2, -, -⟩ := RW
        exact bodyPost_ret (v := .tuple #[.agg #[.int .i64 ((N : Int) + 1), .slice (some ⟨A, 0, none⟩) (N + 1 + 1) cp], .int .i64 0]) (by simp [results, Try.results14, go_sem, t1, t2]) rfl ⟨_, rfl, VW, BW⟩
      · rw [if_neg h2]
        have h2z : (Bn.spE a b != 0) = true := by simpa using h2
        generalize Bn.spE a b = c at *
        clear hn h2
        go_enter Try.func14, Try.ntmps14
        go_wp2_with fail
        rw [← hX]
        clear x0 x1 x2 y0 y1 y2
        refine ((CC X (HS.out.step HLX.out)).out).mono ?_
        rintro e w1 ⟨rfl, hb1⟩
        have HB1 := Lib.hid (below_nxt HLX.out hb1)
        have HR1 := Lib.hid (HRX.out.step hb1)
        have HX1 := Lib.hid (HBX.out.step hb1)
        have HE1 := Lib.hid (HEX.out.step hb1)
        clear hb1 HLX HRX HBX HEX
        obtain ⟨r0, r1, r2, r3, r4⟩ := HR1.out
        obtain ⟨x0, x1, x2⟩ := HX1.out
        obtain ⟨y0, y1, y2⟩ := HE1.out
        go_wp2_with fail
        refine ((CT w1).out).mono ?_
        rintro e w2 ⟨rfl, hb⟩
        have HB2 := Lib.hid (below_nxt HB1.out hb)
        have HR2 := Lib.hid (HR1.out.step hb)
        have HX2 := Lib.hid (HX1.out.step hb)
        have HE2 := Lib.hid (HE1.out.step hb)
        clear hb HB1 HR1 HX1 HE1 r0 r1 r2 r3 r4 x0 x1 x2 y0 y1 y2
        obtain ⟨r0, r1, r2, r3, r4⟩ := HR2.out
        obtain ⟨x0, x1, x2⟩ := HX2.out
        obtain ⟨y0, y1, y2⟩ := HE2.out
        go_wp2
        obtain ⟨RW, BW, VW⟩ := fin_nilG HR2.out HB2.out (by omega)
        generalize ((w2.setCell ⟨w.heap.size + 1 + 1, 0, none⟩ (.int .i64 0)).setCell ⟨w.heap.size + 1 + 1, 1, none⟩ (.slice none 0 0)) = W2 at *
        obtain ⟨-, t1, t2, -, -⟩ := RW
        exact bodyPost_ret (v := .tuple #[.agg #[.int .i64 0, .slice none 0 0], .int .i64 c]) (by simp [results, Try.results14, go_sem, t1, t2]) rfl ⟨_, rfl, VW, BW⟩
  · rw [if_neg h1]
    have hcz : (Bn.chk n R != 0) = true := by simpa using h1
    clear h1
    generalize Bn.chk n R = c at *
    go_enter Try.func14, Try.ntmps14
    go_wp2_with fail
    rw [← hX]
    clear x0 x1 x2 y0 y1 y2
    refine ((CC X (HS.out.step HLX.out)).out).mono ?_
    rintro e w1 ⟨rfl, hb1⟩
    have HB1 := Lib.hid (below_nxt HLX.out hb1)
    have HR1 := Lib.hid (HRX.out.step hb1)
    have HX1 := Lib.hid (HBX.out.step hb1)
    have HE1 := Lib.hid (HEX.out.step hb1)
    clear hb1 HLX HRX HBX HEX
    obtain ⟨r0, r1, r2, r3, r4⟩ := HR1.out
    obtain ⟨x0, x1, x2⟩ := HX1.out
    obtain ⟨y0, y1, y2⟩ := HE1.out
    go_wp2
    obtain ⟨RW, BW, VW⟩ := fin_nilG HR1.out HB1.out (by omega)
    generalize ((w1.setCell ⟨w.heap.size + 1 + 1, 0, none⟩ (.int .i64 0)).setCell ⟨w.heap.size + 1 + 1, 1, none⟩ (.slice none 0 0)) = W2 at *
    obtain ⟨-, t1, t2, -, -⟩ := RW
    exact bodyPost_ret (v := .tuple #[.agg #[.int .i64 0, .slice none 0 0], .int .i64 c]) (by simp [results, Try.results14, go_sem, t1, t2]) rfl ⟨_, rfl, VW, BW⟩
end Go.Proofs.Ytaikegiohjpifaa
