/- Add of the reference. -/
import Derived.Test.YtaikegiohjpifaaBQb
namespace Bn
theorem addV_bad {n : Int} {R : List (List Int)} (h : chk n R ≠ 0) (i j most : Int) : addV n R i j most = (0, [], chk n R) := by
  have e : cix n R 0 [i, j] = chk n R := by unfold cix; rw [if_neg h]
  unfold addV
  rw [e, if_neg h]
theorem addV_idx {n : Int} {R : List (List Int)} (h : chk n R = 0) {i j : Int} (most : Int) (hi : idx 0 n i = false ∨ idx 0 n j = false) : addV n R i j most = (0, [], 2) := by
  have e : cix n R 0 [i, j] = 2 := by
    unfold cix
    rw [if_pos h, if_neg]
    simp only [List.all_cons, List.all_nil, Bool.and_true]
    rcases hi with hi | hi <;> rw [hi] <;> simp
  unfold addV
  rw [e, if_neg (by decide)]
theorem addV_ok {n : Int} {R : List (List Int)} (h : chk n R = 0) {i j : Int} (most : Int) (hi : idx 0 n i = true) (hj : idx 0 n j = true) : addV n R i j most = if i = j then (0, [], 1) else (if num most then Go.Proofs.Ytaikegiohjpifaa.Bn.bV n.toNat (addM R i.toNat j.toNat most) else (0, [], 2)) := by
  have e : cix n R 0 [i, j] = 0 := by
    unfold cix
    rw [if_pos h, if_pos]
    simp only [List.all_cons, List.all_nil, Bool.and_true]
    rw [hi, hj]; rfl
  unfold addV
  rw [if_pos e]
end Bn
namespace Go.Proofs.Ytaikegiohjpifaa
open Go.RowKit
set_option maxHeartbeats 8000000 in
set_option maxRecDepth 100000 in
theorem rAdd_any (n i j most : Int) (v : Value) (R : List (List Int)) (w : World) (hs : SeesR w v R) :
    Calls Try.prog 12 #[.agg #[.int .i64 n, v], .int .i64 i, .int .i64 j, .int .i64 most] w (RetB (Bn.addV n R i j most) w) := by
  have CC := fun W (h : SeesR W v R) => Lib.hid (rChk_any n v R W h)
  have CN := fun W => Lib.hid (rIn_any most W)
  have HS := Lib.hid hs
  obtain ⟨ao, cap, rfl, hcap1, hcap2, -⟩ := hs
  have CI := fun W => Lib.hid (rIdx_any n i ao R.length cap W)
  have CJ := fun W => Lib.hid (rIdx_any n j ao R.length cap W)
  obtain ⟨X, hX, hBX, hRX, hLX, hZX⟩ := pro2 w n (.slice ao R.length cap)
  have HBX := Lib.hid hBX
  have HRX := Lib.hid hRX
  have HLX := Lib.hid hLX
  obtain ⟨x0, x1, x2⟩ := hBX
  rw [hX] at x0 x1 x2
  clear hRX hLX
  by_cases h1 : Bn.chk n R = 0
  · rw [h1] at CC
    cases hi : Bn.idx 0 n i <;> rw [hi] at CI
    · rw [Bn.addV_idx h1 most (.inl hi)]
      clear h1
      go_enter Try.func12, Try.ntmps12
      go_wp2_with fail
      rw [← hX]
      clear x0 x1 x2
      refine ((CC X (HS.out.step HLX.out)).out).mono ?_
      rintro e w1 ⟨rfl, hb1⟩
      have HB1 := Lib.hid (below_nxt HLX.out hb1)
      have HR1 := Lib.hid (HRX.out.step hb1)
      have HX1 := Lib.hid (HBX.out.step hb1)
      clear hb1 HLX HRX HBX
      obtain ⟨r0, r1, r2, r3, r4⟩ := HR1.out
      obtain ⟨x0, x1, x2⟩ := HX1.out
      go_wp2_with fail
      refine ((CI _).out).mono ?_
      rintro e w2 ⟨rfl, hb⟩
      have HB2 := Lib.hid (below_nxt HB1.out hb)
      have HR2 := Lib.hid (HR1.out.step hb)
      have HX2 := Lib.hid (HX1.out.step hb)
      clear hb r0 r1 r2 r3 r4 x0 x1 x2
      obtain ⟨r0, r1, r2, r3, r4⟩ := HR2.out
      obtain ⟨x0, x1, x2⟩ := HX2.out
      go_wp2
      obtain ⟨RW, BW, VW⟩ := fin_nil HR2.out HB2.out
      generalize ((w2.setCell ⟨w.heap.size + 1, 0, none⟩ (.int .i64 0)).setCell ⟨w.heap.size + 1, 1, none⟩ (.slice none 0 0)) = W2 at *
      obtain ⟨-, t1, t2, -, -⟩ := RW
      exact bodyPost_ret (v := .tuple #[.agg #[.int .i64 0, .slice none 0 0], .int .i64 2]) (by simp [results, Try.f12, go_sem, t1, t2]) rfl ⟨_, rfl, VW, BW⟩
    · cases hj : Bn.idx 0 n j <;> rw [hj] at CJ
      · rw [Bn.addV_idx h1 most (.inr hj)]
        clear h1
        go_enter Try.func12, Try.ntmps12
        go_wp2_with fail
        rw [← hX]
        clear x0 x1 x2
        refine ((CC X (HS.out.step HLX.out)).out).mono ?_
        rintro e w1 ⟨rfl, hb1⟩
        have HB1 := Lib.hid (below_nxt HLX.out hb1)
        have HR1 := Lib.hid (HRX.out.step hb1)
        have HX1 := Lib.hid (HBX.out.step hb1)
        clear hb1 HLX HRX HBX
        obtain ⟨r0, r1, r2, r3, r4⟩ := HR1.out
        obtain ⟨x0, x1, x2⟩ := HX1.out
        go_wp2_with fail
        refine ((CI _).out).mono ?_
        rintro e w2 ⟨rfl, hb⟩
        have HB2 := Lib.hid (below_nxt HB1.out hb)
        have HR2 := Lib.hid (HR1.out.step hb)
        have HX2 := Lib.hid (HX1.out.step hb)
        clear hb r0 r1 r2 r3 r4 x0 x1 x2
        obtain ⟨r0, r1, r2, r3, r4⟩ := HR2.out
        obtain ⟨x0, x1, x2⟩ := HX2.out
        go_wp2_with fail
        refine ((CJ _).out).mono ?_
        rintro e w3 ⟨rfl, hb⟩
        have HB3 := Lib.hid (below_nxt HB2.out hb)
        have HR3 := Lib.hid (HR2.out.step hb)
        have HX3 := Lib.hid (HX2.out.step hb)
        clear hb r0 r1 r2 r3 r4 x0 x1 x2
        obtain ⟨r0, r1, r2, r3, r4⟩ := HR3.out
        obtain ⟨x0, x1, x2⟩ := HX3.out
        go_wp2
        obtain ⟨RW, BW, VW⟩ := fin_nil HR3.out HB3.out
        generalize ((w3.setCell ⟨w.heap.size + 1, 0, none⟩ (.int .i64 0)).setCell ⟨w.heap.size + 1, 1, none⟩ (.slice none 0 0)) = W2 at *
        obtain ⟨-, t1, t2, -, -⟩ := RW
        exact bodyPost_ret (v := .tuple #[.agg #[.int .i64 0, .slice none 0 0], .int .i64 2]) (by simp [results, Try.f12, go_sem, t1, t2]) rfl ⟨_, rfl, VW, BW⟩
      · rw [Bn.addV_ok h1 most hi hj]
        by_cases hij : i = j
        · rw [if_pos hij]
          subst hij
          clear h1
          go_enter Try.func12, Try.ntmps12
          go_wp2_with fail
          rw [← hX]
          clear x0 x1 x2
          refine ((CC X (HS.out.step HLX.out)).out).mono ?_
          rintro e w1 ⟨rfl, hb1⟩
          have HB1 := Lib.hid (below_nxt HLX.out hb1)
          have HR1 := Lib.hid (HRX.out.step hb1)
          have HX1 := Lib.hid (HBX.out.step hb1)
          clear hb1 HLX HRX HBX
          obtain ⟨r0, r1, r2, r3, r4⟩ := HR1.out
          obtain ⟨x0, x1, x2⟩ := HX1.out
          go_wp2_with fail
          refine ((CI _).out).mono ?_
          rintro e w2 ⟨rfl, hb⟩
          have HB2 := Lib.hid (below_nxt HB1.out hb)
          have HR2 := Lib.hid (HR1.out.step hb)
          have HX2 := Lib.hid (HX1.out.step hb)
          clear hb r0 r1 r2 r3 r4 x0 x1 x2
          obtain ⟨r0, r1, r2, r3, r4⟩ := HR2.out
          obtain ⟨x0, x1, x2⟩ := HX2.out
          go_wp2_with fail
          refine ((CJ _).out).mono ?_
          rintro e w3 ⟨rfl, hb⟩
          have HB3 := Lib.hid (below_nxt HB2.out hb)
          have HR3 := Lib.hid (HR2.out.step hb)
          have HX3 := Lib.hid (HX2.out.step hb)
          clear hb r0 r1 r2 r3 r4 x0 x1 x2
          obtain ⟨r0, r1, r2, r3, r4⟩ := HR3.out
          obtain ⟨x0, x1, x2⟩ := HX3.out
          go_wp2
          obtain ⟨RW, BW, VW⟩ := fin_nil HR3.out HB3.out
          generalize ((w3.setCell ⟨w.heap.size + 1, 0, none⟩ (.int .i64 0)).setCell ⟨w.heap.size + 1, 1, none⟩ (.slice none 0 0)) = W2 at *
          obtain ⟨-, t1, t2, -, -⟩ := RW
          exact bodyPost_ret (v := .tuple #[.agg #[.int .i64 0, .slice none 0 0], .int .i64 1]) (by simp [results, Try.f12, go_sem, t1, t2]) rfl ⟨_, rfl, VW, BW⟩
        · rw [if_neg hij]
          have hijz : (i == j) = false := by rw [beq_eq_false_iff_ne]; exact hij
          cases hn : Bn.num most <;> rw [hn] at CN
          · rw [if_neg (by decide)]
            clear h1 hij
            go_enter Try.func12, Try.ntmps12
            go_wp2_with fail
            rw [← hX]
            clear x0 x1 x2
            refine ((CC X (HS.out.step HLX.out)).out).mono ?_
            rintro e w1 ⟨rfl, hb1⟩
            have HB1 := Lib.hid (below_nxt HLX.out hb1)
            have HR1 := Lib.hid (HRX.out.step hb1)
            have HX1 := Lib.hid (HBX.out.step hb1)
            clear hb1 HLX HRX HBX
            obtain ⟨r0, r1, r2, r3, r4⟩ := HR1.out
            obtain ⟨x0, x1, x2⟩ := HX1.out
            go_wp2_with fail
            refine ((CI _).out).mono ?_
            rintro e w2 ⟨rfl, hb⟩
            have HB2 := Lib.hid (below_nxt HB1.out hb)
            have HR2 := Lib.hid (HR1.out.step hb)
            have HX2 := Lib.hid (HX1.out.step hb)
            clear hb r0 r1 r2 r3 r4 x0 x1 x2
            obtain ⟨r0, r1, r2, r3, r4⟩ := HR2.out
            obtain ⟨x0, x1, x2⟩ := HX2.out
            go_wp2_with fail
            refine ((CJ _).out).mono ?_
            rintro e w3 ⟨rfl, hb⟩
            have HB3 := Lib.hid (below_nxt HB2.out hb)
            have HR3 := Lib.hid (HR2.out.step hb)
            have HX3 := Lib.hid (HX2.out.step hb)
            clear hb r0 r1 r2 r3 r4 x0 x1 x2
            obtain ⟨r0, r1, r2, r3, r4⟩ := HR3.out
            obtain ⟨x0, x1, x2⟩ := HX3.out
            go_wp2_with (go_at_call 41; refine ((CN _).out).mono ?_; rintro e w9 ⟨rfl, h9⟩; rw [h9]; clear h9)
            obtain ⟨RW, BW, VW⟩ := fin_nil HR3.out HB3.out
            generalize ((w3.setCell ⟨w.heap.size + 1, 0, none⟩ (.int .i64 0)).setCell ⟨w.heap.size + 1, 1, none⟩ (.slice none 0 0)) = W2 at *
            obtain ⟨-, t1, t2, -, -⟩ := RW
            exact bodyPost_ret (v := .tuple #[.agg #[.int .i64 0, .slice none 0 0], .int .i64 2]) (by simp [results, Try.f12, go_sem, t1, t2]) rfl ⟨_, rfl, VW, BW⟩
          · rw [if_pos rfl]
            obtain ⟨N, rfl, hN, hSh, hR⟩ := Bn.chk_ok h1
            obtain ⟨hi1, hi2⟩ := Bn.idx_iff.1 hi
            obtain ⟨hj1, hj2⟩ := Bn.idx_iff.1 hj
            obtain ⟨a, rfl⟩ := Int.eq_ofNat_of_zero_le hi1
            obtain ⟨b, rfl⟩ := Int.eq_ofNat_of_zero_le hj1
            rw [Int.toNat_natCast, Int.toNat_natCast, Int.toNat_natCast, Bn.addM_isB hR hn]
            have CW := fun W (h : SeesR W (.slice ao R.length cap) R) => Lib.hid (rWith_any N a b most _ R W hN hSh (by omega) (by omega) h)
            clear h1 hij hi hj hR hSh
            go_enter Try.func12, Try.ntmps12
            go_wp2_with fail
            rw [← hX]
            clear x0 x1 x2
            refine ((CC X (HS.out.step HLX.out)).out).mono ?_
            rintro e w1 ⟨rfl, hb1⟩
            have HB1 := Lib.hid (below_nxt HLX.out hb1)
            have HR1 := Lib.hid (HRX.out.step hb1)
            have HX1 := Lib.hid (HBX.out.step hb1)
            clear hb1 HLX HRX HBX
            obtain ⟨r0, r1, r2, r3, r4⟩ := HR1.out
            obtain ⟨x0, x1, x2⟩ := HX1.out
            go_wp2_with fail
            refine ((CI _).out).mono ?_
            rintro e w2 ⟨rfl, hb⟩
            have HB2 := Lib.hid (below_nxt HB1.out hb)
            have HR2 := Lib.hid (HR1.out.step hb)
            have HX2 := Lib.hid (HX1.out.step hb)
            clear hb r0 r1 r2 r3 r4 x0 x1 x2
            obtain ⟨r0, r1, r2, r3, r4⟩ := HR2.out
            obtain ⟨x0, x1, x2⟩ := HX2.out
            go_wp2_with fail
            refine ((CJ _).out).mono ?_
            rintro e w3 ⟨rfl, hb⟩
            have HB3 := Lib.hid (below_nxt HB2.out hb)
            have HR3 := Lib.hid (HR2.out.step hb)
            have HX3 := Lib.hid (HX2.out.step hb)
            clear hb r0 r1 r2 r3 r4 x0 x1 x2
            obtain ⟨r0, r1, r2, r3, r4⟩ := HR3.out
            obtain ⟨x0, x1, x2⟩ := HX3.out
            go_wp2_with (first
              | (go_at_call 41; refine ((CN _).out).mono ?_; rintro e w9 ⟨rfl, h9⟩; rw [h9]; clear h9)
              | (go_at_call 42; refine ((CW _ (HS.out.step HB3.out)).out).mono ?_; rintro e w4 ⟨v4, rfl, ⟨A, cp, f, c, rfl, hcp1, hcp2, hG⟩, hb⟩; have HB4 := Lib.hid (below_nxt HB3.out hb); have HR4 := Lib.hid (HR3.out.step hb); have HF4 := Lib.hid (hG.valF hcp1 hcp2); have hz3 := HR3.out.1; clear hb hG r0 r1 r2 r3 r4 x0 x1 x2; obtain ⟨r0, r1, r2, r3, r4⟩ := HR4.out))
            obtain ⟨RW, BW, VW⟩ := fin_val HR4.out HB4.out HF4.out hz3
            generalize ((w4.setCell ⟨w.heap.size + 1, 0, none⟩ (.int .i64 (N : Int))).setCell ⟨w.heap.size + 1, 1, none⟩ (.slice (some ⟨A, 0, none⟩) (N + 1) cp)) = W2 at *
            obtain ⟨-, t1, t2, -, -⟩ := RW
            exact bodyPost_ret (v := .tuple #[.agg #[.int .i64 (N : Int), .slice (some ⟨A, 0, none⟩) (N + 1) cp], .int .i64 0]) (by simp [results, Try.f12, go_sem, t1, t2]) rfl ⟨_, rfl, VW, BW⟩
  · rw [Bn.addV_bad h1]
    have hcz : (Bn.chk n R != 0) = true := by simpa using h1
    clear h1
    generalize Bn.chk n R = c at *
    go_enter Try.func12, Try.ntmps12
    go_wp2_with fail
    rw [← hX]
    clear x0 x1 x2
    refine ((CC X (HS.out.step HLX.out)).out).mono ?_
    rintro e w1 ⟨rfl, hb1⟩
    have HB1 := Lib.hid (below_nxt HLX.out hb1)
    have HR1 := Lib.hid (HRX.out.step hb1)
    have HX1 := Lib.hid (HBX.out.step hb1)
    clear hb1 HLX HRX HBX
    obtain ⟨r0, r1, r2, r3, r4⟩ := HR1.out
    obtain ⟨x0, x1, x2⟩ := HX1.out
    go_wp2
    obtain ⟨RW, BW, VW⟩ := fin_nil HR1.out HB1.out
    generalize ((w1.setCell ⟨w.heap.size + 1, 0, none⟩ (.int .i64 0)).setCell ⟨w.heap.size + 1, 1, none⟩ (.slice none 0 0)) = W2 at *
    obtain ⟨-, t1, t2, -, -⟩ := RW
    exact bodyPost_ret (v := .tuple #[.agg #[.int .i64 0, .slice none 0 0], .int .i64 c]) (by simp [results, Try.f12, go_sem, t1, t2]) rfl ⟨_, rfl, VW, BW⟩
end Go.Proofs.Ytaikegiohjpifaa
