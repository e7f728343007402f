/- Words and letters of the reference; kinds by the reference. -/
import Derived.Test.YtnoaafhgapaicaaDoorPtd
import Derived.Test.YtnoaafhgapaicaaDoorGU
namespace Pt
def wrdV (k : Int) : ByteArray × Int := if 0 ≤ k ∧ k < 14 then ((cat k.toNat).word, 0) else (⟨#[]⟩, 1)
def ltrV (k : Int) : ByteArray × Int := if 0 ≤ k ∧ k < 14 then ((cat k.toNat).letter, 0) else (⟨#[]⟩, 1)
theorem kind_one {s : ByteArray} {r q : Nat} {e f : Int} (h : KindP s r e) (g : KindP s q f) : r = q ∧ e = f := by
  rcases h with ⟨h1, h2, rfl⟩ | ⟨rfl, rfl, h3⟩ <;> rcases g with ⟨g1, g2, rfl⟩ | ⟨rfl, rfl, g3⟩
  · exact ⟨word_inj r h1 q g1 (h2.trans g2.symm), rfl⟩
  · exact absurd h2 (g3 r h1)
  · exact absurd g2 (h3 q g1)
  · exact ⟨rfl, rfl⟩
end Pt
namespace Go.Proofs.YtnoaafhgapaicaaDoor
open Go.RowKit
set_option maxHeartbeats 4000000 in
set_option maxRecDepth 100000 in
theorem pWord_any (k : Int) (w : World) : Calls Tryd.prog 11 #[.int .i64 k] w fun e w' => e = .returned (.tuple #[.string (Pt.wrdV k).1, .int .i64 (Pt.wrdV k).2]) ∧ Below w.heap.size w w' := by
  unfold Pt.wrdV
  by_cases hk : 0 ≤ k ∧ k < 14
  · obtain ⟨c, rfl⟩ := Int.eq_ofNat_of_zero_le hk.1
    have CR := fun W => rowOf_any c (by omega) W
    rw [if_pos hk, Int.toNat_natCast]
    have hsf := st_fn
    clear hk
    generalize Pt.cat c = r at *
    obtain ⟨r0, r1, r2, r3, r4, r5, r6, r7, r8, r9, r10⟩ := r
    simp only [Pt.rowV, Pt.rowC] at CR ⊢
    generalize Pt.Eff.fn r10 = q at *
    go_enter Tryd.func11, Tryd.ntmps11
    go_wp2_with fail
    refine (CR _).mono ?_
    rintro e w1 ⟨rfl, hb1⟩
    have HB := Lib.hid (hb1.alloc hb1.size (.cells #[.string r0, .string r1, .string r2, .string r3, .string r4, .string r5, .string r6, .int .i64 r7, .string r8, .string r9, .func (.func q) #[] #[]] 83))
    clear hb1
    go_wp2
    exact bodyPost_ret (v := .tuple #[.string r0, .int .i64 0]) (by simp [results, Tryd.results11, go_sem]) rfl ⟨rfl, HB.out⟩
  · have CR := fun W => rowOf_no k (by omega) W
    rw [if_neg hk]
    have hsn := st_nil
    simp only [noV] at CR
    go_enter Tryd.func11, Tryd.ntmps11
    go_wp2_with fail
    refine (CR _).mono ?_
    rintro e w1 ⟨rfl, hb1⟩
    have HB := Lib.hid (hb1.alloc hb1.size (.cells #[.string ⟨#[]⟩, .string ⟨#[]⟩, .string ⟨#[]⟩, .string ⟨#[]⟩, .string ⟨#[]⟩, .string ⟨#[]⟩, .string ⟨#[]⟩, .int .i64 0, .string ⟨#[]⟩, .string ⟨#[]⟩, .nilFunc] 83))
    clear hb1
    go_wp2
    exact bodyPost_ret (v := .tuple #[.string ⟨#[]⟩, .int .i64 1]) (by simp [results, Tryd.results11, go_sem]) rfl ⟨rfl, HB.out⟩
set_option maxHeartbeats 4000000 in
set_option maxRecDepth 100000 in
theorem rWord_any (k : Int) (w : World) : Calls Tryd.prog 12 #[.int .i64 k] w fun e w' => e = .returned (.tuple #[.string (Pt.wrdV k).1, .int .i64 (Pt.wrdV k).2]) ∧ Below w.heap.size w w' := by
  have CR := fun W => Lib.hid (rRight_any k W)
  unfold Pt.wrdV
  by_cases hk : 0 ≤ k ∧ k < 14
  · obtain ⟨c, rfl⟩ := Int.eq_ofNat_of_zero_le hk.1
    have hc14 : c < 14 := by omega
    have zc : (c : Int) < 14 := by omega
    rw [if_pos hk] at CR ⊢
    rw [Int.toNat_natCast]
    clear hk
    have b0 : 7 * c + 0 = c * 7 + 0 := by omega
    go_enter Tryd.func12, Tryd.ntmps12
    go_wp2_with fail
    refine (CR w).out.mono ?_
    rintro e w1 ⟨rfl, rfl⟩
    go_wp2_with fail
    refine (rRows_any w1).mono ?_
    rintro e w2 ⟨g, rfl, ⟨hg, hc⟩, hb⟩
    have c0 := hc c hc14 0 (by omega)
    rw [show (Pt.rowsL c)[0]? = some (.string (Pt.cat c).word) from rfl, b0] at c0
    try rw [Nat.add_zero] at c0
    have HB := Lib.hid hb
    clear hb hc b0 hc14
    go_wp2
    exact bodyPost_ret (v := .tuple #[.string (Pt.cat c).word, .int .i64 0]) (by simp [results, Tryd.results12, go_sem]) rfl ⟨rfl, HB.out⟩
  · rw [if_neg hk] at CR ⊢
    go_enter Tryd.func12, Tryd.ntmps12
    go_wp2_with fail
    refine (CR w).out.mono ?_
    rintro e w1 ⟨rfl, rfl⟩
    go_wp2
    exact bodyPost_ret (v := .tuple #[.string ⟨#[]⟩, .int .i64 1]) (by simp [results, Tryd.results12, go_sem]) rfl ⟨rfl, Below.refl _ _⟩
set_option maxHeartbeats 4000000 in
set_option maxRecDepth 100000 in
theorem pLetter_any (k : Int) (w : World) : Calls Tryd.prog 15 #[.int .i64 k] w fun e w' => e = .returned (.tuple #[.string (Pt.ltrV k).1, .int .i64 (Pt.ltrV k).2]) ∧ Below w.heap.size w w' := by
  unfold Pt.ltrV
  by_cases hk : 0 ≤ k ∧ k < 14
  · obtain ⟨c, rfl⟩ := Int.eq_ofNat_of_zero_le hk.1
    have CR := fun W => rowOf_any c (by omega) W
    rw [if_pos hk, Int.toNat_natCast]
    have hsf := st_fn
    clear hk
    generalize Pt.cat c = r at *
    obtain ⟨r0, r1, r2, r3, r4, r5, r6, r7, r8, r9, r10⟩ := r
    simp only [Pt.rowV, Pt.rowC] at CR ⊢
    generalize Pt.Eff.fn r10 = q at *
    go_enter Tryd.func15, Tryd.ntmps15
    go_wp2_with fail
    refine (CR _).mono ?_
    rintro e w1 ⟨rfl, hb1⟩
    have HB := Lib.hid (hb1.alloc hb1.size (.cells #[.string r0, .string r1, .string r2, .string r3, .string r4, .string r5, .string r6, .int .i64 r7, .string r8, .string r9, .func (.func q) #[] #[]] 83))
    clear hb1
    go_wp2
    exact bodyPost_ret (v := .tuple #[.string r1, .int .i64 0]) (by simp [results, Tryd.results15, go_sem]) rfl ⟨rfl, HB.out⟩
  · have CR := fun W => rowOf_no k (by omega) W
    rw [if_neg hk]
    have hsn := st_nil
    simp only [noV] at CR
    go_enter Tryd.func15, Tryd.ntmps15
    go_wp2_with fail
    refine (CR _).mono ?_
    rintro e w1 ⟨rfl, hb1⟩
    have HB := Lib.hid (hb1.alloc hb1.size (.cells #[.string ⟨#[]⟩, .string ⟨#[]⟩, .string ⟨#[]⟩, .string ⟨#[]⟩, .string ⟨#[]⟩, .string ⟨#[]⟩, .string ⟨#[]⟩, .int .i64 0, .string ⟨#[]⟩, .string ⟨#[]⟩, .nilFunc] 83))
    clear hb1
    go_wp2
    exact bodyPost_ret (v := .tuple #[.string ⟨#[]⟩, .int .i64 1]) (by simp [results, Tryd.results15, go_sem]) rfl ⟨rfl, HB.out⟩
set_option maxHeartbeats 4000000 in
set_option maxRecDepth 100000 in
theorem rLetter_any (k : Int) (w : World) : Calls Tryd.prog 16 #[.int .i64 k] w fun e w' => e = .returned (.tuple #[.string (Pt.ltrV k).1, .int .i64 (Pt.ltrV k).2]) ∧ Below w.heap.size w w' := by
  have CR := fun W => Lib.hid (rRight_any k W)
  unfold Pt.ltrV
  by_cases hk : 0 ≤ k ∧ k < 14
  · obtain ⟨c, rfl⟩ := Int.eq_ofNat_of_zero_le hk.1
    have hc14 : c < 14 := by omega
    have zc : (c : Int) < 14 := by omega
    rw [if_pos hk] at CR ⊢
    rw [Int.toNat_natCast]
    clear hk
    have b0 : 7 * c + 1 = c * 7 + 1 := by omega
    go_enter Tryd.func16, Tryd.ntmps16
    go_wp2_with fail
    refine (CR w).out.mono ?_
    rintro e w1 ⟨rfl, rfl⟩
    go_wp2_with fail
    refine (rRows_any w1).mono ?_
    rintro e w2 ⟨g, rfl, ⟨hg, hc⟩, hb⟩
    have c0 := hc c hc14 1 (by omega)
    rw [show (Pt.rowsL c)[1]? = some (.string (Pt.cat c).letter) from rfl, b0] at c0
    try rw [Nat.add_zero] at c0
    have HB := Lib.hid hb
    clear hb hc b0 hc14
    go_wp2
    exact bodyPost_ret (v := .tuple #[.string (Pt.cat c).letter, .int .i64 0]) (by simp [results, Tryd.results16, go_sem]) rfl ⟨rfl, HB.out⟩
  · rw [if_neg hk] at CR ⊢
    go_enter Tryd.func16, Tryd.ntmps16
    go_wp2_with fail
    refine (CR w).out.mono ?_
    rintro e w1 ⟨rfl, rfl⟩
    go_wp2
    exact bodyPost_ret (v := .tuple #[.string ⟨#[]⟩, .int .i64 1]) (by simp [results, Tryd.results16, go_sem]) rfl ⟨rfl, Below.refl _ _⟩
set_option maxHeartbeats 4000000 in
set_option maxRecDepth 100000 in
theorem rKind_any (s : ByteArray) (w : World) : Calls Tryd.prog 14 #[.string s] w fun e w' => ∃ (r : Nat) (er : Int), e = .returned (.tuple #[.int .i64 (r : Int), .int .i64 er]) ∧ Pt.KindP s r er ∧ Below w.heap.size w w' := by
  go_enter Tryd.func14, Tryd.ntmps14
  go_wp2_with fail
  refine (rRows_any w).mono ?_
  rintro e w1 ⟨g, rfl, hS, hb1⟩
  have HB1 := Lib.hid hb1
  have HS := Lib.hid hS
  clear hb1 hS
  go_wp2
  go_loopw [5] (fun s5 wr => ∃ i : Nat, i ≤ 14 ∧ s5 = .int .i64 (i : Int) ∧ wr = w1 ∧ Hid (∀ j, j < i → (Pt.cat j).word ≠ s)) (fun s5 _ => 14 - (intOf s5).toNat)
  case atStart => exact ⟨0, by omega, rfl, rfl, Lib.hid (fun j h => by omega)⟩
  case round =>
    obtain ⟨i, hi, rfl, rfl, HJ⟩ := hrel
    by_cases hil : i < 14
    · have zi : (i : Int) < 14 := by omega
      have c0 := HS.out.2 i hil 0 (by omega)
      rw [show (Pt.rowsL i)[0]? = some (.string (Pt.cat i).word) from rfl, Nat.add_zero, Nat.mul_comm] at c0
      by_cases e : (Pt.cat i).word = s
      · have HP := Lib.hid (show Pt.KindP s i 0 from .inl ⟨hil, e, rfl⟩)
        rw [e] at c0
        clear e
        go_wp2
        refine bodyPost_ret (v := .tuple #[.int .i64 (i : Int), .int .i64 0]) ?_ rfl ?_
        · simp [results, Tryd.results14, go_sem]
        · exact ⟨i, 0, rfl, HP.out, HB1.out⟩
      · obtain ⟨n1, n2⟩ := txt_ne e
        have HJ2 := Lib.hid (show ∀ j, j < i + 1 → (Pt.cat j).word ≠ s from fun j hj => by
          by_cases e2 : j = i
          · rw [e2]; exact e
          · exact HJ.out j (by omega))
        clear e
        generalize (Pt.cat i).word = x at *
        go_wp2
        exact ⟨⟨i + 1, by omega, by first | rfl | go_num, by trivial, HJ2⟩, by simp [intOf]; omega⟩
    · obtain rfl : i = 14 := by omega
      have HP := Lib.hid (show Pt.KindP s 0 6 from .inr ⟨rfl, rfl, HJ.out⟩)
      go_wp2
      refine bodyPost_ret (v := .tuple #[.int .i64 0, .int .i64 6]) ?_ rfl ?_
      · simp [results, Tryd.results14, go_sem]
      · exact ⟨0, 6, rfl, HP.out, HB1.out⟩
end Go.Proofs.YtnoaafhgapaicaaDoor
