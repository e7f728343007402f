/- Check of package part and of the reference, for all parts. -/
import Derived.Test.YtnoaafhgapaicaaDoorPth
import Derived.Test.YtnoaafhgapaicaaDoorGS
namespace Pt
def dlyE (k d : Int) : Int := if k = 12 then (if d < 1 ∨ 1000000 < d then 2 else 0) else (if d ≠ 0 then 2 else 0)
def chkV (k : Int) (s : List UInt8) (d : Int) : Int := if 0 ≤ k ∧ k < 14 then (if wordE s = 0 then dlyE k d else wordE s) else 1
end Pt
namespace Go.Proofs.YtnoaafhgapaicaaDoor
open Go.RowKit
/-- A part in a block of its own. -/
def BoxPt (W : World) (g : Nat) (k : Int) (s : ByteArray) (d : Int) : Prop := g < W.heap.size ∧ W.cell? ⟨g, 0, none⟩ = some (.int .i64 k) ∧ W.cell? ⟨g, 1, none⟩ = some (.string s) ∧ W.cell? ⟨g, 2, none⟩ = some (.int .i64 d)
theorem BoxPt.step {W W' : World} {g : Nat} {k d : Int} {s : ByteArray} (h : BoxPt W g k s d) (hb : Below W.heap.size W W') : BoxPt W' g k s d :=
  ⟨Nat.lt_of_lt_of_le h.1 hb.size, (hb.cell (p := ⟨g, 0, none⟩) h.1).trans h.2.1, (hb.cell (p := ⟨g, 1, none⟩) h.1).trans h.2.2.1, (hb.cell (p := ⟨g, 2, none⟩) h.1).trans h.2.2.2⟩
theorem boxPt_new (w : World) (k : Int) (s : ByteArray) (d : Int) (T : TypeId) : BoxPt (w.alloc (.cells #[.int .i64 k, .string s, .int .i64 d] T)) w.heap.size k s d ∧ Below w.heap.size w (w.alloc (.cells #[.int .i64 k, .string s, .int .i64 d] T)) :=
  ⟨⟨by simp, by simp, by simp, by simp⟩, (Below.refl _ _).alloc (Nat.le_refl _) _⟩
set_option maxHeartbeats 4000000 in
set_option maxRecDepth 100000 in
theorem pCheck_any (k : Int) (s : ByteArray) (d : Int) (hs : s.size ≤ 1000000) (w : World) (hx : Lg w) : Calls Tryd.prog 17 #[.agg #[.int .i64 k, .string s, .int .i64 d]] w fun e w' => e = .returned (.int .i64 (Pt.chkV k s.data.toList d)) ∧ Below w.heap.size w w' := by
  have HX := Lib.hid hx
  have CW := fun W (h : Lg W) => Lib.hid (word_all s hs W h)
  clear hx
  unfold Pt.chkV
  obtain ⟨B0, L0⟩ := boxPt_new w k s d 23
  have HB0 := Lib.hid L0
  have HP0 := Lib.hid B0
  obtain ⟨P0, P1, P2, P3⟩ := B0
  clear L0
  by_cases hk : 0 ≤ k ∧ k < 14
  · rw [if_pos hk]
    have hsf := st_fn
    have CR := fun W => Lib.hid (show Calls Tryd.prog 38 #[.int .i64 k] W fun e w' => e = .returned (.tuple #[Pt.rowV (Pt.cat k.toNat), .int .i64 0]) ∧ Below W.heap.size W w' by
      have := rowOf_any k.toNat (by omega) W
      rwa [show ((k.toNat : Nat) : Int) = k by omega] at this)
    generalize Pt.cat k.toNat = r at *
    obtain ⟨r0, r1, r2, r3, r4, r5, r6, r7, r8, r9, r10⟩ := r
    simp only [Pt.rowV, Pt.rowC] at CR
    generalize Pt.Eff.fn r10 = q at *
    clear hk
    generalize Pt.wordE s.data.toList = we at *
    by_cases hw : we = 0
    · subst hw
      rw [if_pos rfl]
      by_cases h12 : k = 12
      · subst h12
        by_cases h1 : d < 1
        · rw [show Pt.dlyE 12 d = 2 by unfold Pt.dlyE; rw [if_pos rfl, if_pos (.inl h1)]]
          go_enter Tryd.func17, Tryd.ntmps17
          go_wp2_with fail
          clear P0 P1 P2 P3
          refine (CR _).out.mono ?_
          rintro e w1 ⟨rfl, hb1⟩
          have LB : Below w1.heap.size w1 (w1.alloc (.cells #[.string r0, .string r1, .string r2, .string r3, .string r4, .string r5, .string r6, .int .i64 r7, .string r8, .string r9, .func (.func q) #[] #[]] 83)) := (Below.refl _ _).alloc (Nat.le_refl _) _
          have HP1 := Lib.hid ((HP0.out.step hb1).step LB)
          have HB1 := Lib.hid (below_nxt (below_nxt HB0.out hb1) LB)
          have HPa := Lib.hid (HP0.out.step hb1)
          obtain ⟨P0, P1, P2, P3⟩ := HPa.out
          clear hb1 LB
          go_wp2_with fail
          clear P0 P1 P2 P3
          generalize w1.alloc (.cells #[.string r0, .string r1, .string r2, .string r3, .string r4, .string r5, .string r6, .int .i64 r7, .string r8, .string r9, .func (.func q) #[] #[]] 83) = W1 at *
          refine (CW W1 (HX.out.next HB1.out)).out.mono ?_
          rintro e w2 ⟨rfl, hb2⟩
          have HB2 := Lib.hid (below_nxt HB1.out hb2)
          obtain ⟨P0, P1, P2, P3⟩ := HP1.out.step hb2
          clear hb2
          go_wp2
          go_ret
          exact ⟨rfl, HB2.out⟩
        · by_cases h2 : 1000000 < d
          · rw [show Pt.dlyE 12 d = 2 by unfold Pt.dlyE; rw [if_pos rfl, if_pos (.inr h2)]]
            go_enter Tryd.func17, Tryd.ntmps17
            go_wp2_with fail
            clear P0 P1 P2 P3
            refine (CR _).out.mono ?_
            rintro e w1 ⟨rfl, hb1⟩
            have LB : Below w1.heap.size w1 (w1.alloc (.cells #[.string r0, .string r1, .string r2, .string r3, .string r4, .string r5, .string r6, .int .i64 r7, .string r8, .string r9, .func (.func q) #[] #[]] 83)) := (Below.refl _ _).alloc (Nat.le_refl _) _
            have HP1 := Lib.hid ((HP0.out.step hb1).step LB)
            have HB1 := Lib.hid (below_nxt (below_nxt HB0.out hb1) LB)
            have HPa := Lib.hid (HP0.out.step hb1)
            obtain ⟨P0, P1, P2, P3⟩ := HPa.out
            clear hb1 LB
            go_wp2_with fail
            clear P0 P1 P2 P3
            generalize w1.alloc (.cells #[.string r0, .string r1, .string r2, .string r3, .string r4, .string r5, .string r6, .int .i64 r7, .string r8, .string r9, .func (.func q) #[] #[]] 83) = W1 at *
            refine (CW W1 (HX.out.next HB1.out)).out.mono ?_
            rintro e w2 ⟨rfl, hb2⟩
            have HB2 := Lib.hid (below_nxt HB1.out hb2)
            obtain ⟨P0, P1, P2, P3⟩ := HP1.out.step hb2
            clear hb2
            go_wp2
            go_ret
            exact ⟨rfl, HB2.out⟩
          · rw [show Pt.dlyE 12 d = 0 by unfold Pt.dlyE; rw [if_pos rfl, if_neg (by omega)]]
            go_enter Tryd.func17, Tryd.ntmps17
            go_wp2_with fail
            clear P0 P1 P2 P3
            refine (CR _).out.mono ?_
            rintro e w1 ⟨rfl, hb1⟩
            have LB : Below w1.heap.size w1 (w1.alloc (.cells #[.string r0, .string r1, .string r2, .string r3, .string r4, .string r5, .string r6, .int .i64 r7, .string r8, .string r9, .func (.func q) #[] #[]] 83)) := (Below.refl _ _).alloc (Nat.le_refl _) _
            have HP1 := Lib.hid ((HP0.out.step hb1).step LB)
            have HB1 := Lib.hid (below_nxt (below_nxt HB0.out hb1) LB)
            have HPa := Lib.hid (HP0.out.step hb1)
            obtain ⟨P0, P1, P2, P3⟩ := HPa.out
            clear hb1 LB
            go_wp2_with fail
            clear P0 P1 P2 P3
            generalize w1.alloc (.cells #[.string r0, .string r1, .string r2, .string r3, .string r4, .string r5, .string r6, .int .i64 r7, .string r8, .string r9, .func (.func q) #[] #[]] 83) = W1 at *
            refine (CW W1 (HX.out.next HB1.out)).out.mono ?_
            rintro e w2 ⟨rfl, hb2⟩
            have HB2 := Lib.hid (below_nxt HB1.out hb2)
            obtain ⟨P0, P1, P2, P3⟩ := HP1.out.step hb2
            clear hb2
            go_wp2
            go_ret
            exact ⟨rfl, HB2.out⟩
      · have z12 : (k == 12) = false := beq_eq_false_iff_ne.2 h12
        have b12 : (k != 12) = true := bne_iff_ne.2 h12
        have y12 : ¬ k = 12 := h12
        by_cases h1 : d < 0
        · rw [show Pt.dlyE k d = 2 by unfold Pt.dlyE; rw [if_neg h12, if_pos (by omega)]]
          have hd : (d == 0) = false := beq_eq_false_iff_ne.2 (by omega)
          have bd : (d != 0) = true := bne_iff_ne.2 (by omega)
          clear h12
          go_enter Tryd.func17, Tryd.ntmps17
          go_wp2_with fail
          clear P0 P1 P2 P3
          refine (CR _).out.mono ?_
          rintro e w1 ⟨rfl, hb1⟩
          have LB : Below w1.heap.size w1 (w1.alloc (.cells #[.string r0, .string r1, .string r2, .string r3, .string r4, .string r5, .string r6, .int .i64 r7, .string r8, .string r9, .func (.func q) #[] #[]] 83)) := (Below.refl _ _).alloc (Nat.le_refl _) _
          have HP1 := Lib.hid ((HP0.out.step hb1).step LB)
          have HB1 := Lib.hid (below_nxt (below_nxt HB0.out hb1) LB)
          have HPa := Lib.hid (HP0.out.step hb1)
          obtain ⟨P0, P1, P2, P3⟩ := HPa.out
          clear hb1 LB
          go_wp2_with fail
          clear P0 P1 P2 P3
          generalize w1.alloc (.cells #[.string r0, .string r1, .string r2, .string r3, .string r4, .string r5, .string r6, .int .i64 r7, .string r8, .string r9, .func (.func q) #[] #[]] 83) = W1 at *
          refine (CW W1 (HX.out.next HB1.out)).out.mono ?_
          rintro e w2 ⟨rfl, hb2⟩
          have HB2 := Lib.hid (below_nxt HB1.out hb2)
          obtain ⟨P0, P1, P2, P3⟩ := HP1.out.step hb2
          clear hb2
          go_wp2
          go_ret
          exact ⟨rfl, HB2.out⟩
        · by_cases h2 : 0 < d
          · rw [show Pt.dlyE k d = 2 by unfold Pt.dlyE; rw [if_neg h12, if_pos (by omega)]]
            have hd : (d == 0) = false := beq_eq_false_iff_ne.2 (by omega)
            have bd : (d != 0) = true := bne_iff_ne.2 (by omega)
            clear h12
            go_enter Tryd.func17, Tryd.ntmps17
            go_wp2_with fail
            clear P0 P1 P2 P3
            refine (CR _).out.mono ?_
            rintro e w1 ⟨rfl, hb1⟩
            have LB : Below w1.heap.size w1 (w1.alloc (.cells #[.string r0, .string r1, .string r2, .string r3, .string r4, .string r5, .string r6, .int .i64 r7, .string r8, .string r9, .func (.func q) #[] #[]] 83)) := (Below.refl _ _).alloc (Nat.le_refl _) _
            have HP1 := Lib.hid ((HP0.out.step hb1).step LB)
            have HB1 := Lib.hid (below_nxt (below_nxt HB0.out hb1) LB)
            have HPa := Lib.hid (HP0.out.step hb1)
            obtain ⟨P0, P1, P2, P3⟩ := HPa.out
            clear hb1 LB
            go_wp2_with fail
            clear P0 P1 P2 P3
            generalize w1.alloc (.cells #[.string r0, .string r1, .string r2, .string r3, .string r4, .string r5, .string r6, .int .i64 r7, .string r8, .string r9, .func (.func q) #[] #[]] 83) = W1 at *
            refine (CW W1 (HX.out.next HB1.out)).out.mono ?_
            rintro e w2 ⟨rfl, hb2⟩
            have HB2 := Lib.hid (below_nxt HB1.out hb2)
            obtain ⟨P0, P1, P2, P3⟩ := HP1.out.step hb2
            clear hb2
            go_wp2
            go_ret
            exact ⟨rfl, HB2.out⟩
          · obtain rfl : d = 0 := by omega
            rw [show Pt.dlyE k 0 = 0 by unfold Pt.dlyE; rw [if_neg h12, if_neg (by omega)]]
            clear h12
            go_enter Tryd.func17, Tryd.ntmps17
            go_wp2_with fail
            clear P0 P1 P2 P3
            refine (CR _).out.mono ?_
            rintro e w1 ⟨rfl, hb1⟩
            have LB : Below w1.heap.size w1 (w1.alloc (.cells #[.string r0, .string r1, .string r2, .string r3, .string r4, .string r5, .string r6, .int .i64 r7, .string r8, .string r9, .func (.func q) #[] #[]] 83)) := (Below.refl _ _).alloc (Nat.le_refl _) _
            have HP1 := Lib.hid ((HP0.out.step hb1).step LB)
            have HB1 := Lib.hid (below_nxt (below_nxt HB0.out hb1) LB)
            have HPa := Lib.hid (HP0.out.step hb1)
            obtain ⟨P0, P1, P2, P3⟩ := HPa.out
            clear hb1 LB
            go_wp2_with fail
            clear P0 P1 P2 P3
            generalize w1.alloc (.cells #[.string r0, .string r1, .string r2, .string r3, .string r4, .string r5, .string r6, .int .i64 r7, .string r8, .string r9, .func (.func q) #[] #[]] 83) = W1 at *
            refine (CW W1 (HX.out.next HB1.out)).out.mono ?_
            rintro e w2 ⟨rfl, hb2⟩
            have HB2 := Lib.hid (below_nxt HB1.out hb2)
            obtain ⟨P0, P1, P2, P3⟩ := HP1.out.step hb2
            clear hb2
            go_wp2
            go_ret
            exact ⟨rfl, HB2.out⟩
    · rw [if_neg hw]
      go_enter Tryd.func17, Tryd.ntmps17
      go_wp2_with fail
      clear P0 P1 P2 P3
      refine (CR _).out.mono ?_
      rintro e w1 ⟨rfl, hb1⟩
      have LB : Below w1.heap.size w1 (w1.alloc (.cells #[.string r0, .string r1, .string r2, .string r3, .string r4, .string r5, .string r6, .int .i64 r7, .string r8, .string r9, .func (.func q) #[] #[]] 83)) := (Below.refl _ _).alloc (Nat.le_refl _) _
      have HP1 := Lib.hid ((HP0.out.step hb1).step LB)
      have HB1 := Lib.hid (below_nxt (below_nxt HB0.out hb1) LB)
      have HPa := Lib.hid (HP0.out.step hb1)
      obtain ⟨P0, P1, P2, P3⟩ := HPa.out
      clear hb1 LB
      go_wp2_with fail
      clear P0 P1 P2 P3
      generalize w1.alloc (.cells #[.string r0, .string r1, .string r2, .string r3, .string r4, .string r5, .string r6, .int .i64 r7, .string r8, .string r9, .func (.func q) #[] #[]] 83) = W1 at *
      refine (CW W1 (HX.out.next HB1.out)).out.mono ?_
      rintro e w2 ⟨rfl, hb2⟩
      have HB2 := Lib.hid (below_nxt HB1.out hb2)
      obtain ⟨P0, P1, P2, P3⟩ := HP1.out.step hb2
      clear hb2
      go_wp2
      go_ret
      exact ⟨rfl, HB2.out⟩
  · rw [if_neg hk]
    have hsn := st_nil
    have CR := fun W => Lib.hid (rowOf_no k (by omega) W)
    simp only [noV] at CR
    clear hk
    go_enter Tryd.func17, Tryd.ntmps17
    go_wp2_with fail
    clear P0 P1 P2 P3
    refine (CR _).out.mono ?_
    rintro e w1 ⟨rfl, hb1⟩
    have HB := Lib.hid ((below_nxt HB0.out hb1).alloc ((below_nxt HB0.out hb1).size) (.cells #[.string ⟨#[]⟩, .string ⟨#[]⟩, .string ⟨#[]⟩, .string ⟨#[]⟩, .string ⟨#[]⟩, .string ⟨#[]⟩, .string ⟨#[]⟩, .int .i64 0, .string ⟨#[]⟩, .string ⟨#[]⟩, .nilFunc] 83))
    clear hb1
    go_wp2
    go_ret
    exact ⟨rfl, HB.out⟩
set_option maxHeartbeats 4000000 in
set_option maxRecDepth 100000 in
theorem rCheck20_any (k : Int) (s : ByteArray) (d : Int) (hs : s.size ≤ 1000000) (w : World) : Calls Tryd.prog 18 #[.agg #[.int .i64 k, .string s, .int .i64 d]] w fun e w' => e = .returned (.int .i64 (Pt.chkV k s.data.toList d)) ∧ Below w.heap.size w w' := by
  have CW := fun W => Lib.hid (rWord12_any s hs W)
  have CR := fun W => Lib.hid (rRight_any k W)
  unfold Pt.chkV
  obtain ⟨B0, L0⟩ := boxPt_new w k s d 23
  have HB0 := Lib.hid L0
  have HP0 := Lib.hid B0
  obtain ⟨P0, P1, P2, P3⟩ := B0
  clear L0
  by_cases hk : 0 ≤ k ∧ k < 14
  · rw [if_pos hk] at CR ⊢
    clear hk
    generalize Pt.wordE s.data.toList = we at *
    by_cases hw : we = 0
    · subst hw
      rw [if_pos rfl]
      by_cases h12 : k = 12
      · subst h12
        by_cases h1 : d < 1
        · rw [show Pt.dlyE 12 d = 2 by unfold Pt.dlyE; rw [if_pos rfl, if_pos (.inl h1)]]
          go_enter Tryd.func18, Tryd.ntmps18
          go_wp2_with fail
          refine (CR _).out.mono ?_
          rintro e w1 ⟨rfl, rfl⟩
          go_wp2_with fail
          refine (CW _).out.mono ?_
          rintro e w2 ⟨rfl, rfl⟩
          go_wp2
          go_ret
          exact ⟨rfl, HB0.out⟩
        · by_cases h2 : 1000000 < d
          · rw [show Pt.dlyE 12 d = 2 by unfold Pt.dlyE; rw [if_pos rfl, if_pos (.inr h2)]]
            go_enter Tryd.func18, Tryd.ntmps18
            go_wp2_with fail
            refine (CR _).out.mono ?_
            rintro e w1 ⟨rfl, rfl⟩
            go_wp2_with fail
            refine (CW _).out.mono ?_
            rintro e w2 ⟨rfl, rfl⟩
            go_wp2
            go_ret
            exact ⟨rfl, HB0.out⟩
          · rw [show Pt.dlyE 12 d = 0 by unfold Pt.dlyE; rw [if_pos rfl, if_neg (by omega)]]
            go_enter Tryd.func18, Tryd.ntmps18
            go_wp2_with fail
            refine (CR _).out.mono ?_
            rintro e w1 ⟨rfl, rfl⟩
            go_wp2_with fail
            refine (CW _).out.mono ?_
            rintro e w2 ⟨rfl, rfl⟩
            go_wp2
            go_ret
            exact ⟨rfl, HB0.out⟩
      · have z12 : (k == 12) = false := beq_eq_false_iff_ne.2 h12
        have b12 : (k != 12) = true := bne_iff_ne.2 h12
        have y12 : ¬ k = 12 := h12
        by_cases h1 : d < 0
        · rw [show Pt.dlyE k d = 2 by unfold Pt.dlyE; rw [if_neg h12, if_pos (by omega)]]
          have hd : (d == 0) = false := beq_eq_false_iff_ne.2 (by omega)
          have bd : (d != 0) = true := bne_iff_ne.2 (by omega)
          clear h12
          go_enter Tryd.func18, Tryd.ntmps18
          go_wp2_with fail
          refine (CR _).out.mono ?_
          rintro e w1 ⟨rfl, rfl⟩
          go_wp2_with fail
          refine (CW _).out.mono ?_
          rintro e w2 ⟨rfl, rfl⟩
          go_wp2
          go_ret
          exact ⟨rfl, HB0.out⟩
        · by_cases h2 : 0 < d
          · rw [show Pt.dlyE k d = 2 by unfold Pt.dlyE; rw [if_neg h12, if_pos (by omega)]]
            have hd : (d == 0) = false := beq_eq_false_iff_ne.2 (by omega)
            have bd : (d != 0) = true := bne_iff_ne.2 (by omega)
            clear h12
            go_enter Tryd.func18, Tryd.ntmps18
            go_wp2_with fail
            refine (CR _).out.mono ?_
            rintro e w1 ⟨rfl, rfl⟩
            go_wp2_with fail
            refine (CW _).out.mono ?_
            rintro e w2 ⟨rfl, rfl⟩
            go_wp2
            go_ret
            exact ⟨rfl, HB0.out⟩
          · obtain rfl : d = 0 := by omega
            rw [show Pt.dlyE k 0 = 0 by unfold Pt.dlyE; rw [if_neg h12, if_neg (by omega)]]
            clear h12
            go_enter Tryd.func18, Tryd.ntmps18
            go_wp2_with fail
            refine (CR _).out.mono ?_
            rintro e w1 ⟨rfl, rfl⟩
            go_wp2_with fail
            refine (CW _).out.mono ?_
            rintro e w2 ⟨rfl, rfl⟩
            go_wp2
            go_ret
            exact ⟨rfl, HB0.out⟩
    · rw [if_neg hw]
      go_enter Tryd.func18, Tryd.ntmps18
      go_wp2_with fail
      refine (CR _).out.mono ?_
      rintro e w1 ⟨rfl, rfl⟩
      go_wp2_with fail
      refine (CW _).out.mono ?_
      rintro e w2 ⟨rfl, rfl⟩
      go_wp2
      go_ret
      exact ⟨rfl, HB0.out⟩
  · rw [if_neg hk] at CR ⊢
    clear hk
    go_enter Tryd.func18, Tryd.ntmps18
    go_wp2_with fail
    refine (CR _).out.mono ?_
    rintro e w1 ⟨rfl, rfl⟩
    go_wp2
    go_ret
    exact ⟨rfl, HB0.out⟩
end Go.Proofs.YtnoaafhgapaicaaDoor
