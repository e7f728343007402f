/- The reference of package hazard: Steady, Logic. -/
import Derived.Test.YtekeedccgnbkkaaGreatDoorHRd
import Derived.Test.YtekeedccgnbkkaaGreatDoorHs
namespace Hz

/-- Has a table one value at all points on the way? -/
def stdB (n t a b : Nat) : Bool := (way n a b).all fun k => t.testBit k == t.testBit a
theorem stdB_iff {n a b : Nat} {l : List (Nat × Nat)} (ha : a < 2 ^ n) : stdB n (made n l) a b = true ↔ (∀ k ∈ way n a b, cv l k = false) ∨ (∀ k ∈ way n a b, cv l k = true) := by
  unfold stdB
  rw [List.all_eq_true]
  have h0 : a ∈ way n a b := way_mem.2 ⟨ha, self_on n a b⟩
  constructor
  · intro h
    cases hc : cv l a
    · left
      intro k hk
      have := h k hk
      rw [made_bit (way_mem.1 hk).1, made_bit ha, hc] at this
      simpa using this
    · right
      intro k hk
      have := h k hk
      rw [made_bit (way_mem.1 hk).1, made_bit ha, hc] at this
      simpa using this
  · rintro (h | h) k hk
    · rw [made_bit (way_mem.1 hk).1, made_bit ha, h k hk, h a h0]; rfl
    · rw [made_bit (way_mem.1 hk).1, made_bit ha, h k hk, h a h0]; rfl
theorem logB_eq {n a b : Nat} {l : List (Nat × Nat)} (hn : n ≤ 6) (ha : a < 2 ^ n) (hb : b < 2 ^ n) (hl : Ok n l) : logB n l a b = (stdB n (made n l) a b && st (way n a b) l == 2) := by
  unfold logB
  rw [sm_st hn ha hb hl]
  have h := (one_iff (l := l) hn ha hb).trans (stdB_iff (b := b) (l := l) ha).symm
  rw [Bool.eq_iff_iff.2 h]
end Hz
namespace Go.Proofs.YtekeedccgnbkkaaGreatDoor
open Go.RowKit Go.Shelf

set_option maxHeartbeats 4000000 in
set_option maxRecDepth 100000 in
theorem rSteady_any (n t a b : Nat) (w : World) (hn : n ≤ 6) (ht : t < 2 ^ 64) (ha : a < 64) (hb : b < 64) :
    Calls Tryz.prog 29 #[.agg #[.int .i64 n, .int .u64 t], .int .i64 a, .int .i64 b] w fun e w' => e = .returned (.bool (Hz.stdB n t a b)) ∧ Below w.heap.size w w' := by
  have CO := fun W => Lib.hid (rOn8_any n a b W hn ha hb)
  have hW : ∀ k ∈ Hz.way n a b, k < 64 := fun k hk => Nat.lt_of_lt_of_le (Hz.way_mem.1 hk).1 (Tt.size_le hn)
  have CT := fun k (hk : k < 64) W => Lib.hid (rAt_any n t k W ht hk)
  have CTa := fun W => Lib.hid (rAt_any n t a W ht ha)
  have HSD : Hid (Hz.stdB n t a b = (Hz.way n a b).all fun k => t.testBit k == t.testBit a) := Lib.hid rfl
  generalize Hz.stdB n t a b = R at *
  generalize Hz.way n a b = W8 at *
  obtain ⟨PT, LT, zT⟩ := tab1_new w n t 29
  have HLT := Lib.hid LT
  clear LT
  go_enter Tryz.func29, Tryz.ntmps29
  go_wp2_with (go_at_call 49; (with_reducible refine ((CO _).out).mono ?_); rintro e w1 ⟨ov, rfl, hr, hb⟩; have T1 := PT.step hb; have HB1 := Lib.hid (below_nxt HLT.out hb); have HR := Lib.hid hr.sees; clear hb hr)
  have eqb := eq_bool
  have neb := neq_bool
  obtain ⟨ao, cap, rfl, hc1, hc2, hC⟩ := HR.out.opened
  clear HR CO PT HLT
  go_loopw [8] (fun s8 wr => ∃ i : Nat, i ≤ W8.length ∧ s8 = .int .i64 i ∧ Hid (∀ j, j < i → t.testBit (W8.getD j 0) = t.testBit a) ∧ Hid (Below w1.heap.size w1 wr)) (fun s8 _ => W8.length - (intOf s8).toNat)
  case atStart => exact ⟨0, Nat.zero_le _, rfl, Lib.hid (fun j h => by omega), Lib.hid (Below.refl _ _)⟩
  case round =>
    obtain ⟨i, hi, rfl, HJ, HB⟩ := hrel
    have hwr := HB.out.size
    have T2 := T1.step HB.out
    obtain ⟨p0, p1, p2, p3, p4⟩ := id T2
    by_cases hil : i < W8.length
    · obtain ⟨rb, ro, rfl, r1, r2⟩ := hC.at HB.out hil
      have hyk : W8.getD i 0 < 64 := hW _ (by rw [List.getD_eq_getElem?_getD, List.getElem?_eq_getElem hil]; exact List.getElem_mem hil)
      have CTi := CT _ hyk
      have HJ2 : Hid (t.testBit (W8.getD i 0) = t.testBit a → ∀ j, j < i + 1 → t.testBit (W8.getD j 0) = t.testBit a) := Lib.hid (fun h j hj => by
        by_cases e : j = i
        · rw [e]; exact h
        · exact HJ.out j (by omega))
      have HNO : Hid (t.testBit (W8.getD i 0) ≠ t.testBit a → R = false) := Lib.hid (fun h => by
        rw [HSD.out, List.all_eq_false]
        exact ⟨W8.getD i 0, by rw [List.getD_eq_getElem?_getD, List.getElem?_eq_getElem hil]; exact List.getElem_mem hil, by simpa using h⟩)
      clear CT HJ hC hW
      generalize W8.getD i 0 = y at *
      by_cases he : t.testBit y = t.testBit a
      · have HJ3 := Lib.hid (HJ2.out he)
        have hne : (t.testBit y != t.testBit a) = false := by simp [he]
        clear HJ2 HNO he
        go_wp2
        go_region_with (go_at_call 52; (first | ((with_reducible refine ((CTi _).out).mono ?_); rintro e w5 ⟨rfl, hb⟩; have hb := ((Below.refl wr.heap.size wr).drew).trans hb; have T3 := T2.step hb; obtain ⟨q0, q1, q2, q3, q4⟩ := id T3; have HB5 := Lib.hid hb; clear hb) | ((with_reducible refine ((CTa _).out).mono ?_); rintro e w6 ⟨rfl, hb⟩; have HB6 := Lib.hid (below_nxt HB5.out hb); clear hb)))
        all_goals (go_wp2; exact ⟨⟨i + 1, by omega, rfl, HJ3, Lib.hid (below_nxt HB.out HB6.out)⟩, by simp [intOf]; omega⟩)
      · have HN := Lib.hid (HNO.out he)
        have hne : (t.testBit y != t.testBit a) = true := by simp [he]
        clear HJ2 HNO he
        clear HSD
        go_wp2
        go_region_with (go_at_call 52; (first | ((with_reducible refine ((CTi _).out).mono ?_); rintro e w5 ⟨rfl, hb⟩; have hb := ((Below.refl wr.heap.size wr).drew).trans hb; have T3 := T2.step hb; obtain ⟨q0, q1, q2, q3, q4⟩ := id T3; have HB5 := Lib.hid hb; clear hb) | ((with_reducible refine ((CTa _).out).mono ?_); rintro e w6 ⟨rfl, hb⟩; have HB6 := Lib.hid (below_nxt HB5.out hb); clear hb)))
        all_goals (go_wp2; exact bodyPost_ret (v := .bool false) (by simp [results, Tryz.results29, go_sem]) rfl ⟨by rw [HN.out], below_nxt (below_nxt HB1.out HB.out) HB6.out⟩)
    · obtain rfl : i = W8.length := by omega
      have HA : Hid (R = true) := Lib.hid (by
        rw [HSD.out, List.all_eq_true]
        intro k hk
        obtain ⟨j, hj, rfl⟩ := List.getElem_of_mem hk
        have := HJ.out j hj
        rw [List.getD_eq_getElem?_getD, List.getElem?_eq_getElem hj] at this
        simpa using this)
      clear CT CTa HJ hC hW HSD
      go_wp2
      exact bodyPost_ret (v := .bool true) (by simp [results, Tryz.results29, go_sem]) rfl ⟨by rw [HA.out], below_nxt HB1.out HB.out⟩
end Go.Proofs.YtekeedccgnbkkaaGreatDoor
