/- Words and kinds; slices.Index, Contains of texts; Role of package part. -/
import Derived.Test.YthjkcncfppndkaaDoorGM
namespace Pt
def KindP (s : ByteArray) (r : Nat) (e : Int) : Prop := (r < 14 ∧ (cat r).word = s ∧ e = 0) ∨ (r = 0 ∧ e = 6 ∧ ∀ j, j < 14 → (cat j).word ≠ s)
end Pt
namespace Go.Proofs.YthjkcncfppndkaaDoor
open Go.RowKit
theorem txt_ne {x y : ByteArray} (h : x ≠ y) : ¬ x.toList = y.toList ∧ (x.toList == y.toList) = false := by
  have h1 : ¬ x.toList = y.toList := fun e => h (by
    rw [ByteArray.toList_eq, ByteArray.toList_eq] at e
    obtain ⟨⟨a⟩⟩ := x
    obtain ⟨⟨b⟩⟩ := y
    simp only at e
    rw [e])
  exact ⟨h1, by simpa using h1⟩
set_option maxHeartbeats 4000000 in
set_option maxRecDepth 100000 in
theorem word_any (k : Nat) (hk : k < 14) (w : World) : Calls Tryd.prog 11 #[.int .i64 (k : Int)] w fun e w' => e = .returned (.tuple #[.string (Pt.cat k).word, .int .i64 0]) ∧ Below w.heap.size w w' := by
  have CR := fun W => rowOf_any k hk W
  have hsf := st_fn
  generalize Pt.cat k = r at *
  obtain ⟨r0, r1, r2, r3, r4, r5, r6, r7, r8, r9, r10⟩ := r
  simp only [Pt.rowV, Pt.rowC] at CR ⊢
  generalize Pt.Eff.fn r10 = q at *
  go_enter Tryd.func11, Tryd.ntmps11
  go_wp2_with fail
  refine (CR _).mono ?_
  rintro e w1 ⟨rfl, hb1⟩
  have HB := Lib.hid (hb1.alloc hb1.size (.cells #[.string r0, .string r1, .string r2, .string r3, .string r4, .string r5, .string r6, .int .i64 r7, .string r8, .string r9, .func (.func q) #[] #[]] 83))
  clear hb1
  go_wp2
  exact bodyPost_ret (v := .tuple #[.string r0, .int .i64 0]) (by simp [results, Tryd.results11, go_sem]) rfl ⟨rfl, HB.out⟩
set_option maxHeartbeats 4000000 in
set_option maxRecDepth 100000 in
theorem kind_any (s : ByteArray) (w : World) : Calls Tryd.prog 13 #[.string s] w fun e w' => ∃ (r : Nat) (er : Int), e = .returned (.tuple #[.int .i64 (r : Int), .int .i64 er]) ∧ Pt.KindP s r er ∧ Below w.heap.size w w' := by
  have hsf := st_fn
  go_enter Tryd.func13, Tryd.ntmps13
  go_wp2_with fail
  refine (cat_any w).mono ?_
  rintro e w1 ⟨rfl, hb1⟩
  have HB1 := Lib.hid hb1
  clear hb1
  go_wp2
  go_loopw [7] (fun s7 wr => ∃ i : Nat, i ≤ 14 ∧ s7 = .int .i64 (i : Int) ∧ Hid (Below w.heap.size w wr) ∧ Hid (∀ j, j < i → (Pt.cat j).word ≠ s)) (fun s7 _ => 14 - (intOf s7).toNat)
  case atStart => exact ⟨0, by omega, rfl, HB1, Lib.hid (fun j h => by omega)⟩
  case round =>
    obtain ⟨i, hi, rfl, HB, HJ⟩ := hrel
    by_cases hil : i < 14
    · have zi : (i : Int) < 14 := by omega
      have hix := idx_cat i hil
      have HW := Lib.hid (show (Pt.cat i).word = (Pt.cat i).word from rfl)
      generalize hr : Pt.cat i = r at *
      have HR := Lib.hid hr
      clear hr
      obtain ⟨r0, r1, r2, r3, r4, r5, r6, r7, r8, r9, r10⟩ := r
      simp only [Pt.rowV, Pt.rowC] at hix
      generalize hq : Pt.Eff.fn r10 = q at *
      clear hq
      have HL := Lib.hid (show Below w.heap.size w (wr.alloc (.cells #[.string r0, .string r1, .string r2, .string r3, .string r4, .string r5, .string r6, .int .i64 r7, .string r8, .string r9, .func (.func q) #[] #[]] 83)) from HB.out.alloc HB.out.size _)
      by_cases e : r0 = s
      · have HP := Lib.hid (show Pt.KindP s i 0 from .inl ⟨hil, by rw [HR.out]; exact e, rfl⟩)
        subst e
        go_wp2
        refine bodyPost_ret (v := .tuple #[.int .i64 (i : Int), .int .i64 0]) ?_ rfl ?_
        · simp [results, Tryd.results13, go_sem]
        · exact ⟨i, 0, rfl, HP.out, HL.out⟩
      · obtain ⟨n1, n2⟩ := txt_ne e
        have HJ2 := Lib.hid (show ∀ j, j < i + 1 → (Pt.cat j).word ≠ s from fun j hj => by
          by_cases e2 : j = i
          · rw [e2, HR.out]; exact e
          · exact HJ.out j (by omega))
        clear e
        go_wp2
        exact ⟨⟨i + 1, by omega, by first | rfl | go_num, HL, HJ2⟩, by simp [intOf]; omega⟩
    · obtain rfl : i = 14 := by omega
      have HP := Lib.hid (show Pt.KindP s 0 6 from .inr ⟨rfl, rfl, HJ.out⟩)
      go_wp2
      refine bodyPost_ret (v := .tuple #[.int .i64 0, .int .i64 6]) ?_ rfl ?_
      · simp [results, Tryd.results13, go_sem]
      · exact ⟨0, 6, rfl, HP.out, HB.out⟩
set_option maxHeartbeats 4000000 in
set_option maxRecDepth 100000 in
theorem index_any (v : Value) (l : List ByteArray) (s : ByteArray) (w : World) (hv : SeeS w v l) : Calls Tryd.prog 57 #[v, .string s] w fun e w' => ∃ r : Int, e = .returned (.int .i64 r) ∧ (0 ≤ r ↔ s ∈ l) ∧ w' = w := by
  obtain ⟨a, c, rfl, hl, hc⟩ := hv.at
  have HC := Lib.hid hc
  clear hc hv
  go_enter Tryd.func57, Tryd.ntmps57
  go_wp2
  go_loopw [8] (fun s8 wr => ∃ i : Nat, i ≤ l.length ∧ s8 = .int .i64 (i : Int) ∧ wr = w ∧ Hid (∀ j, j < i → l.getD j ⟨#[]⟩ ≠ s)) (fun s8 _ => l.length - (intOf s8).toNat)
  case atStart => exact ⟨0, Nat.zero_le _, rfl, rfl, Lib.hid (fun j h => by omega)⟩
  case round =>
    obtain ⟨i, hi, rfl, rfl, HJ⟩ := hrel
    by_cases hil : i < l.length
    · have zi : (i : Int) < (l.length : Int) := by omega
      obtain ⟨g, off, rfl, c0⟩ := HC.out i hil
      have HX := Lib.hid (show l.getD i ⟨#[]⟩ ∈ l by rw [List.getD_eq_getElem?_getD, List.getElem?_eq_getElem hil]; exact List.getElem_mem hil)
      have HJ2 := Lib.hid (fun (h : l.getD i ⟨#[]⟩ ≠ s) j (hj : j < i + 1) => show l.getD j ⟨#[]⟩ ≠ s by
        by_cases e2 : j = i
        · rw [e2]; exact h
        · exact HJ.out j (by omega))
      generalize l.getD i ⟨#[]⟩ = x at *
      by_cases e : x = s
      · have HM := Lib.hid (show (0 ≤ (i : Int) ↔ s ∈ l) from ⟨fun _ => by rw [← e]; exact HX.out, fun _ => by omega⟩)
        subst e
        go_wp2
        go_ret
        exact ⟨_, rfl, HM.out, rfl⟩
      · obtain ⟨n1, n2⟩ := txt_ne (fun h : s = x => e h.symm)
        have HJ3 := Lib.hid (HJ2.out e)
        clear e HJ2
        go_wp2
        exact ⟨⟨i + 1, by omega, by first | rfl | go_num, by trivial, HJ3⟩, by simp [intOf]; omega⟩
    · obtain rfl : i = l.length := by omega
      have HM := Lib.hid (show (0 ≤ (-1 : Int) ↔ s ∈ l) from ⟨fun h => by omega, fun h => by
        obtain ⟨j, hj, hx⟩ := List.mem_iff_getElem.1 h
        have := HJ.out j hj
        rw [List.getD_eq_getElem?_getD, List.getElem?_eq_getElem hj] at this
        exact absurd hx this⟩)
      go_wp2
      go_ret
      exact ⟨_, rfl, HM.out, rfl⟩
set_option maxHeartbeats 4000000 in
theorem contains_any (v : Value) (l : List ByteArray) (s : ByteArray) (w : World) (hv : SeeS w v l) : Calls Tryd.prog 37 #[v, .string s] w fun e w' => ∃ b : Bool, e = .returned (.bool b) ∧ (b = true ↔ s ∈ l) ∧ w' = w := by
  have CI := Lib.hid (index_any v l s w hv)
  clear hv
  go_enter Tryd.func37, Tryd.ntmps37
  go_wp2_with fail
  refine CI.out.mono ?_
  rintro e w1 ⟨r, rfl, hr, rfl⟩
  have HR := Lib.hid hr
  clear hr CI
  go_wp2
  go_ret
  exact ⟨decide (0 ≤ r), rfl, by rw [← HR.out, decide_eq_true_iff], rfl⟩
end Go.Proofs.YthjkcncfppndkaaDoor
