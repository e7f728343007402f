/- Role of package part; sorted texts; what ports a row has. -/
import Derived.Test.YthjkcncfppndkaaDoorPta
import Derived.Sort.Walk0
namespace Pt
open Go
theorem mem_srt {l : List ByteArray} {x : ByteArray} : x ∈ srt l ↔ x ∈ l := by
  unfold srt
  rw [List.mem_map]
  constructor
  · rintro ⟨y, hy, rfl⟩
    rw [List.mem_mergeSort, List.mem_map] at hy
    obtain ⟨z, hz, rfl⟩ := hy
    exact hz
  · intro h
    exact ⟨x.data.toList, by rw [List.mem_mergeSort, List.mem_map]; exact ⟨x, h, rfl⟩, rfl⟩
theorem mem_pre {r : Row} {x : ByteArray} : ∀ n : Nat, x ∈ pre r n ↔ ∃ i, i < n ∧ x ∈ flds (r.port i)
  | 0 => by simp [pre]
  | n + 1 => by
    rw [pre, List.mem_append, mem_pre n]
    constructor
    · rintro (⟨i, h1, h2⟩ | h)
      · exact ⟨i, by omega, h2⟩
      · exact ⟨n, by omega, h⟩
    · rintro ⟨i, h1, h2⟩
      by_cases e : i = n
      · subst e; exact .inr h2
      · exact .inl ⟨i, by omega, h2⟩
theorem srt_asc (l : List ByteArray) {i : Nat} (h0 : 0 < i) (hi : i < (srt l).length) : Op.bytesLess ((srt l).getD i ⟨#[]⟩).toList ((srt l).getD (i - 1) ⟨#[]⟩).toList = false := by
  have hp := List.pairwise_mergeSort (le := fun (x y : List UInt8) => decide (x ≤ y)) (fun a b c h1 h2 => by
    simp only [decide_eq_true_eq] at *
    exact List.le_trans h1 h2) (fun a b => by
    simp only [Bool.or_eq_true, decide_eq_true_eq]
    exact List.le_total a b) (l.map (·.data.toList))
  have hs : srt l = ((l.map (·.data.toList)).mergeSort fun x y => decide (x ≤ y)).map fun x => ⟨x.toArray⟩ := rfl
  rw [hs] at hi ⊢
  generalize (l.map (·.data.toList)).mergeSort (fun x y => decide (x ≤ y)) = z at *
  rw [List.length_map] at hi
  have h1 := List.pairwise_iff_getElem.1 hp (i - 1) i (by omega) hi (by omega)
  simp only [decide_eq_true_eq] at h1
  rw [List.getD_eq_getElem?_getD, List.getD_eq_getElem?_getD, List.getElem?_map, List.getElem?_map, List.getElem?_eq_getElem hi, List.getElem?_eq_getElem (show i - 1 < z.length by omega)]
  simp only [Option.map_some, Option.getD_some, ByteArray.toList_mk]
  rw [Go.Proofs.bytesLess_eq]
  exact decide_eq_false (List.not_lt.2 h1)
/-- What Role returns. -/
def RoleP (r : Row) (s : ByteArray) (n : Nat) (e : Int) : Prop := (n < 5 ∧ s ∈ pre r 5 ∧ e = 0) ∨ (n = 0 ∧ e = 6 ∧ ¬ s ∈ pre r 5)
end Pt
namespace Go.Proofs.YthjkcncfppndkaaDoor
open Go.RowKit
set_option maxHeartbeats 4000000 in
set_option maxRecDepth 100000 in
theorem role_any (k : Nat) (hk : k < 14) (s : ByteArray) (w : World) : Calls Tryd.prog 21 #[.int .i64 (k : Int), .string s] w fun e w' => ∃ (n : Nat) (er : Int), e = .returned (.tuple #[.int .i64 (n : Int), .int .i64 er]) ∧ Pt.RoleP (Pt.cat k) s n er ∧ Below w.heap.size w w' := by
  have CR := fun W => rowOf_any k hk W
  obtain ⟨fl, hfl⟩ : ∃ fl : Nat → List ByteArray, ∀ i, fl i = Pt.flds ((Pt.cat k).port i) := ⟨_, fun _ => rfl⟩
  have CPt := fun (i : Nat) W (hi : i < 5) => Lib.hid (show Calls Tryd.prog 44 #[Pt.rowV (Pt.cat k), .int .i64 (i : Int)] W fun e w' => ∃ A, e = .returned (.slice (some ⟨A, 0, none⟩) (fl i).length (fl i).length) ∧ RowS W.heap.size w' (.slice (some ⟨A, 0, none⟩) (fl i).length (fl i).length) (fl i) ∧ Below W.heap.size W w' by
    have := portsW_any (Pt.cat k) i hi (Pt.port_small k i) W
    rw [← hfl i] at this
    exact this)
  have HY := Lib.hid (fun (i : Nat) (hi : i < 5) (h : s ∈ fl i) => show Pt.RoleP (Pt.cat k) s i 0 from .inl ⟨hi, (Pt.mem_pre 5).2 ⟨i, hi, by rw [← hfl]; exact h⟩, rfl⟩)
  have HN := Lib.hid (fun (h : ∀ i, i < 5 → ¬ s ∈ fl i) => show Pt.RoleP (Pt.cat k) s 0 6 from .inr ⟨rfl, rfl, fun hm => by
    obtain ⟨i, hi, hx⟩ := (Pt.mem_pre 5).1 hm
    exact h i hi (by rw [hfl]; exact hx)⟩)
  clear hfl
  have hsf := st_fn
  obtain ⟨R, hR⟩ : ∃ R, R = Pt.cat k := ⟨_, rfl⟩
  rw [← hR] at HY HN ⊢
  rw [← hR] at CR CPt
  clear hR
  have HRR := Lib.hid (show R = R from rfl)
  generalize hV : Pt.rowV R = rv at CR CPt
  obtain ⟨r0, r1, r2, r3, r4, r5, r6, r7, r8, r9, q, hrv⟩ : ∃ r0 r1 r2 r3 r4 r5 r6 r7 r8 r9 q, rv = .agg #[.string r0, .string r1, .string r2, .string r3, .string r4, .string r5, .string r6, .int .i64 r7, .string r8, .string r9, .func (.func q) #[] #[]] := ⟨_, _, _, _, _, _, _, _, _, _, _, hV.symm⟩
  subst hrv
  clear hV HRR
  go_enter Tryd.func21, Tryd.ntmps21
  go_wp2_with fail
  refine (CR _).mono ?_
  rintro e w1 ⟨rfl, hb1⟩
  obtain ⟨W1, hW1⟩ : ∃ W1, W1 = w1.alloc (.cells #[.string r0, .string r1, .string r2, .string r3, .string r4, .string r5, .string r6, .int .i64 r7, .string r8, .string r9, .func (.func q) #[] #[]] 83) := ⟨_, rfl⟩
  have HB := Lib.hid (show Below w.heap.size w W1 by rw [hW1]; exact hb1.alloc hb1.size _)
  have HC := Lib.hid (show w1.heap.size < W1.heap.size ∧ ∀ i, i < 11 → W1.cell? ⟨w1.heap.size, i, none⟩ = #[.string r0, .string r1, .string r2, .string r3, .string r4, .string r5, .string r6, .int .i64 r7, .string r8, .string r9, .func (.func q) #[] #[]][i]? by
    rw [hW1]
    refine ⟨by simp, fun i hi => ?_⟩
    simp [hi])
  have HW := Lib.hid hW1
  clear hb1 hW1 CR
  go_wp2
  rw [← HW.out]
  go_loopw [17] (fun s17 wr => ∃ i : Nat, i ≤ 5 ∧ s17 = .int .i64 (i : Int) ∧ Hid (Below W1.heap.size W1 wr) ∧ Hid (∀ j, j < i → ¬ s ∈ fl j)) (fun s17 _ => 5 - (intOf s17).toNat)
  case atStart => exact ⟨0, by omega, rfl, Lib.hid (Below.refl _ _), Lib.hid (fun j h => by omega)⟩
  case round =>
    obtain ⟨i, hi, rfl, HBW, HJ⟩ := hrel
    have c0 : wr.cell? ⟨w1.heap.size, 0, none⟩ = some (.string r0) := (HBW.out.cell (p := ⟨w1.heap.size, 0, none⟩) HC.out.1).trans (HC.out.2 0 (by omega))
    have c1 : wr.cell? ⟨w1.heap.size, 1, none⟩ = some (.string r1) := (HBW.out.cell (p := ⟨w1.heap.size, 1, none⟩) HC.out.1).trans (HC.out.2 1 (by omega))
    have c2 : wr.cell? ⟨w1.heap.size, 2, none⟩ = some (.string r2) := (HBW.out.cell (p := ⟨w1.heap.size, 2, none⟩) HC.out.1).trans (HC.out.2 2 (by omega))
    have c3 : wr.cell? ⟨w1.heap.size, 3, none⟩ = some (.string r3) := (HBW.out.cell (p := ⟨w1.heap.size, 3, none⟩) HC.out.1).trans (HC.out.2 3 (by omega))
    have c4 : wr.cell? ⟨w1.heap.size, 4, none⟩ = some (.string r4) := (HBW.out.cell (p := ⟨w1.heap.size, 4, none⟩) HC.out.1).trans (HC.out.2 4 (by omega))
    have c5 : wr.cell? ⟨w1.heap.size, 5, none⟩ = some (.string r5) := (HBW.out.cell (p := ⟨w1.heap.size, 5, none⟩) HC.out.1).trans (HC.out.2 5 (by omega))
    have c6 : wr.cell? ⟨w1.heap.size, 6, none⟩ = some (.string r6) := (HBW.out.cell (p := ⟨w1.heap.size, 6, none⟩) HC.out.1).trans (HC.out.2 6 (by omega))
    have c7 : wr.cell? ⟨w1.heap.size, 7, none⟩ = some (.int .i64 r7) := (HBW.out.cell (p := ⟨w1.heap.size, 7, none⟩) HC.out.1).trans (HC.out.2 7 (by omega))
    have c8 : wr.cell? ⟨w1.heap.size, 8, none⟩ = some (.string r8) := (HBW.out.cell (p := ⟨w1.heap.size, 8, none⟩) HC.out.1).trans (HC.out.2 8 (by omega))
    have c9 : wr.cell? ⟨w1.heap.size, 9, none⟩ = some (.string r9) := (HBW.out.cell (p := ⟨w1.heap.size, 9, none⟩) HC.out.1).trans (HC.out.2 9 (by omega))
    have c10 : wr.cell? ⟨w1.heap.size, 10, none⟩ = some (.func (.func q) #[] #[]) := (HBW.out.cell (p := ⟨w1.heap.size, 10, none⟩) HC.out.1).trans (HC.out.2 10 (by omega))
    by_cases hil : i < 5
    · have zi : (i : Int) < 5 := by omega
      go_wp2_with fail
      clear c0 c1 c2 c3 c4 c5 c6 c7 c8 c9 c10
      refine (CPt i wr hil).out.mono ?_
      rintro e w2 ⟨A, rfl, h2, hb2⟩
      have HBW2 := Lib.hid (HBW.out.trans (hb2.mono HBW.out.size))
      have HU := Lib.hid h2
      clear h2 hb2 HBW
      go_wp2_with fail
      refine (contains_any _ _ s w2 HU.out.sees).mono ?_
      rintro e w3 ⟨b, rfl, hbm, rfl⟩
      cases b
      · have HJ2 := Lib.hid (show ∀ j, j < i + 1 → ¬ s ∈ fl j from fun j hj => by
          by_cases e2 : j = i
          · rw [e2]; exact fun h => by have := hbm.2 h; cases this
          · exact HJ.out j (by omega))
        clear hbm
        go_wp2
        exact ⟨⟨i + 1, by omega, by first | rfl | go_num, HBW2, HJ2⟩, by simp [intOf]; omega⟩
      · have HP := Lib.hid (HY.out i hil (hbm.1 rfl))
        have HB2 := Lib.hid (HB.out.trans (HBW2.out.mono HB.out.size))
        clear hbm
        go_wp2
        refine bodyPost_ret (v := .tuple #[.int .i64 (i : Int), .int .i64 0]) ?_ rfl ?_
        · simp [results, Tryd.results21, go_sem]
        · exact ⟨i, 0, rfl, HP.out, HB2.out⟩
    · obtain rfl : i = 5 := by omega
      have HP := Lib.hid (HN.out HJ.out)
      have HB2 := Lib.hid (HB.out.trans (HBW.out.mono HB.out.size))
      clear c0 c1 c2 c3 c4 c5 c6 c7 c8 c9 c10
      go_wp2
      refine bodyPost_ret (v := .tuple #[.int .i64 0, .int .i64 6]) ?_ rfl ?_
      · simp [results, Tryd.results21, go_sem]
      · exact ⟨0, 6, rfl, HP.out, HB2.out⟩
end Go.Proofs.YthjkcncfppndkaaDoor
