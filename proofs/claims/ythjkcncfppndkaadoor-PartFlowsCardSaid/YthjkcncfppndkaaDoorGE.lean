/- Passes and Vents of package part. -/
import Derived.Test.YthjkcncfppndkaaDoorGD
namespace Go.Proofs.YthjkcncfppndkaaDoor
open Go.RowKit
theorem SeeS.form {w : World} {v : Value} {l : List ByteArray} (h : SeeS w v l) : ∃ a n c, v = .slice a n c := by
  rcases h with ⟨h, -⟩ | ⟨g, off, cap, h, -⟩
  · exact ⟨_, _, _, h⟩
  · exact ⟨_, _, _, h⟩
theorem fld0 (pa : Option Addr) (pn pc : Nat) (va : Option Addr) (vn vc : Nat) : ∀ w, (Instr.field 100 (.agg #[.slice pa pn pc, .slice va vn vc]) 0).run Tryd.prog w = .ok (.slice pa pn pc) w := by
  intro w
  first | kernel_rfl | rfl
theorem fld1 (pa : Option Addr) (pn pc : Nat) (va : Option Addr) (vn vc : Nat) : ∀ w, (Instr.field 100 (.agg #[.slice pa pn pc, .slice va vn vc]) 1).run Tryd.prog w = .ok (.slice va vn vc) w := by
  intro w
  first | kernel_rfl | rfl
theorem SeeP.form {w : World} {v : Value} {o : Option (ByteArray × List ByteArray × Bool)} (h : SeeP w v o) : ∃ a n c, v = .slice a n c := by
  match o, h with
  | none, h => exact ⟨_, _, _, h⟩
  | some (t, f, a), ⟨_, _, h, _⟩ => exact ⟨_, _, _, h⟩
set_option maxHeartbeats 4000000 in
set_option maxRecDepth 100000 in
theorem passes_any (k : Nat) (p : Int) (hk : k < 14) (h0 : 0 ≤ p) (h1 : p < (Pt.cat k).pos) (w : World) : Calls Tryd.prog 26 #[.int .i64 (k : Int), .int .i64 p] w fun e w' => ∃ v, e = .returned (.tuple #[v, .int .i64 0]) ∧ SeeP w' v (Pt.effV (Pt.cat k).eff p).1 ∧ Below w.heap.size w w' := by
  have CR := fun W => rowIn_any k p hk h0 h1 W
  have hsf := st_fn
  clear h0 h1
  generalize Pt.cat k = r at *
  obtain ⟨r0, r1, r2, r3, r4, r5, r6, r7, r8, r9, r10⟩ := r
  simp only [Pt.rowV, Pt.rowC] at CR ⊢
  cases r10
  · simp only [Pt.Eff.fn] at CR
    have CE := fun W => Lib.hid (eff_nothing p W)
    go_enter Tryd.func26, Tryd.ntmps26
    go_wp2_with fail
    refine (CR _).mono ?_
    rintro e w1 ⟨rfl, hb1⟩
    have HB := Lib.hid (hb1.alloc hb1.size (.cells #[.string r0, .string r1, .string r2, .string r3, .string r4, .string r5, .string r6, .int .i64 r7, .string r8, .string r9, .func (.func 58) #[] #[]] 83))
    clear hb1
    go_wp2_with fail
    refine (CE _).out.mono ?_
    rintro e w2 ⟨ps, vs, rfl, h1, h2, hb2⟩
    obtain ⟨pa, pn, pc, rfl⟩ := h1.form
    obtain ⟨va, vn, vc, rfl⟩ := h2.form
    have HB2 := Lib.hid (below_nxt HB.out hb2)
    have H1 := Lib.hid h1
    have H2 := Lib.hid h2
    have hfl := fld0 pa pn pc va vn vc
    clear h1 h2 hb2 HB CE CR
    go_wp2
    refine bodyPost_ret (v := .tuple #[.slice pa pn pc, .int .i64 0]) ?_ rfl ?_
    · simp [results, Tryd.results26, go_sem]
    · exact ⟨_, rfl, H1.out, HB2.out⟩
  · simp only [Pt.Eff.fn] at CR
    have CE := fun W => Lib.hid (eff_changeOver p W)
    go_enter Tryd.func26, Tryd.ntmps26
    go_wp2_with fail
    refine (CR _).mono ?_
    rintro e w1 ⟨rfl, hb1⟩
    have HB := Lib.hid (hb1.alloc hb1.size (.cells #[.string r0, .string r1, .string r2, .string r3, .string r4, .string r5, .string r6, .int .i64 r7, .string r8, .string r9, .func (.func 59) #[] #[]] 83))
    clear hb1
    go_wp2_with fail
    refine (CE _).out.mono ?_
    rintro e w2 ⟨ps, vs, rfl, h1, h2, hb2⟩
    obtain ⟨pa, pn, pc, rfl⟩ := h1.form
    obtain ⟨va, vn, vc, rfl⟩ := h2.form
    have HB2 := Lib.hid (below_nxt HB.out hb2)
    have H1 := Lib.hid h1
    have H2 := Lib.hid h2
    have hfl := fld0 pa pn pc va vn vc
    clear h1 h2 hb2 HB CE CR
    go_wp2
    refine bodyPost_ret (v := .tuple #[.slice pa pn pc, .int .i64 0]) ?_ rfl ?_
    · simp [results, Tryd.results26, go_sem]
    · exact ⟨_, rfl, H1.out, HB2.out⟩
  · simp only [Pt.Eff.fn] at CR
    have CE := fun W => Lib.hid (eff_opn p W)
    go_enter Tryd.func26, Tryd.ntmps26
    go_wp2_with fail
    refine (CR _).mono ?_
    rintro e w1 ⟨rfl, hb1⟩
    have HB := Lib.hid (hb1.alloc hb1.size (.cells #[.string r0, .string r1, .string r2, .string r3, .string r4, .string r5, .string r6, .int .i64 r7, .string r8, .string r9, .func (.func 60) #[] #[]] 83))
    clear hb1
    go_wp2_with fail
    refine (CE _).out.mono ?_
    rintro e w2 ⟨ps, vs, rfl, h1, h2, hb2⟩
    obtain ⟨pa, pn, pc, rfl⟩ := h1.form
    obtain ⟨va, vn, vc, rfl⟩ := h2.form
    have HB2 := Lib.hid (below_nxt HB.out hb2)
    have H1 := Lib.hid h1
    have H2 := Lib.hid h2
    have hfl := fld0 pa pn pc va vn vc
    clear h1 h2 hb2 HB CE CR
    go_wp2
    refine bodyPost_ret (v := .tuple #[.slice pa pn pc, .int .i64 0]) ?_ rfl ?_
    · simp [results, Tryd.results26, go_sem]
    · exact ⟨_, rfl, H1.out, HB2.out⟩
  · simp only [Pt.Eff.fn] at CR
    have CE := fun W => Lib.hid (eff_shut p W)
    go_enter Tryd.func26, Tryd.ntmps26
    go_wp2_with fail
    refine (CR _).mono ?_
    rintro e w1 ⟨rfl, hb1⟩
    have HB := Lib.hid (hb1.alloc hb1.size (.cells #[.string r0, .string r1, .string r2, .string r3, .string r4, .string r5, .string r6, .int .i64 r7, .string r8, .string r9, .func (.func 61) #[] #[]] 83))
    clear hb1
    go_wp2_with fail
    refine (CE _).out.mono ?_
    rintro e w2 ⟨ps, vs, rfl, h1, h2, hb2⟩
    obtain ⟨pa, pn, pc, rfl⟩ := h1.form
    obtain ⟨va, vn, vc, rfl⟩ := h2.form
    have HB2 := Lib.hid (below_nxt HB.out hb2)
    have H1 := Lib.hid h1
    have H2 := Lib.hid h2
    have hfl := fld0 pa pn pc va vn vc
    clear h1 h2 hb2 HB CE CR
    go_wp2
    refine bodyPost_ret (v := .tuple #[.slice pa pn pc, .int .i64 0]) ?_ rfl ?_
    · simp [results, Tryd.results26, go_sem]
    · exact ⟨_, rfl, H1.out, HB2.out⟩
  · simp only [Pt.Eff.fn] at CR
    have CE := fun W => Lib.hid (eff_either p W)
    go_enter Tryd.func26, Tryd.ntmps26
    go_wp2_with fail
    refine (CR _).mono ?_
    rintro e w1 ⟨rfl, hb1⟩
    have HB := Lib.hid (hb1.alloc hb1.size (.cells #[.string r0, .string r1, .string r2, .string r3, .string r4, .string r5, .string r6, .int .i64 r7, .string r8, .string r9, .func (.func 62) #[] #[]] 83))
    clear hb1
    go_wp2_with fail
    refine (CE _).out.mono ?_
    rintro e w2 ⟨ps, vs, rfl, h1, h2, hb2⟩
    obtain ⟨pa, pn, pc, rfl⟩ := h1.form
    obtain ⟨va, vn, vc, rfl⟩ := h2.form
    have HB2 := Lib.hid (below_nxt HB.out hb2)
    have H1 := Lib.hid h1
    have H2 := Lib.hid h2
    have hfl := fld0 pa pn pc va vn vc
    clear h1 h2 hb2 HB CE CR
    go_wp2
    refine bodyPost_ret (v := .tuple #[.slice pa pn pc, .int .i64 0]) ?_ rfl ?_
    · simp [results, Tryd.results26, go_sem]
    · exact ⟨_, rfl, H1.out, HB2.out⟩
  · simp only [Pt.Eff.fn] at CR
    have CE := fun W => Lib.hid (eff_both p W)
    go_enter Tryd.func26, Tryd.ntmps26
    go_wp2_with fail
    refine (CR _).mono ?_
    rintro e w1 ⟨rfl, hb1⟩
    have HB := Lib.hid (hb1.alloc hb1.size (.cells #[.string r0, .string r1, .string r2, .string r3, .string r4, .string r5, .string r6, .int .i64 r7, .string r8, .string r9, .func (.func 63) #[] #[]] 83))
    clear hb1
    go_wp2_with fail
    refine (CE _).out.mono ?_
    rintro e w2 ⟨ps, vs, rfl, h1, h2, hb2⟩
    obtain ⟨pa, pn, pc, rfl⟩ := h1.form
    obtain ⟨va, vn, vc, rfl⟩ := h2.form
    have HB2 := Lib.hid (below_nxt HB.out hb2)
    have H1 := Lib.hid h1
    have H2 := Lib.hid h2
    have hfl := fld0 pa pn pc va vn vc
    clear h1 h2 hb2 HB CE CR
    go_wp2
    refine bodyPost_ret (v := .tuple #[.slice pa pn pc, .int .i64 0]) ?_ rfl ?_
    · simp [results, Tryd.results26, go_sem]
    · exact ⟨_, rfl, H1.out, HB2.out⟩
  · simp only [Pt.Eff.fn] at CR
    have CE := fun W => Lib.hid (eff_pass p W)
    go_enter Tryd.func26, Tryd.ntmps26
    go_wp2_with fail
    refine (CR _).mono ?_
    rintro e w1 ⟨rfl, hb1⟩
    have HB := Lib.hid (hb1.alloc hb1.size (.cells #[.string r0, .string r1, .string r2, .string r3, .string r4, .string r5, .string r6, .int .i64 r7, .string r8, .string r9, .func (.func 64) #[] #[]] 83))
    clear hb1
    go_wp2_with fail
    refine (CE _).out.mono ?_
    rintro e w2 ⟨ps, vs, rfl, h1, h2, hb2⟩
    obtain ⟨pa, pn, pc, rfl⟩ := h1.form
    obtain ⟨va, vn, vc, rfl⟩ := h2.form
    have HB2 := Lib.hid (below_nxt HB.out hb2)
    have H1 := Lib.hid h1
    have H2 := Lib.hid h2
    have hfl := fld0 pa pn pc va vn vc
    clear h1 h2 hb2 HB CE CR
    go_wp2
    refine bodyPost_ret (v := .tuple #[.slice pa pn pc, .int .i64 0]) ?_ rfl ?_
    · simp [results, Tryd.results26, go_sem]
    · exact ⟨_, rfl, H1.out, HB2.out⟩
set_option maxHeartbeats 4000000 in
set_option maxRecDepth 100000 in
theorem passes_no (k p e : Int) (he : e = 1 ∨ e = 2) (w : World) (CR : ∀ W, Calls Tryd.prog 49 #[.int .i64 k, .int .i64 p] W fun r w' => r = .returned (.tuple #[noV, .int .i64 e]) ∧ Below W.heap.size W w') : Calls Tryd.prog 26 #[.int .i64 k, .int .i64 p] w fun r w' => r = .returned (.tuple #[.slice none 0 0, .int .i64 e]) ∧ Below w.heap.size w w' := by
  have hsn := st_nil
  simp only [noV] at CR
  have he1 : ¬ e = 0 := by omega
  clear he
  go_enter Tryd.func26, Tryd.ntmps26
  go_wp2_with fail
  refine (CR _).mono ?_
  rintro r w1 ⟨rfl, hb1⟩
  have HB := Lib.hid (hb1.alloc hb1.size (.cells #[.string ⟨#[]⟩, .string ⟨#[]⟩, .string ⟨#[]⟩, .string ⟨#[]⟩, .string ⟨#[]⟩, .string ⟨#[]⟩, .string ⟨#[]⟩, .int .i64 0, .string ⟨#[]⟩, .string ⟨#[]⟩, .nilFunc] 83))
  clear hb1
  go_wp2
  exact bodyPost_ret (v := .tuple #[.slice none 0 0, .int .i64 e]) (by simp [results, Tryd.results26, go_sem]) rfl ⟨rfl, HB.out⟩
set_option maxHeartbeats 4000000 in
set_option maxRecDepth 100000 in
theorem vents_any (k : Nat) (p : Int) (hk : k < 14) (h0 : 0 ≤ p) (h1 : p < (Pt.cat k).pos) (w : World) : Calls Tryd.prog 28 #[.int .i64 (k : Int), .int .i64 p] w fun e w' => ∃ v, e = .returned (.tuple #[v, .int .i64 0]) ∧ SeeS w' v (Pt.effV (Pt.cat k).eff p).2 ∧ Below w.heap.size w w' := by
  have CR := fun W => rowIn_any k p hk h0 h1 W
  have hsf := st_fn
  clear h0 h1
  generalize Pt.cat k = r at *
  obtain ⟨r0, r1, r2, r3, r4, r5, r6, r7, r8, r9, r10⟩ := r
  simp only [Pt.rowV, Pt.rowC] at CR ⊢
  cases r10
  · simp only [Pt.Eff.fn] at CR
    have CE := fun W => Lib.hid (eff_nothing p W)
    go_enter Tryd.func28, Tryd.ntmps28
    go_wp2_with fail
    refine (CR _).mono ?_
    rintro e w1 ⟨rfl, hb1⟩
    have HB := Lib.hid (hb1.alloc hb1.size (.cells #[.string r0, .string r1, .string r2, .string r3, .string r4, .string r5, .string r6, .int .i64 r7, .string r8, .string r9, .func (.func 58) #[] #[]] 83))
    clear hb1
    go_wp2_with fail
    refine (CE _).out.mono ?_
    rintro e w2 ⟨ps, vs, rfl, h1, h2, hb2⟩
    obtain ⟨pa, pn, pc, rfl⟩ := h1.form
    obtain ⟨va, vn, vc, rfl⟩ := h2.form
    have HB2 := Lib.hid (below_nxt HB.out hb2)
    have H1 := Lib.hid h1
    have H2 := Lib.hid h2
    have hfl := fld1 pa pn pc va vn vc
    clear h1 h2 hb2 HB CE CR
    go_wp2
    refine bodyPost_ret (v := .tuple #[.slice va vn vc, .int .i64 0]) ?_ rfl ?_
    · simp [results, Tryd.results28, go_sem]
    · exact ⟨_, rfl, H2.out, HB2.out⟩
  · simp only [Pt.Eff.fn] at CR
    have CE := fun W => Lib.hid (eff_changeOver p W)
    go_enter Tryd.func28, Tryd.ntmps28
    go_wp2_with fail
    refine (CR _).mono ?_
    rintro e w1 ⟨rfl, hb1⟩
    have HB := Lib.hid (hb1.alloc hb1.size (.cells #[.string r0, .string r1, .string r2, .string r3, .string r4, .string r5, .string r6, .int .i64 r7, .string r8, .string r9, .func (.func 59) #[] #[]] 83))
    clear hb1
    go_wp2_with fail
    refine (CE _).out.mono ?_
    rintro e w2 ⟨ps, vs, rfl, h1, h2, hb2⟩
    obtain ⟨pa, pn, pc, rfl⟩ := h1.form
    obtain ⟨va, vn, vc, rfl⟩ := h2.form
    have HB2 := Lib.hid (below_nxt HB.out hb2)
    have H1 := Lib.hid h1
    have H2 := Lib.hid h2
    have hfl := fld1 pa pn pc va vn vc
    clear h1 h2 hb2 HB CE CR
    go_wp2
    refine bodyPost_ret (v := .tuple #[.slice va vn vc, .int .i64 0]) ?_ rfl ?_
    · simp [results, Tryd.results28, go_sem]
    · exact ⟨_, rfl, H2.out, HB2.out⟩
  · simp only [Pt.Eff.fn] at CR
    have CE := fun W => Lib.hid (eff_opn p W)
    go_enter Tryd.func28, Tryd.ntmps28
    go_wp2_with fail
    refine (CR _).mono ?_
    rintro e w1 ⟨rfl, hb1⟩
    have HB := Lib.hid (hb1.alloc hb1.size (.cells #[.string r0, .string r1, .string r2, .string r3, .string r4, .string r5, .string r6, .int .i64 r7, .string r8, .string r9, .func (.func 60) #[] #[]] 83))
    clear hb1
    go_wp2_with fail
    refine (CE _).out.mono ?_
    rintro e w2 ⟨ps, vs, rfl, h1, h2, hb2⟩
    obtain ⟨pa, pn, pc, rfl⟩ := h1.form
    obtain ⟨va, vn, vc, rfl⟩ := h2.form
    have HB2 := Lib.hid (below_nxt HB.out hb2)
    have H1 := Lib.hid h1
    have H2 := Lib.hid h2
    have hfl := fld1 pa pn pc va vn vc
    clear h1 h2 hb2 HB CE CR
    go_wp2
    refine bodyPost_ret (v := .tuple #[.slice va vn vc, .int .i64 0]) ?_ rfl ?_
    · simp [results, Tryd.results28, go_sem]
    · exact ⟨_, rfl, H2.out, HB2.out⟩
  · simp only [Pt.Eff.fn] at CR
    have CE := fun W => Lib.hid (eff_shut p W)
    go_enter Tryd.func28, Tryd.ntmps28
    go_wp2_with fail
    refine (CR _).mono ?_
    rintro e w1 ⟨rfl, hb1⟩
    have HB := Lib.hid (hb1.alloc hb1.size (.cells #[.string r0, .string r1, .string r2, .string r3, .string r4, .string r5, .string r6, .int .i64 r7, .string r8, .string r9, .func (.func 61) #[] #[]] 83))
    clear hb1
    go_wp2_with fail
    refine (CE _).out.mono ?_
    rintro e w2 ⟨ps, vs, rfl, h1, h2, hb2⟩
    obtain ⟨pa, pn, pc, rfl⟩ := h1.form
    obtain ⟨va, vn, vc, rfl⟩ := h2.form
    have HB2 := Lib.hid (below_nxt HB.out hb2)
    have H1 := Lib.hid h1
    have H2 := Lib.hid h2
    have hfl := fld1 pa pn pc va vn vc
    clear h1 h2 hb2 HB CE CR
    go_wp2
    refine bodyPost_ret (v := .tuple #[.slice va vn vc, .int .i64 0]) ?_ rfl ?_
    · simp [results, Tryd.results28, go_sem]
    · exact ⟨_, rfl, H2.out, HB2.out⟩
  · simp only [Pt.Eff.fn] at CR
    have CE := fun W => Lib.hid (eff_either p W)
    go_enter Tryd.func28, Tryd.ntmps28
    go_wp2_with fail
    refine (CR _).mono ?_
    rintro e w1 ⟨rfl, hb1⟩
    have HB := Lib.hid (hb1.alloc hb1.size (.cells #[.string r0, .string r1, .string r2, .string r3, .string r4, .string r5, .string r6, .int .i64 r7, .string r8, .string r9, .func (.func 62) #[] #[]] 83))
    clear hb1
    go_wp2_with fail
    refine (CE _).out.mono ?_
    rintro e w2 ⟨ps, vs, rfl, h1, h2, hb2⟩
    obtain ⟨pa, pn, pc, rfl⟩ := h1.form
    obtain ⟨va, vn, vc, rfl⟩ := h2.form
    have HB2 := Lib.hid (below_nxt HB.out hb2)
    have H1 := Lib.hid h1
    have H2 := Lib.hid h2
    have hfl := fld1 pa pn pc va vn vc
    clear h1 h2 hb2 HB CE CR
    go_wp2
    refine bodyPost_ret (v := .tuple #[.slice va vn vc, .int .i64 0]) ?_ rfl ?_
    · simp [results, Tryd.results28, go_sem]
    · exact ⟨_, rfl, H2.out, HB2.out⟩
  · simp only [Pt.Eff.fn] at CR
    have CE := fun W => Lib.hid (eff_both p W)
    go_enter Tryd.func28, Tryd.ntmps28
    go_wp2_with fail
    refine (CR _).mono ?_
    rintro e w1 ⟨rfl, hb1⟩
    have HB := Lib.hid (hb1.alloc hb1.size (.cells #[.string r0, .string r1, .string r2, .string r3, .string r4, .string r5, .string r6, .int .i64 r7, .string r8, .string r9, .func (.func 63) #[] #[]] 83))
    clear hb1
    go_wp2_with fail
    refine (CE _).out.mono ?_
    rintro e w2 ⟨ps, vs, rfl, h1, h2, hb2⟩
    obtain ⟨pa, pn, pc, rfl⟩ := h1.form
    obtain ⟨va, vn, vc, rfl⟩ := h2.form
    have HB2 := Lib.hid (below_nxt HB.out hb2)
    have H1 := Lib.hid h1
    have H2 := Lib.hid h2
    have hfl := fld1 pa pn pc va vn vc
    clear h1 h2 hb2 HB CE CR
    go_wp2
    refine bodyPost_ret (v := .tuple #[.slice va vn vc, .int .i64 0]) ?_ rfl ?_
    · simp [results, Tryd.results28, go_sem]
    · exact ⟨_, rfl, H2.out, HB2.out⟩
  · simp only [Pt.Eff.fn] at CR
    have CE := fun W => Lib.hid (eff_pass p W)
    go_enter Tryd.func28, Tryd.ntmps28
    go_wp2_with fail
    refine (CR _).mono ?_
    rintro e w1 ⟨rfl, hb1⟩
    have HB := Lib.hid (hb1.alloc hb1.size (.cells #[.string r0, .string r1, .string r2, .string r3, .string r4, .string r5, .string r6, .int .i64 r7, .string r8, .string r9, .func (.func 64) #[] #[]] 83))
    clear hb1
    go_wp2_with fail
    refine (CE _).out.mono ?_
    rintro e w2 ⟨ps, vs, rfl, h1, h2, hb2⟩
    obtain ⟨pa, pn, pc, rfl⟩ := h1.form
    obtain ⟨va, vn, vc, rfl⟩ := h2.form
    have HB2 := Lib.hid (below_nxt HB.out hb2)
    have H1 := Lib.hid h1
    have H2 := Lib.hid h2
    have hfl := fld1 pa pn pc va vn vc
    clear h1 h2 hb2 HB CE CR
    go_wp2
    refine bodyPost_ret (v := .tuple #[.slice va vn vc, .int .i64 0]) ?_ rfl ?_
    · simp [results, Tryd.results28, go_sem]
    · exact ⟨_, rfl, H2.out, HB2.out⟩
set_option maxHeartbeats 4000000 in
set_option maxRecDepth 100000 in
theorem vents_no (k p e : Int) (he : e = 1 ∨ e = 2) (w : World) (CR : ∀ W, Calls Tryd.prog 49 #[.int .i64 k, .int .i64 p] W fun r w' => r = .returned (.tuple #[noV, .int .i64 e]) ∧ Below W.heap.size W w') : Calls Tryd.prog 28 #[.int .i64 k, .int .i64 p] w fun r w' => r = .returned (.tuple #[.slice none 0 0, .int .i64 e]) ∧ Below w.heap.size w w' := by
  have hsn := st_nil
  simp only [noV] at CR
  have he1 : ¬ e = 0 := by omega
  clear he
  go_enter Tryd.func28, Tryd.ntmps28
  go_wp2_with fail
  refine (CR _).mono ?_
  rintro r w1 ⟨rfl, hb1⟩
  have HB := Lib.hid (hb1.alloc hb1.size (.cells #[.string ⟨#[]⟩, .string ⟨#[]⟩, .string ⟨#[]⟩, .string ⟨#[]⟩, .string ⟨#[]⟩, .string ⟨#[]⟩, .string ⟨#[]⟩, .int .i64 0, .string ⟨#[]⟩, .string ⟨#[]⟩, .nilFunc] 83))
  clear hb1
  go_wp2
  exact bodyPost_ret (v := .tuple #[.slice none 0 0, .int .i64 e]) (by simp [results, Tryd.results28, go_sem]) rfl ⟨rfl, HB.out⟩
end Go.Proofs.YthjkcncfppndkaaDoor
