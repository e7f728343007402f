/- Parse of package implicant at the three texts that the law's examples have. -/
import Derived.Deep.QuietTactic
import Derived.BigQuiet
import Derived.Deep.RegionWith
import Derived.Deep.Light
import Derived.Deep.RegionHeld3
import Derived.StillTailTactics
import Derived.Lib.OthersKept
import Derived.Lib.RuneCount
import Derived.RangeFuncOwn
import Derived.Test.YtabflijfbjdpgaaDoorShelf
import Derived.Test.YtabflijfbjdpgaaDoorUa
import Derived.Test.YtabflijfbjdpgaaDoorId
namespace Go.Proofs.YtabflijfbjdpgaaDoor
open Go.RowKit Go.Shelf
theorem ne_of_cell {W : World} {a : Addr} {v : Value} {l : Nat} {o : Obj} (h : W.cell? a = some v) (hl : W.heap[l]? = some o) (ho : o.isCells = false) : a.block ≠ l := by
  intro e
  subst e
  unfold World.cell? at h
  rw [hl] at h
  cases o <;> simp_all [Obj.isCells]
theorem cell_iterAt {W : World} {k : Nat} {s : ByteArray} {pos pos' : Nat} (hk : W.heap[k]? = some (.stringIter s pos)) {a : Addr} {v : Value} (h : W.cell? a = some v) : (W.iterAt k s pos').cell? a = some v ∧ (W.iterAt k s pos').frozen? a = W.frozen? a := by
  have hne : a.block ≠ k := ne_of_cell h hk rfl
  exact ⟨(World.cell?_of_block (Lib.iterAt_other W k a.block s pos' hne)).trans h, World.frozen?_of_block (Lib.iterAt_other W k a.block s pos' hne)⟩
theorem or_0_1 : bits .or .u64 0 1 = 1 := by decide
theorem or_0_2 : bits .or .u64 0 2 = 2 := by decide
theorem or_0_4 : bits .or .u64 0 4 = 4 := by decide
theorem or_1_4 : bits .or .u64 1 4 = 5 := by decide
theorem or_2_4 : bits .or .u64 2 4 = 6 := by decide
attribute [local go_sem] or_0_1 or_0_2 or_0_4 or_1_4 or_2_4
theorem CubI.iterAt {W : World} {k : Nat} {s : ByteArray} {pos pos' : Nat} (hk : W.heap[k]? = some (.stringIter s pos)) {g c v : Nat} (h : CubI W g c v) : CubI (W.iterAt k s pos') g c v := by
  obtain ⟨h0, h1, h2, h3, h4⟩ := h
  exact ⟨by rw [Lib.iterAt_size]; exact h0, (cell_iterAt hk h1).1, (cell_iterAt hk h2).1, (cell_iterAt hk h1).2.trans h3, (cell_iterAt hk h2).2.trans h4⟩

set_option linter.unusedSimpArgs false in
set_option maxHeartbeats 1000000 in
set_option maxRecDepth 100000 in
theorem iParse_a (w : World) : Calls Tryd.prog 26 #[.string ⟨#[49, 45, 48]⟩] w fun e w' => e = .returned (.tuple #[.int .i64 3, .agg #[.int .u64 5, .int .u64 1], .int .i64 0]) ∧ Below w.heap.size w w' := by
  have CR := fun W => Lib.hid (Tryd.utf8_RuneCountInString ⟨#[49, 45, 48]⟩ W (by decide))
  rw [show Lib.runeCount ⟨#[49, 45, 48]⟩ = 3 by decide +kernel] at CR
  have hsz : (⟨#[49, 45, 48]⟩ : ByteArray).size = 3 := rfl
  have d0 : Utf8.decode ⟨#[49, 45, 48]⟩ 0 = (49, 1) := by decide +kernel
  have d1 : Utf8.decode ⟨#[49, 45, 48]⟩ 1 = (45, 1) := by decide +kernel
  have d2 : Utf8.decode ⟨#[49, 45, 48]⟩ 2 = (48, 1) := by decide +kernel
  generalize (⟨#[49, 45, 48]⟩ : ByteArray) = s at *
  have A00 := cubI_new w 0 0 24
  simp only [Int.natCast_zero] at A00
  go_enter Tryd.func26, Tryd.ntmps26
  go_wp2_with (go_at_call 62; refine ((CR _).out).mono ?_; rintro e w1 ⟨rfl, pos, hw1⟩; have z1 : w1.heap.size = w.heap.size + 2 := (by rw [hw1]; simp [World.iter]); have A0 : CubI w1 w.heap.size 0 0 := (by rw [hw1]; exact A00.below (Nat.lt_succ_self _) (((Below.refl (w.heap.size + 1) _).alloc (by simp) _))); have B1 : Hid (Below w.heap.size w w1) := Lib.hid (by rw [hw1]; exact ((Below.refl _ w).alloc (Nat.le_refl _) _).alloc (by simp) _); clear hw1)
  go_loopw [] (fun wr => ∃ k c v : Nat, ((k = 0 ∧ c = 0 ∧ v = 0) ∨ (k = 1 ∧ c = 1 ∧ v = 1) ∨ (k = 2 ∧ c = 1 ∧ v = 1) ∨ (k = 3 ∧ c = 5 ∧ v = 1)) ∧ wr.heap[w.heap.size + 2 + 1]? = some (.stringIter s k) ∧ CubI wr (w.heap.size + 2) c v ∧ CubI wr w.heap.size 0 0 ∧ Hid (Below w.heap.size w wr)) (fun wr => 3 - wr.iterPos (w.heap.size + 2 + 1))
  case atStart =>
    rw [← z1]
    refine ⟨0, 0, 0, .inl ⟨rfl, rfl, rfl⟩, ?_, ?_, ?_, Lib.hid ?_⟩
    · have := World.iter_heap (w1.alloc (.cells #[.int .u64 0, .int .u64 0] 24)) s 0
      simpa using this
    · have := (cubI_new w1 0 0 24).below (Nat.lt_succ_self _) ((Below.refl (w1.heap.size + 1) _).alloc (by simp) (.stringIter s 0))
      simpa [World.iter] using this
    · exact A0.below (B := w1.heap.size) (by omega) (((Below.refl w1.heap.size w1).alloc (Nat.le_refl _) _).alloc (by simp) _)
    · exact B1.out.trans ((((Below.refl w1.heap.size w1).alloc (Nat.le_refl _) _).alloc (by simp) _).mono (by omega))
  case round =>
    obtain ⟨k, c, v, hk, hit, hT1, hT0, HW⟩ := hrel
    have e2 : wr.iterPos (w.heap.size + 2 + 1) = k := by simp [World.iterPos, hit]
    rcases hk with ⟨rfl, rfl, rfl⟩ | ⟨rfl, rfl, rfl⟩ | ⟨rfl, rfl, rfl⟩ | ⟨rfl, rfl, rfl⟩
    · have hnx : ∀ ty, (Instr.next (.pointer (some ⟨w.heap.size + 2 + 1, 0, none⟩)) true ty).run Tryd.prog wr = _ := fun ty => Lib.run_next_any_at wr (w.heap.size + 2 + 1) s 0 ty hit (by rw [hsz]; omega)
      rw [d0] at hnx
      have hit2 := Lib.iterAt_heap wr (w.heap.size + 2 + 1) s 0 (0 + 1) hit
      have hS1 := hT1.iterAt (pos' := 0 + 1) hit
      have hS0 := hT0.iterAt (pos' := 0 + 1) hit
      have HW2 := Lib.hid (Lib.below_iterAt HW.out (k := w.heap.size + 2 + 1) (by omega) s (0 + 1))
      dsimp only at hnx
      generalize wr.iterAt (w.heap.size + 2 + 1) s (0 + 1) = W at *
      clear hT1 hT0 hit
      simp only [Nat.reduceAdd, Int.natCast_zero, Int.natCast_one, Int.cast_ofNat_Int] at hnx hit2
      obtain ⟨p0, p1, p2, p3, p4⟩ := id hS1
      simp only [Nat.reduceAdd, Int.natCast_zero, Int.natCast_one, Int.cast_ofNat_Int] at p1 p2
      go_wp2
      go_still_tail 6, (by kernel_rfl)
      change wpList _ _ _ _ _ W.drew
      go_wp2
      try rw [show bits .or .u64 0 1 = 1 from by decide]
      have hA0 := (hS1.set0 1).drew
      have hit0a : (W.setCell ⟨w.heap.size + 2, 0, none⟩ (.int .u64 1)).drew.heap[w.heap.size + 2 + 1]? = some (.stringIter s 1) := (Below.heap_setCell W ⟨w.heap.size + 2, 0, none⟩ _ (w.heap.size + 2 + 1) (by show w.heap.size + 2 + 1 ≠ w.heap.size + 2; omega)).trans hit2
      have hO0 := (hS0.other (g' := w.heap.size + 2) (j := 0) (.int .u64 1) (by omega)).drew
      have HW0a := Lib.hid (HW2.out.setCell (p := ⟨w.heap.size + 2, 0, none⟩) (by show _ ≤ w.heap.size + 2; omega) (.int .u64 1)).drew
      simp only [Int.natCast_zero, Int.natCast_one, Int.cast_ofNat_Int] at hA0
      clear hS1 hS0 HW2 hit2 p0 p1 p2 p3 p4
      generalize (W.setCell ⟨w.heap.size + 2, 0, none⟩ (.int .u64 1)).drew = Wa at *
      have hS1 := hA0
      have hS0 := hO0
      have HW2 := HW0a
      have hit2 := hit0a
      clear hA0 hO0 HW0a hit0a
      obtain ⟨p0, p1, p2, p3, p4⟩ := id hS1
      simp only [Int.natCast_zero, Int.natCast_one, Int.cast_ofNat_Int] at p1 p2
      go_wp2
      go_still_tail 6, (by kernel_rfl)
      change wpList _ _ _ _ _ Wa.drew
      go_wp2
      try rw [show bits .or .u64 0 1 = 1 from by decide]
      have hA1 := (hS1.set1 1).drew
      have hit1a : (Wa.setCell ⟨w.heap.size + 2, 1, none⟩ (.int .u64 1)).drew.heap[w.heap.size + 2 + 1]? = some (.stringIter s 1) := (Below.heap_setCell Wa ⟨w.heap.size + 2, 1, none⟩ _ (w.heap.size + 2 + 1) (by show w.heap.size + 2 + 1 ≠ w.heap.size + 2; omega)).trans hit2
      have hO1 := (hS0.other (g' := w.heap.size + 2) (j := 1) (.int .u64 1) (by omega)).drew
      have HW1a := Lib.hid (HW2.out.setCell (p := ⟨w.heap.size + 2, 1, none⟩) (by show _ ≤ w.heap.size + 2; omega) (.int .u64 1)).drew
      simp only [Int.natCast_zero, Int.natCast_one, Int.cast_ofNat_Int] at hA1
      clear hS1 hS0 HW2 hit2 p0 p1 p2 p3 p4
      generalize (Wa.setCell ⟨w.heap.size + 2, 1, none⟩ (.int .u64 1)).drew = Waa at *
      have hS1 := hA1
      have hS0 := hO1
      have HW2 := HW1a
      have hit2 := hit1a
      clear hA1 hO1 HW1a hit1a
      obtain ⟨p0, p1, p2, p3, p4⟩ := id hS1
      simp only [Int.natCast_zero, Int.natCast_one, Int.cast_ofNat_Int] at p1 p2
      refine ⟨⟨0 + 1, _, _, .inr (.inl ⟨rfl, rfl, rfl⟩), hit2, hS1, hS0, HW2⟩, ?_⟩
      rw [e2, show Waa.iterPos (w.heap.size + 2 + 1) = 0 + 1 by simp [World.iterPos, hit2]]
      omega
    · have hnx : ∀ ty, (Instr.next (.pointer (some ⟨w.heap.size + 2 + 1, 0, none⟩)) true ty).run Tryd.prog wr = _ := fun ty => Lib.run_next_any_at wr (w.heap.size + 2 + 1) s 1 ty hit (by rw [hsz]; omega)
      rw [d1] at hnx
      have hit2 := Lib.iterAt_heap wr (w.heap.size + 2 + 1) s 1 (1 + 1) hit
      have hS1 := hT1.iterAt (pos' := 1 + 1) hit
      have hS0 := hT0.iterAt (pos' := 1 + 1) hit
      have HW2 := Lib.hid (Lib.below_iterAt HW.out (k := w.heap.size + 2 + 1) (by omega) s (1 + 1))
      dsimp only at hnx
      generalize wr.iterAt (w.heap.size + 2 + 1) s (1 + 1) = W at *
      clear hT1 hT0 hit
      simp only [Nat.reduceAdd, Int.natCast_zero, Int.natCast_one, Int.cast_ofNat_Int] at hnx hit2
      go_wp2
      refine ⟨⟨1 + 1, _, _, .inr (.inr (.inl ⟨rfl, rfl, rfl⟩)), hit2, hS1, hS0, HW2⟩, ?_⟩
      rw [e2, show W.iterPos (w.heap.size + 2 + 1) = 1 + 1 by simp [World.iterPos, hit2]]
      omega
    · have hnx : ∀ ty, (Instr.next (.pointer (some ⟨w.heap.size + 2 + 1, 0, none⟩)) true ty).run Tryd.prog wr = _ := fun ty => Lib.run_next_any_at wr (w.heap.size + 2 + 1) s 2 ty hit (by rw [hsz]; omega)
      rw [d2] at hnx
      have hit2 := Lib.iterAt_heap wr (w.heap.size + 2 + 1) s 2 (2 + 1) hit
      have hS1 := hT1.iterAt (pos' := 2 + 1) hit
      have hS0 := hT0.iterAt (pos' := 2 + 1) hit
      have HW2 := Lib.hid (Lib.below_iterAt HW.out (k := w.heap.size + 2 + 1) (by omega) s (2 + 1))
      dsimp only at hnx
      generalize wr.iterAt (w.heap.size + 2 + 1) s (2 + 1) = W at *
      clear hT1 hT0 hit
      simp only [Nat.reduceAdd, Int.natCast_zero, Int.natCast_one, Int.cast_ofNat_Int] at hnx hit2
      obtain ⟨p0, p1, p2, p3, p4⟩ := id hS1
      simp only [Nat.reduceAdd, Int.natCast_zero, Int.natCast_one, Int.cast_ofNat_Int] at p1 p2
      go_wp2
      go_still_tail 6, (by kernel_rfl)
      change wpList _ _ _ _ _ W.drew
      go_wp2
      try rw [show bits .or .u64 1 4 = 5 from by decide]
      have hA0 := (hS1.set0 5).drew
      have hit0a : (W.setCell ⟨w.heap.size + 2, 0, none⟩ (.int .u64 5)).drew.heap[w.heap.size + 2 + 1]? = some (.stringIter s 3) := (Below.heap_setCell W ⟨w.heap.size + 2, 0, none⟩ _ (w.heap.size + 2 + 1) (by show w.heap.size + 2 + 1 ≠ w.heap.size + 2; omega)).trans hit2
      have hO0 := (hS0.other (g' := w.heap.size + 2) (j := 0) (.int .u64 5) (by omega)).drew
      have HW0a := Lib.hid (HW2.out.setCell (p := ⟨w.heap.size + 2, 0, none⟩) (by show _ ≤ w.heap.size + 2; omega) (.int .u64 5)).drew
      simp only [Int.natCast_zero, Int.natCast_one, Int.cast_ofNat_Int] at hA0
      clear hS1 hS0 HW2 hit2 p0 p1 p2 p3 p4
      generalize (W.setCell ⟨w.heap.size + 2, 0, none⟩ (.int .u64 5)).drew = Wa at *
      have hS1 := hA0
      have hS0 := hO0
      have HW2 := HW0a
      have hit2 := hit0a
      clear hA0 hO0 HW0a hit0a
      obtain ⟨p0, p1, p2, p3, p4⟩ := id hS1
      simp only [Int.natCast_zero, Int.natCast_one, Int.cast_ofNat_Int] at p1 p2
      refine ⟨⟨2 + 1, _, _, .inr (.inr (.inr  ⟨rfl, rfl, rfl⟩)), hit2, hS1, hS0, HW2⟩, ?_⟩
      rw [e2, show Wa.iterPos (w.heap.size + 2 + 1) = 2 + 1 by simp [World.iterPos, hit2]]
      omega
    · have hnx : ∀ ty, (Instr.next (.pointer (some ⟨w.heap.size + 2 + 1, 0, none⟩)) true ty).run Tryd.prog wr = _ := fun ty => Lib.run_next_end_at wr (w.heap.size + 2 + 1) s 3 ty hit (by rw [hsz]; omega)
      obtain ⟨p0, p1, p2, p3, p4⟩ := id hT1
      obtain ⟨q0, q1, q2, q3, q4⟩ := id hT0
      simp only [Int.natCast_zero, Int.natCast_one, Int.cast_ofNat_Int] at p1 p2 q1 q2
      go_wp2
      go_region
      all_goals go_wp2
      all_goals trace_state
      all_goals refine bodyPost_ret (v := .tuple #[.int .i64 3, .agg #[.int .u64 5, .int .u64 1], .int .i64 0]) (by simp [results, Tryd.results26, go_sem, q1, q2]) rfl ⟨rfl, ?_⟩
      all_goals exact ((HW.out.drew.setCell (p := ⟨w.heap.size, 0, none⟩) (Nat.le_refl _) _).setCell (p := ⟨w.heap.size, 1, none⟩) (Nat.le_refl _) _)

set_option linter.unusedSimpArgs false in
set_option maxHeartbeats 1000000 in
set_option maxRecDepth 100000 in
theorem iParse_b (w : World) : Calls Tryd.prog 26 #[.string ⟨#[45, 49, 48]⟩] w fun e w' => e = .returned (.tuple #[.int .i64 3, .agg #[.int .u64 6, .int .u64 2], .int .i64 0]) ∧ Below w.heap.size w w' := by
  have CR := fun W => Lib.hid (Tryd.utf8_RuneCountInString ⟨#[45, 49, 48]⟩ W (by decide))
  rw [show Lib.runeCount ⟨#[45, 49, 48]⟩ = 3 by decide +kernel] at CR
  have hsz : (⟨#[45, 49, 48]⟩ : ByteArray).size = 3 := rfl
  have d0 : Utf8.decode ⟨#[45, 49, 48]⟩ 0 = (45, 1) := by decide +kernel
  have d1 : Utf8.decode ⟨#[45, 49, 48]⟩ 1 = (49, 1) := by decide +kernel
  have d2 : Utf8.decode ⟨#[45, 49, 48]⟩ 2 = (48, 1) := by decide +kernel
  generalize (⟨#[45, 49, 48]⟩ : ByteArray) = s at *
  have A00 := cubI_new w 0 0 24
  simp only [Int.natCast_zero] at A00
  go_enter Tryd.func26, Tryd.ntmps26
  go_wp2_with (go_at_call 62; refine ((CR _).out).mono ?_; rintro e w1 ⟨rfl, pos, hw1⟩; have z1 : w1.heap.size = w.heap.size + 2 := (by rw [hw1]; simp [World.iter]); have A0 : CubI w1 w.heap.size 0 0 := (by rw [hw1]; exact A00.below (Nat.lt_succ_self _) (((Below.refl (w.heap.size + 1) _).alloc (by simp) _))); have B1 : Hid (Below w.heap.size w w1) := Lib.hid (by rw [hw1]; exact ((Below.refl _ w).alloc (Nat.le_refl _) _).alloc (by simp) _); clear hw1)
  go_loopw [] (fun wr => ∃ k c v : Nat, ((k = 0 ∧ c = 0 ∧ v = 0) ∨ (k = 1 ∧ c = 0 ∧ v = 0) ∨ (k = 2 ∧ c = 2 ∧ v = 2) ∨ (k = 3 ∧ c = 6 ∧ v = 2)) ∧ wr.heap[w.heap.size + 2 + 1]? = some (.stringIter s k) ∧ CubI wr (w.heap.size + 2) c v ∧ CubI wr w.heap.size 0 0 ∧ Hid (Below w.heap.size w wr)) (fun wr => 3 - wr.iterPos (w.heap.size + 2 + 1))
  case atStart =>
    rw [← z1]
    refine ⟨0, 0, 0, .inl ⟨rfl, rfl, rfl⟩, ?_, ?_, ?_, Lib.hid ?_⟩
    · have := World.iter_heap (w1.alloc (.cells #[.int .u64 0, .int .u64 0] 24)) s 0
      simpa using this
    · have := (cubI_new w1 0 0 24).below (Nat.lt_succ_self _) ((Below.refl (w1.heap.size + 1) _).alloc (by simp) (.stringIter s 0))
      simpa [World.iter] using this
    · exact A0.below (B := w1.heap.size) (by omega) (((Below.refl w1.heap.size w1).alloc (Nat.le_refl _) _).alloc (by simp) _)
    · exact B1.out.trans ((((Below.refl w1.heap.size w1).alloc (Nat.le_refl _) _).alloc (by simp) _).mono (by omega))
  case round =>
    obtain ⟨k, c, v, hk, hit, hT1, hT0, HW⟩ := hrel
    have e2 : wr.iterPos (w.heap.size + 2 + 1) = k := by simp [World.iterPos, hit]
    rcases hk with ⟨rfl, rfl, rfl⟩ | ⟨rfl, rfl, rfl⟩ | ⟨rfl, rfl, rfl⟩ | ⟨rfl, rfl, rfl⟩
    · have hnx : ∀ ty, (Instr.next (.pointer (some ⟨w.heap.size + 2 + 1, 0, none⟩)) true ty).run Tryd.prog wr = _ := fun ty => Lib.run_next_any_at wr (w.heap.size + 2 + 1) s 0 ty hit (by rw [hsz]; omega)
      rw [d0] at hnx
      have hit2 := Lib.iterAt_heap wr (w.heap.size + 2 + 1) s 0 (0 + 1) hit
      have hS1 := hT1.iterAt (pos' := 0 + 1) hit
      have hS0 := hT0.iterAt (pos' := 0 + 1) hit
      have HW2 := Lib.hid (Lib.below_iterAt HW.out (k := w.heap.size + 2 + 1) (by omega) s (0 + 1))
      dsimp only at hnx
      generalize wr.iterAt (w.heap.size + 2 + 1) s (0 + 1) = W at *
      clear hT1 hT0 hit
      simp only [Nat.reduceAdd, Int.natCast_zero, Int.natCast_one, Int.cast_ofNat_Int] at hnx hit2
      go_wp2
      refine ⟨⟨0 + 1, _, _, .inr (.inl ⟨rfl, rfl, rfl⟩), hit2, hS1, hS0, HW2⟩, ?_⟩
      rw [e2, show W.iterPos (w.heap.size + 2 + 1) = 0 + 1 by simp [World.iterPos, hit2]]
      omega
    · have hnx : ∀ ty, (Instr.next (.pointer (some ⟨w.heap.size + 2 + 1, 0, none⟩)) true ty).run Tryd.prog wr = _ := fun ty => Lib.run_next_any_at wr (w.heap.size + 2 + 1) s 1 ty hit (by rw [hsz]; omega)
      rw [d1] at hnx
      have hit2 := Lib.iterAt_heap wr (w.heap.size + 2 + 1) s 1 (1 + 1) hit
      have hS1 := hT1.iterAt (pos' := 1 + 1) hit
      have hS0 := hT0.iterAt (pos' := 1 + 1) hit
      have HW2 := Lib.hid (Lib.below_iterAt HW.out (k := w.heap.size + 2 + 1) (by omega) s (1 + 1))
      dsimp only at hnx
      generalize wr.iterAt (w.heap.size + 2 + 1) s (1 + 1) = W at *
      clear hT1 hT0 hit
      simp only [Nat.reduceAdd, Int.natCast_zero, Int.natCast_one, Int.cast_ofNat_Int] at hnx hit2
      obtain ⟨p0, p1, p2, p3, p4⟩ := id hS1
      simp only [Nat.reduceAdd, Int.natCast_zero, Int.natCast_one, Int.cast_ofNat_Int] at p1 p2
      go_wp2
      go_still_tail 6, (by kernel_rfl)
      change wpList _ _ _ _ _ W.drew
      go_wp2
      try rw [show bits .or .u64 0 2 = 2 from by decide]
      have hA0 := (hS1.set0 2).drew
      have hit0a : (W.setCell ⟨w.heap.size + 2, 0, none⟩ (.int .u64 2)).drew.heap[w.heap.size + 2 + 1]? = some (.stringIter s 2) := (Below.heap_setCell W ⟨w.heap.size + 2, 0, none⟩ _ (w.heap.size + 2 + 1) (by show w.heap.size + 2 + 1 ≠ w.heap.size + 2; omega)).trans hit2
      have hO0 := (hS0.other (g' := w.heap.size + 2) (j := 0) (.int .u64 2) (by omega)).drew
      have HW0a := Lib.hid (HW2.out.setCell (p := ⟨w.heap.size + 2, 0, none⟩) (by show _ ≤ w.heap.size + 2; omega) (.int .u64 2)).drew
      simp only [Int.natCast_zero, Int.natCast_one, Int.cast_ofNat_Int] at hA0
      clear hS1 hS0 HW2 hit2 p0 p1 p2 p3 p4
      generalize (W.setCell ⟨w.heap.size + 2, 0, none⟩ (.int .u64 2)).drew = Wa at *
      have hS1 := hA0
      have hS0 := hO0
      have HW2 := HW0a
      have hit2 := hit0a
      clear hA0 hO0 HW0a hit0a
      obtain ⟨p0, p1, p2, p3, p4⟩ := id hS1
      simp only [Int.natCast_zero, Int.natCast_one, Int.cast_ofNat_Int] at p1 p2
      go_wp2
      go_still_tail 6, (by kernel_rfl)
      change wpList _ _ _ _ _ Wa.drew
      go_wp2
      try rw [show bits .or .u64 0 2 = 2 from by decide]
      have hA1 := (hS1.set1 2).drew
      have hit1a : (Wa.setCell ⟨w.heap.size + 2, 1, none⟩ (.int .u64 2)).drew.heap[w.heap.size + 2 + 1]? = some (.stringIter s 2) := (Below.heap_setCell Wa ⟨w.heap.size + 2, 1, none⟩ _ (w.heap.size + 2 + 1) (by show w.heap.size + 2 + 1 ≠ w.heap.size + 2; omega)).trans hit2
      have hO1 := (hS0.other (g' := w.heap.size + 2) (j := 1) (.int .u64 2) (by omega)).drew
      have HW1a := Lib.hid (HW2.out.setCell (p := ⟨w.heap.size + 2, 1, none⟩) (by show _ ≤ w.heap.size + 2; omega) (.int .u64 2)).drew
      simp only [Int.natCast_zero, Int.natCast_one, Int.cast_ofNat_Int] at hA1
      clear hS1 hS0 HW2 hit2 p0 p1 p2 p3 p4
      generalize (Wa.setCell ⟨w.heap.size + 2, 1, none⟩ (.int .u64 2)).drew = Waa at *
      have hS1 := hA1
      have hS0 := hO1
      have HW2 := HW1a
      have hit2 := hit1a
      clear hA1 hO1 HW1a hit1a
      obtain ⟨p0, p1, p2, p3, p4⟩ := id hS1
      simp only [Int.natCast_zero, Int.natCast_one, Int.cast_ofNat_Int] at p1 p2
      refine ⟨⟨1 + 1, _, _, .inr (.inr (.inl ⟨rfl, rfl, rfl⟩)), hit2, hS1, hS0, HW2⟩, ?_⟩
      rw [e2, show Waa.iterPos (w.heap.size + 2 + 1) = 1 + 1 by simp [World.iterPos, hit2]]
      omega
    · have hnx : ∀ ty, (Instr.next (.pointer (some ⟨w.heap.size + 2 + 1, 0, none⟩)) true ty).run Tryd.prog wr = _ := fun ty => Lib.run_next_any_at wr (w.heap.size + 2 + 1) s 2 ty hit (by rw [hsz]; omega)
      rw [d2] at hnx
      have hit2 := Lib.iterAt_heap wr (w.heap.size + 2 + 1) s 2 (2 + 1) hit
      have hS1 := hT1.iterAt (pos' := 2 + 1) hit
      have hS0 := hT0.iterAt (pos' := 2 + 1) hit
      have HW2 := Lib.hid (Lib.below_iterAt HW.out (k := w.heap.size + 2 + 1) (by omega) s (2 + 1))
      dsimp only at hnx
      generalize wr.iterAt (w.heap.size + 2 + 1) s (2 + 1) = W at *
      clear hT1 hT0 hit
      simp only [Nat.reduceAdd, Int.natCast_zero, Int.natCast_one, Int.cast_ofNat_Int] at hnx hit2
      obtain ⟨p0, p1, p2, p3, p4⟩ := id hS1
      simp only [Nat.reduceAdd, Int.natCast_zero, Int.natCast_one, Int.cast_ofNat_Int] at p1 p2
      go_wp2
      go_still_tail 6, (by kernel_rfl)
      change wpList _ _ _ _ _ W.drew
      go_wp2
      try rw [show bits .or .u64 2 4 = 6 from by decide]
      have hA0 := (hS1.set0 6).drew
      have hit0a : (W.setCell ⟨w.heap.size + 2, 0, none⟩ (.int .u64 6)).drew.heap[w.heap.size + 2 + 1]? = some (.stringIter s 3) := (Below.heap_setCell W ⟨w.heap.size + 2, 0, none⟩ _ (w.heap.size + 2 + 1) (by show w.heap.size + 2 + 1 ≠ w.heap.size + 2; omega)).trans hit2
      have hO0 := (hS0.other (g' := w.heap.size + 2) (j := 0) (.int .u64 6) (by omega)).drew
      have HW0a := Lib.hid (HW2.out.setCell (p := ⟨w.heap.size + 2, 0, none⟩) (by show _ ≤ w.heap.size + 2; omega) (.int .u64 6)).drew
      simp only [Int.natCast_zero, Int.natCast_one, Int.cast_ofNat_Int] at hA0
      clear hS1 hS0 HW2 hit2 p0 p1 p2 p3 p4
      generalize (W.setCell ⟨w.heap.size + 2, 0, none⟩ (.int .u64 6)).drew = Wa at *
      have hS1 := hA0
      have hS0 := hO0
      have HW2 := HW0a
      have hit2 := hit0a
      clear hA0 hO0 HW0a hit0a
      obtain ⟨p0, p1, p2, p3, p4⟩ := id hS1
      simp only [Int.natCast_zero, Int.natCast_one, Int.cast_ofNat_Int] at p1 p2
      refine ⟨⟨2 + 1, _, _, .inr (.inr (.inr  ⟨rfl, rfl, rfl⟩)), hit2, hS1, hS0, HW2⟩, ?_⟩
      rw [e2, show Wa.iterPos (w.heap.size + 2 + 1) = 2 + 1 by simp [World.iterPos, hit2]]
      omega
    · have hnx : ∀ ty, (Instr.next (.pointer (some ⟨w.heap.size + 2 + 1, 0, none⟩)) true ty).run Tryd.prog wr = _ := fun ty => Lib.run_next_end_at wr (w.heap.size + 2 + 1) s 3 ty hit (by rw [hsz]; omega)
      obtain ⟨p0, p1, p2, p3, p4⟩ := id hT1
      obtain ⟨q0, q1, q2, q3, q4⟩ := id hT0
      simp only [Int.natCast_zero, Int.natCast_one, Int.cast_ofNat_Int] at p1 p2 q1 q2
      go_wp2
      go_region
      all_goals go_wp2
      all_goals trace_state
      all_goals refine bodyPost_ret (v := .tuple #[.int .i64 3, .agg #[.int .u64 6, .int .u64 2], .int .i64 0]) (by simp [results, Tryd.results26, go_sem, q1, q2]) rfl ⟨rfl, ?_⟩
      all_goals exact ((HW.out.drew.setCell (p := ⟨w.heap.size, 0, none⟩) (Nat.le_refl _) _).setCell (p := ⟨w.heap.size, 1, none⟩) (Nat.le_refl _) _)

set_option linter.unusedSimpArgs false in
set_option maxHeartbeats 1000000 in
set_option maxRecDepth 100000 in
theorem iParse_c (w : World) : Calls Tryd.prog 26 #[.string ⟨#[45, 45, 49]⟩] w fun e w' => e = .returned (.tuple #[.int .i64 3, .agg #[.int .u64 4, .int .u64 4], .int .i64 0]) ∧ Below w.heap.size w w' := by
  have CR := fun W => Lib.hid (Tryd.utf8_RuneCountInString ⟨#[45, 45, 49]⟩ W (by decide))
  rw [show Lib.runeCount ⟨#[45, 45, 49]⟩ = 3 by decide +kernel] at CR
  have hsz : (⟨#[45, 45, 49]⟩ : ByteArray).size = 3 := rfl
  have d0 : Utf8.decode ⟨#[45, 45, 49]⟩ 0 = (45, 1) := by decide +kernel
  have d1 : Utf8.decode ⟨#[45, 45, 49]⟩ 1 = (45, 1) := by decide +kernel
  have d2 : Utf8.decode ⟨#[45, 45, 49]⟩ 2 = (49, 1) := by decide +kernel
  generalize (⟨#[45, 45, 49]⟩ : ByteArray) = s at *
  have A00 := cubI_new w 0 0 24
  simp only [Int.natCast_zero] at A00
  go_enter Tryd.func26, Tryd.ntmps26
  go_wp2_with (go_at_call 62; refine ((CR _).out).mono ?_; rintro e w1 ⟨rfl, pos, hw1⟩; have z1 : w1.heap.size = w.heap.size + 2 := (by rw [hw1]; simp [World.iter]); have A0 : CubI w1 w.heap.size 0 0 := (by rw [hw1]; exact A00.below (Nat.lt_succ_self _) (((Below.refl (w.heap.size + 1) _).alloc (by simp) _))); have B1 : Hid (Below w.heap.size w w1) := Lib.hid (by rw [hw1]; exact ((Below.refl _ w).alloc (Nat.le_refl _) _).alloc (by simp) _); clear hw1)
  go_loopw [] (fun wr => ∃ k c v : Nat, ((k = 0 ∧ c = 0 ∧ v = 0) ∨ (k = 1 ∧ c = 0 ∧ v = 0) ∨ (k = 2 ∧ c = 0 ∧ v = 0) ∨ (k = 3 ∧ c = 4 ∧ v = 4)) ∧ wr.heap[w.heap.size + 2 + 1]? = some (.stringIter s k) ∧ CubI wr (w.heap.size + 2) c v ∧ CubI wr w.heap.size 0 0 ∧ Hid (Below w.heap.size w wr)) (fun wr => 3 - wr.iterPos (w.heap.size + 2 + 1))
  case atStart =>
    rw [← z1]
    refine ⟨0, 0, 0, .inl ⟨rfl, rfl, rfl⟩, ?_, ?_, ?_, Lib.hid ?_⟩
    · have := World.iter_heap (w1.alloc (.cells #[.int .u64 0, .int .u64 0] 24)) s 0
      simpa using this
    · have := (cubI_new w1 0 0 24).below (Nat.lt_succ_self _) ((Below.refl (w1.heap.size + 1) _).alloc (by simp) (.stringIter s 0))
      simpa [World.iter] using this
    · exact A0.below (B := w1.heap.size) (by omega) (((Below.refl w1.heap.size w1).alloc (Nat.le_refl _) _).alloc (by simp) _)
    · exact B1.out.trans ((((Below.refl w1.heap.size w1).alloc (Nat.le_refl _) _).alloc (by simp) _).mono (by omega))
  case round =>
    obtain ⟨k, c, v, hk, hit, hT1, hT0, HW⟩ := hrel
    have e2 : wr.iterPos (w.heap.size + 2 + 1) = k := by simp [World.iterPos, hit]
    rcases hk with ⟨rfl, rfl, rfl⟩ | ⟨rfl, rfl, rfl⟩ | ⟨rfl, rfl, rfl⟩ | ⟨rfl, rfl, rfl⟩
    · have hnx : ∀ ty, (Instr.next (.pointer (some ⟨w.heap.size + 2 + 1, 0, none⟩)) true ty).run Tryd.prog wr = _ := fun ty => Lib.run_next_any_at wr (w.heap.size + 2 + 1) s 0 ty hit (by rw [hsz]; omega)
      rw [d0] at hnx
      have hit2 := Lib.iterAt_heap wr (w.heap.size + 2 + 1) s 0 (0 + 1) hit
      have hS1 := hT1.iterAt (pos' := 0 + 1) hit
      have hS0 := hT0.iterAt (pos' := 0 + 1) hit
      have HW2 := Lib.hid (Lib.below_iterAt HW.out (k := w.heap.size + 2 + 1) (by omega) s (0 + 1))
      dsimp only at hnx
      generalize wr.iterAt (w.heap.size + 2 + 1) s (0 + 1) = W at *
      clear hT1 hT0 hit
      simp only [Nat.reduceAdd, Int.natCast_zero, Int.natCast_one, Int.cast_ofNat_Int] at hnx hit2
      go_wp2
      refine ⟨⟨0 + 1, _, _, .inr (.inl ⟨rfl, rfl, rfl⟩), hit2, hS1, hS0, HW2⟩, ?_⟩
      rw [e2, show W.iterPos (w.heap.size + 2 + 1) = 0 + 1 by simp [World.iterPos, hit2]]
      omega
    · have hnx : ∀ ty, (Instr.next (.pointer (some ⟨w.heap.size + 2 + 1, 0, none⟩)) true ty).run Tryd.prog wr = _ := fun ty => Lib.run_next_any_at wr (w.heap.size + 2 + 1) s 1 ty hit (by rw [hsz]; omega)
      rw [d1] at hnx
      have hit2 := Lib.iterAt_heap wr (w.heap.size + 2 + 1) s 1 (1 + 1) hit
      have hS1 := hT1.iterAt (pos' := 1 + 1) hit
      have hS0 := hT0.iterAt (pos' := 1 + 1) hit
      have HW2 := Lib.hid (Lib.below_iterAt HW.out (k := w.heap.size + 2 + 1) (by omega) s (1 + 1))
      dsimp only at hnx
      generalize wr.iterAt (w.heap.size + 2 + 1) s (1 + 1) = W at *
      clear hT1 hT0 hit
      simp only [Nat.reduceAdd, Int.natCast_zero, Int.natCast_one, Int.cast_ofNat_Int] at hnx hit2
      go_wp2
      refine ⟨⟨1 + 1, _, _, .inr (.inr (.inl ⟨rfl, rfl, rfl⟩)), hit2, hS1, hS0, HW2⟩, ?_⟩
      rw [e2, show W.iterPos (w.heap.size + 2 + 1) = 1 + 1 by simp [World.iterPos, hit2]]
      omega
    · have hnx : ∀ ty, (Instr.next (.pointer (some ⟨w.heap.size + 2 + 1, 0, none⟩)) true ty).run Tryd.prog wr = _ := fun ty => Lib.run_next_any_at wr (w.heap.size + 2 + 1) s 2 ty hit (by rw [hsz]; omega)
      rw [d2] at hnx
      have hit2 := Lib.iterAt_heap wr (w.heap.size + 2 + 1) s 2 (2 + 1) hit
      have hS1 := hT1.iterAt (pos' := 2 + 1) hit
      have hS0 := hT0.iterAt (pos' := 2 + 1) hit
      have HW2 := Lib.hid (Lib.below_iterAt HW.out (k := w.heap.size + 2 + 1) (by omega) s (2 + 1))
      dsimp only at hnx
      generalize wr.iterAt (w.heap.size + 2 + 1) s (2 + 1) = W at *
      clear hT1 hT0 hit
      simp only [Nat.reduceAdd, Int.natCast_zero, Int.natCast_one, Int.cast_ofNat_Int] at hnx hit2
      obtain ⟨p0, p1, p2, p3, p4⟩ := id hS1
      simp only [Nat.reduceAdd, Int.natCast_zero, Int.natCast_one, Int.cast_ofNat_Int] at p1 p2
      go_wp2
      go_still_tail 6, (by kernel_rfl)
      change wpList _ _ _ _ _ W.drew
      go_wp2
      try rw [show bits .or .u64 0 4 = 4 from by decide]
      have hA0 := (hS1.set0 4).drew
      have hit0a : (W.setCell ⟨w.heap.size + 2, 0, none⟩ (.int .u64 4)).drew.heap[w.heap.size + 2 + 1]? = some (.stringIter s 3) := (Below.heap_setCell W ⟨w.heap.size + 2, 0, none⟩ _ (w.heap.size + 2 + 1) (by show w.heap.size + 2 + 1 ≠ w.heap.size + 2; omega)).trans hit2
      have hO0 := (hS0.other (g' := w.heap.size + 2) (j := 0) (.int .u64 4) (by omega)).drew
      have HW0a := Lib.hid (HW2.out.setCell (p := ⟨w.heap.size + 2, 0, none⟩) (by show _ ≤ w.heap.size + 2; omega) (.int .u64 4)).drew
      simp only [Int.natCast_zero, Int.natCast_one, Int.cast_ofNat_Int] at hA0
      clear hS1 hS0 HW2 hit2 p0 p1 p2 p3 p4
      generalize (W.setCell ⟨w.heap.size + 2, 0, none⟩ (.int .u64 4)).drew = Wa at *
      have hS1 := hA0
      have hS0 := hO0
      have HW2 := HW0a
      have hit2 := hit0a
      clear hA0 hO0 HW0a hit0a
      obtain ⟨p0, p1, p2, p3, p4⟩ := id hS1
      simp only [Int.natCast_zero, Int.natCast_one, Int.cast_ofNat_Int] at p1 p2
      go_wp2
      go_still_tail 6, (by kernel_rfl)
      change wpList _ _ _ _ _ Wa.drew
      go_wp2
      try rw [show bits .or .u64 0 4 = 4 from by decide]
      have hA1 := (hS1.set1 4).drew
      have hit1a : (Wa.setCell ⟨w.heap.size + 2, 1, none⟩ (.int .u64 4)).drew.heap[w.heap.size + 2 + 1]? = some (.stringIter s 3) := (Below.heap_setCell Wa ⟨w.heap.size + 2, 1, none⟩ _ (w.heap.size + 2 + 1) (by show w.heap.size + 2 + 1 ≠ w.heap.size + 2; omega)).trans hit2
      have hO1 := (hS0.other (g' := w.heap.size + 2) (j := 1) (.int .u64 4) (by omega)).drew
      have HW1a := Lib.hid (HW2.out.setCell (p := ⟨w.heap.size + 2, 1, none⟩) (by show _ ≤ w.heap.size + 2; omega) (.int .u64 4)).drew
      simp only [Int.natCast_zero, Int.natCast_one, Int.cast_ofNat_Int] at hA1
      clear hS1 hS0 HW2 hit2 p0 p1 p2 p3 p4
      generalize (Wa.setCell ⟨w.heap.size + 2, 1, none⟩ (.int .u64 4)).drew = Waa at *
      have hS1 := hA1
      have hS0 := hO1
      have HW2 := HW1a
      have hit2 := hit1a
      clear hA1 hO1 HW1a hit1a
      obtain ⟨p0, p1, p2, p3, p4⟩ := id hS1
      simp only [Int.natCast_zero, Int.natCast_one, Int.cast_ofNat_Int] at p1 p2
      refine ⟨⟨2 + 1, _, _, .inr (.inr (.inr  ⟨rfl, rfl, rfl⟩)), hit2, hS1, hS0, HW2⟩, ?_⟩
      rw [e2, show Waa.iterPos (w.heap.size + 2 + 1) = 2 + 1 by simp [World.iterPos, hit2]]
      omega
    · have hnx : ∀ ty, (Instr.next (.pointer (some ⟨w.heap.size + 2 + 1, 0, none⟩)) true ty).run Tryd.prog wr = _ := fun ty => Lib.run_next_end_at wr (w.heap.size + 2 + 1) s 3 ty hit (by rw [hsz]; omega)
      obtain ⟨p0, p1, p2, p3, p4⟩ := id hT1
      obtain ⟨q0, q1, q2, q3, q4⟩ := id hT0
      simp only [Int.natCast_zero, Int.natCast_one, Int.cast_ofNat_Int] at p1 p2 q1 q2
      go_wp2
      go_region
      all_goals go_wp2
      all_goals trace_state
      all_goals refine bodyPost_ret (v := .tuple #[.int .i64 3, .agg #[.int .u64 4, .int .u64 4], .int .i64 0]) (by simp [results, Tryd.results26, go_sem, q1, q2]) rfl ⟨rfl, ?_⟩
      all_goals exact ((HW.out.drew.setCell (p := ⟨w.heap.size, 0, none⟩) (Nat.le_refl _) _).setCell (p := ⟨w.heap.size, 1, none⟩) (Nat.le_refl _) _)
end Go.Proofs.YtabflijfbjdpgaaDoor
