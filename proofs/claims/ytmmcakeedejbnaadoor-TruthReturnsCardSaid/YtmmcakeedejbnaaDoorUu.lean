/- truth.Parse at the text of a table. -/
import Derived.Lib.OthersKept
import Derived.Lib.RuneCount
import Derived.Test.YtmmcakeedejbnaaDoorUt
namespace Go.Proofs.YtmmcakeedejbnaaDoor
open Go.RowKit Go.Shelf

theorem tOnes64_any (n : Nat) (w : World) (hn : n ≤ 6) : Calls Tryd.prog 84 #[.int .u64 ((2 ^ n : Nat) : Int)] w fun e w' => e = .returned (.int .i64 1) ∧ w = w' := by
  rcases seven (n := (n : Int)) (by omega) (by omega) with h | h | h | h | h | h | h
  all_goals
    obtain rfl := Int.ofNat.inj h
    go_enter Tryd.func84, Tryd.ntmps84
    go_wp2
    go_ret
    refine ⟨?_, rfl⟩
    kernel_rfl
theorem tOnes_any (n : Nat) (w : World) (hn : n ≤ 6) : Calls Tryd.prog 75 #[.int .u64 ((2 ^ n : Nat) : Int)] w fun e w' => e = .returned (.int .i64 1) ∧ w = w' := by
  have C := fun W => Lib.hid (tOnes64_any n W hn)
  generalize 2 ^ n = N at *
  go_enter Tryd.func75, Tryd.ntmps75
  go_wp2_with (go_at_call 84; refine ((C _).out).mono ?_; rintro e w1 ⟨rfl, rfl⟩)
  go_ret
  exact ⟨rfl, rfl⟩
theorem ctz_two {n : Nat} (hn : n ≤ 6) : Lib.ctz 64 (2 ^ n) = n := by
  rcases seven (n := (n : Int)) (by omega) (by omega) with h | h | h | h | h | h | h
  all_goals
    obtain rfl := Int.ofNat.inj h
    decide
theorem tTzu_any (n : Nat) (w : World) (hn : n ≤ 6) (hT : TzTab w) : Calls Tryd.prog 76 #[.int .u64 ((2 ^ n : Nat) : Int)] w fun e w' => e = .returned (.int .i64 n) ∧ w = w' := by
  have hp : 2 ^ n ≠ 0 := by have : 0 < 2 ^ n := Nat.pow_pos (by omega)
                            omega
  have hl := Tt.size_le hn
  have C := tTz_any (2 ^ n) (by omega) hp w hT
  rw [ctz_two hn] at C
  have C := Lib.hid C
  generalize 2 ^ n = N at *
  go_enter Tryd.func76, Tryd.ntmps76
  go_wp2_with (go_at_call 80; refine (C.out).mono ?_; rintro e w1 ⟨rfl, rfl⟩)
  go_ret
  exact ⟨rfl, rfl⟩

theorem mod_step (b k : Nat) : b % 2 ^ (k + 1) = (b % 2 ^ k) ||| (if b.testBit k then 2 ^ k else 0) := by
  apply Nat.eq_of_testBit_eq
  intro i
  rw [Nat.testBit_or, Nat.testBit_mod_two_pow, Nat.testBit_mod_two_pow]
  by_cases hk : b.testBit k = true
  · rw [if_pos hk, Nat.testBit_two_pow]
    by_cases h1 : i < k
    · simp [h1, show i < k + 1 by omega, show ¬ k = i by omega]
    · by_cases h2 : i = k
      · subst h2; simp [hk]
      · simp [h1, show ¬ i < k + 1 by omega, show ¬ k = i by omega]
  · rw [if_neg hk, Nat.zero_testBit]
    by_cases h1 : i < k
    · simp [h1, show i < k + 1 by omega]
    · by_cases h2 : i = k
      · subst h2; simp at hk; simp [hk]
      · simp [h1, show ¬ i < k + 1 by omega]

theorem cell_iterAt {W : World} {k : Nat} {s : ByteArray} {pos pos' : Nat} (hk : W.heap[k]? = some (.stringIter s pos)) {a : Addr} {v : Value} (h : W.cell? a = some v) : (W.iterAt k s pos').cell? a = some v ∧ (W.iterAt k s pos').frozen? a = W.frozen? a := by
  have hne : a.block ≠ k := ne_of_cell h hk rfl
  exact ⟨(World.cell?_of_block (Lib.iterAt_other W k a.block s pos' hne)).trans h, World.frozen?_of_block (Lib.iterAt_other W k a.block s pos' hne)⟩
theorem TabI.iterAt {W : World} {k : Nat} {s : ByteArray} {pos pos' : Nat} (hk : W.heap[k]? = some (.stringIter s pos)) {g : Nat} {n : Int} {b : Nat} (h : TabI W g n b) : TabI (W.iterAt k s pos') g n b := by
  obtain ⟨h0, h1, h2, h3, h4⟩ := h
  exact ⟨by rw [Lib.iterAt_size]; exact h0, (cell_iterAt hk h1).1, (cell_iterAt hk h2).1, (cell_iterAt hk h1).2.trans h3, (cell_iterAt hk h2).2.trans h4⟩

theorem TabI.drew {W : World} {g : Nat} {n : Int} {b : Nat} (h : TabI W g n b) : TabI W.drew g n b := h
theorem TabI.setBits {W : World} {g : Nat} {n : Int} {b : Nat} (h : TabI W g n b) (c : Nat) : TabI (W.setCell ⟨g, 1, none⟩ (.int .u64 (c : Int))) g n c := by
  obtain ⟨h0, h1, h2, h3, h4⟩ := h
  exact ⟨by simpa using h0, (World.cell?_setCell_other (w := W) (v := .int .u64 (c : Int)) (a := ⟨g, 1, none⟩) (b := ⟨g, 0, none⟩) (by simp)).trans h1, World.cell?_setCell_same' _ _ _ (by rw [h2]; rfl), by rw [World.frozen?_setCell]; exact h3, by rw [World.frozen?_setCell]; exact h4⟩
theorem TabI.other {W : World} {g g' j : Nat} {n : Int} {b : Nat} (v : Value) (h : TabI W g n b) (hne : g' ≠ g) : TabI (W.setCell ⟨g', j, none⟩ v) g n b := by
  obtain ⟨h0, h1, h2, h3, h4⟩ := h
  exact ⟨by simpa using h0, (World.cell?_setCell_other (w := W) (v := v) (a := ⟨g', j, none⟩) (b := ⟨g, 0, none⟩) (fun e => hne (congrArg Addr.block e))).trans h1,
    (World.cell?_setCell_other (w := W) (v := v) (a := ⟨g', j, none⟩) (b := ⟨g, 1, none⟩) (fun e => hne (congrArg Addr.block e))).trans h2, by rw [World.frozen?_setCell]; exact h3, by rw [World.frozen?_setCell]; exact h4⟩
theorem or_step (b k : Nat) (hk : k < 64) : bits .or .u64 ((b : Int) % 2 ^ k) (IntKind.u64.wrap (2 ^ k)) = (((b % 2 ^ k) ||| 2 ^ k : Nat) : Int) := by
  have hp : 2 ^ k < 2 ^ 64 := Nat.pow_lt_pow_right (by omega) hk
  have h0 : 0 < 2 ^ k := Nat.pow_pos (by omega)
  have hm : b % 2 ^ k < 2 ^ k := Nat.mod_lt _ h0
  have e1 : ((b : Int) % 2 ^ k) = ((b % 2 ^ k : Nat) : Int) := by simp
  have e2 : IntKind.u64.wrap (2 ^ k) = ((2 ^ k : Nat) : Int) := by
    rw [show ((2 : Int) ^ k) = ((2 ^ k : Nat) : Int) by simp, IntKind.wrap_u64]
    omega
  rw [e1, e2, u64_or_nat _ _ (by omega) (by omega)]

set_option maxRecDepth 100000 in
theorem tParse_any (n b : Nat) (w : World) (hn : n ≤ 6) (hb : b < 2 ^ 2 ^ n) (hT : TzTab w) (hg : 1 < w.heap.size) :
    Calls Tryd.prog 41 #[.string ⟨(Tt.txt n b).toArray⟩] w fun e w' => e = .returned (.tuple #[.agg #[.int .i64 n, .int .u64 b], .int .i64 0]) ∧ Below w.heap.size w w' := by
  have hN := Tt.size_le hn
  have hsz : (⟨(Tt.txt n b).toArray⟩ : ByteArray).size = 2 ^ n := by
    show (Tt.txt n b).toArray.size = _
    simp [Tt.txt_length]
  have hrc := Lib.runeCount_le (⟨(Tt.txt n b).toArray⟩ : ByteArray)
  rw [hsz] at hrc
  have hat : ∀ (k : Nat) (h : k < (⟨(Tt.txt n b).toArray⟩ : ByteArray).size), (⟨(Tt.txt n b).toArray⟩ : ByteArray)[k]'h = Tt.chr (b.testBit k) := by
    intro k h
    show (Tt.txt n b).toArray[k]'_ = _
    simp [Tt.txt]
  have CR := fun W => Lib.hid (Tryd.utf8_RuneCountInString (⟨(Tt.txt n b).toArray⟩ : ByteArray) W (by rw [hsz]; omega))
  have CS := fun W => Lib.hid (tSize_any 6 W (by omega) (by omega))
  have CO := fun W => Lib.hid (tOnes_any n W hn)
  have CT := fun W (h : TzTab W) => Lib.hid (tTzu_any n W hn h)
  have hdec : ∀ (k : Nat), k < 2 ^ n → Utf8.decode (⟨(Tt.txt n b).toArray⟩ : ByteArray) k = ((Tt.chr (b.testBit k)).toNat, 1) := by
    intro k hk
    have := decode_ascii (⟨(Tt.txt n b).toArray⟩ : ByteArray) k (by rw [hsz]; exact hk) (by rw [hat]; cases b.testBit k <;> decide)
    rw [this, hat]
  generalize (⟨(Tt.txt n b).toArray⟩ : ByteArray) = s at *
  generalize Lib.runeCount s = r at *
  have HD := Lib.hid hdec
  have HB : Hid (b < 2 ^ 2 ^ n) := Lib.hid hb
  clear hdec hat hb
  generalize 2 ^ n = N at *
  rw [show (2 ^ (6 : Int).toNat : Nat) = 64 from rfl] at CS
  have A00 := tabI_new w 0 0 24
  go_enter Tryd.func41, Tryd.ntmps41
  go_wp2_with (first
    | (go_at_call 74; refine ((CR _).out).mono ?_; rintro e w1 ⟨rfl, pos, hw1⟩; have z1 : w1.heap.size = w.heap.size + 2 := (by rw [hw1]; simp [World.iter]); have A0 : TabI w1 w.heap.size 0 0 := (by rw [hw1]; exact A00.below (Nat.lt_succ_self _) (((Below.refl (w.heap.size + 1) _).alloc (by simp) _)));  have B1 : Hid (Below w.heap.size w w1) := Lib.hid (by rw [hw1]; exact ((Below.refl _ w).alloc (Nat.le_refl _) _).alloc (by simp) _); clear hw1)
    | (go_at_call 51; refine ((CS _).out).mono ?_; rintro e w2 ⟨rfl, rfl⟩))
  go_loopw [] (fun wr => ∃ k : Nat, k ≤ N ∧ wr.heap[w.heap.size + 2 + 1]? = some (.stringIter s k) ∧ TabI wr (w.heap.size + 2) 0 (b % 2 ^ k) ∧ TabI wr w.heap.size 0 0 ∧ Hid (Below w.heap.size w wr)) (fun wr => N - wr.iterPos (w.heap.size + 2 + 1))
  case atStart =>
    rw [← z1]
    refine ⟨0, Nat.zero_le _, ?_, ?_, ?_, Lib.hid ?_⟩
    · have := World.iter_heap (w1.alloc (.cells #[.int .i64 0, .int .u64 0] 24)) s 0
      simpa using this
    · have := (tabI_new w1 0 0 24).below (Nat.lt_succ_self _) ((Below.refl (w1.heap.size + 1) _).alloc (by simp) (.stringIter s 0))
      simpa [World.iter, Nat.mod_one] using this
    · exact A0.below (B := w1.heap.size) (by omega) (((Below.refl w1.heap.size w1).alloc (Nat.le_refl _) _).alloc (by simp) _)
    · exact B1.out.trans ((((Below.refl w1.heap.size w1).alloc (Nat.le_refl _) _).alloc (by simp) _).mono (by omega))
  case round =>
    obtain ⟨k, hk, hit, hT1, hT0, HW⟩ := hrel
    by_cases hkN : k < N
    · have hnx : ∀ ty, (Instr.next (.pointer (some ⟨w.heap.size + 2 + 1, 0, none⟩)) true ty).run Tryd.prog wr = _ := fun ty => Lib.run_next_any_at wr (w.heap.size + 2 + 1) s k ty hit (by rw [hsz]; exact hkN)
      rw [HD.out k hkN] at hnx
      have hms := mod_step b k
      have hit2 := Lib.iterAt_heap wr (w.heap.size + 2 + 1) s k (k + 1) hit
      have hS1 := hT1.iterAt (pos' := k + 1) hit
      have hS0 := hT0.iterAt (pos' := k + 1) hit
      have HW2 := Lib.hid (Lib.below_iterAt HW.out (k := w.heap.size + 2 + 1) (by omega) s (k + 1))
      dsimp only at hnx
      generalize wr.iterAt (w.heap.size + 2 + 1) s (k + 1) = W at *
      cases hbit : b.testBit k
      · rw [hbit] at hnx hms
        rw [show (Tt.chr false).toNat = 48 from rfl] at hnx
        rw [if_neg (by decide), Nat.or_zero] at hms
        rw [← hms] at hS1
        go_wp2
        refine ⟨⟨k + 1, by omega, hit2, hS1, hS0, HW2⟩, ?_⟩
        have e1 : W.iterPos (w.heap.size + 2 + 1) = k + 1 := by simp [World.iterPos, hit2]
        have e2 : wr.iterPos (w.heap.size + 2 + 1) = k := by simp [World.iterPos, hit]
        rw [e1, e2]
        omega
      · rw [hbit] at hnx hms
        rw [show (Tt.chr true).toNat = 49 from rfl] at hnx
        rw [if_pos rfl] at hms
        obtain ⟨p0, p1, p2, p3, p4⟩ := id hS1
        have hor := or_step b k (by omega)
        rw [← hms] at hor
        have hit3 : (W.setCell ⟨w.heap.size + 2, 1, none⟩ (.int .u64 ((b % 2 ^ (k + 1) : Nat) : Int))).drew.heap[w.heap.size + 2 + 1]? = some (.stringIter s (k + 1)) :=
          (Below.heap_setCell W ⟨w.heap.size + 2, 1, none⟩ _ (w.heap.size + 2 + 1) (by show w.heap.size + 2 + 1 ≠ w.heap.size + 2; omega)).trans hit2
        have hS3 := (hS1.setBits (b % 2 ^ (k + 1))).drew
        have hS4 := (hS0.other (g' := w.heap.size + 2) (j := 1) (.int .u64 ((b % 2 ^ (k + 1) : Nat) : Int)) (by omega)).drew
        have HW3 := Lib.hid (HW2.out.setCell (p := ⟨w.heap.size + 2, 1, none⟩) (by show _ ≤ w.heap.size + 2; omega) (.int .u64 ((b % 2 ^ (k + 1) : Nat) : Int))).drew
        go_wp2
        go_still_tail 6, (by kernel_rfl)
        change wpList _ _ _ _ _ W.drew
        go_wp2
        rw [← hms]
        refine ⟨⟨k + 1, by omega, hit3, hS3, hS4, HW3⟩, ?_⟩
        have e1 : (W.setCell ⟨w.heap.size + 2, 1, none⟩ (.int .u64 ((b % 2 ^ (k + 1) : Nat) : Int))).drew.iterPos (w.heap.size + 2 + 1) = k + 1 := by simp only [World.iterPos, hit3]
        have e2 : wr.iterPos (w.heap.size + 2 + 1) = k := by simp [World.iterPos, hit]
        rw [e1, e2]
        omega
    · obtain rfl : k = N := by omega
      have hnx : ∀ ty, (Instr.next (.pointer (some ⟨w.heap.size + 2 + 1, 0, none⟩)) true ty).run Tryd.prog wr = _ := fun ty => Lib.run_next_end_at wr (w.heap.size + 2 + 1) s k ty hit (by rw [hsz]; omega)
      rw [Nat.mod_eq_of_lt HB.out] at hT1
      obtain ⟨p0, p1, p2, p3, p4⟩ := id hT1
      obtain ⟨q0, q1, q2, q3, q4⟩ := id hT0
      go_wp2_with (first
        | (go_at_call 75; refine ((CO _).out).mono ?_; rintro e w2 ⟨rfl, rfl⟩)
        | (go_at_call 76; refine ((CT _ (tzTab_below hT HW.out (by omega))).out).mono ?_; rintro e w2 ⟨rfl, rfl⟩))
      refine bodyPost_ret (v := .tuple #[.agg #[.int .i64 n, .int .u64 b], .int .i64 0]) (by simp [results, Tryd.results41, go_sem, q1, q2]) rfl ⟨rfl, ?_⟩
      exact ((HW.out.setCell (p := ⟨w.heap.size + 2, 0, none⟩) (by show _ ≤ w.heap.size + 2; omega) _).setCell (p := ⟨w.heap.size, 0, none⟩) (Nat.le_refl _) _).setCell (p := ⟨w.heap.size, 1, none⟩) (Nat.le_refl _) _
end Go.Proofs.YtmmcakeedejbnaaDoor
