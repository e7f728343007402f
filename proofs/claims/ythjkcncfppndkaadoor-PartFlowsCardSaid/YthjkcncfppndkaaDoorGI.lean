/- Classes of bytes of package lexer; texts of one letter are words; Check of package part. -/
import Derived.Test.YthjkcncfppndkaaDoorGH
namespace Pt
/-- The bytes of each class. -/
def memV : Nat → ByteArray
  | 0 => ⟨#[]⟩
  | 1 => ⟨#[32, 10]⟩
  | 2 => ⟨#[43, 45, 42, 47, 40, 41, 91, 93, 123, 125, 60, 62, 61, 44, 59, 58, 124, 38, 33, 35, 46]⟩
  | 3 => ⟨#[48, 49, 50, 51, 52, 53, 54, 55, 56, 57]⟩
  | 4 => ⟨#[95]⟩
  | _ => ⟨#[65, 66, 67, 68, 69, 70, 71, 72, 73, 74, 75, 76, 77, 78, 79, 80, 81, 82, 83, 84, 85, 86, 87, 88, 89, 90, 97, 98, 99, 100, 101, 102, 103, 104, 105, 106, 107, 108, 109, 110, 111, 112, 113, 114, 115, 116, 117, 118, 119, 120, 121, 122]⟩
def hit (c : UInt8) (i : Nat) : Bool := decide (0 ≤ Go.Lib.indexByte (memV i).data.toList c)
def Cls (c : UInt8) (r : Nat) : Prop := (r < 6 ∧ hit c r = true ∧ ∀ j, j < r → hit c j = false) ∨ (r = 0 ∧ ∀ j, j < 6 → hit c j = false)
theorem hit_let : ∀ i, i < 6 → hit 98 i = decide (i = 5) ∧ hit 100 i = decide (i = 5) := by decide
theorem cls_let {c : UInt8} {r : Nat} (hc : c = 98 ∨ c = 100) (h : Cls c r) : r = 5 := by
  have h5 : hit c 5 = true := by rcases hc with rfl | rfl <;> decide
  have hn : ∀ i, i < 6 → hit c i = true → i = 5 := by
    intro i hi h
    rcases hc with rfl | rfl
    · rw [(hit_let i hi).1] at h; simpa using h
    · rw [(hit_let i hi).2] at h; simpa using h
  rcases h with ⟨h1, h2, h3⟩ | ⟨-, h3⟩
  · exact hn r h1 h2
  · rw [h3 5 (by omega)] at h5; cases h5
end Pt
namespace Go.Proofs.YthjkcncfppndkaaDoor
open Go.RowKit
/-- What the package variables of lexer hold. -/
structure Lx (w : World) : Prop where
  size : 3 ≤ w.heap.size
  mem : ∀ i, i < 6 → w.cell? ⟨0, i, none⟩ = some (.string (Pt.memV i))
theorem Lx.next {w w' : World} (h : Lx w) (hb : Below w.heap.size w w') : Lx w' :=
  ⟨Nat.le_trans h.size hb.size, fun i hi => (hb.cell (p := ⟨0, i, none⟩) (by have := h.size; show 0 < w.heap.size; omega)).trans (h.mem i hi)⟩
set_option maxHeartbeats 2000000 in
set_option maxRecDepth 100000 in
theorem classOf_any (c : Nat) (_hc : c < 256) (w : World) (hx : Lx w) : Calls Tryd.prog 75 #[.int .u8 (c : Int)] w fun e w' => ∃ r : Nat, e = .returned (.int .i64 (r : Int)) ∧ Pt.Cls (UInt8.ofNat c) r ∧ w' = w := by
  have HX := Lib.hid hx
  clear hx
  have CI := fun s W => Lib.hid (Tryd.strings_IndexByte s (c : Int) W)
  have e8 : ((c : Int).toNat).toUInt8 = UInt8.ofNat c := by simp
  rw [e8] at CI
  generalize UInt8.ofNat c = b at *
  clear e8
  go_enter Tryd.func75, Tryd.ntmps75
  go_wp2
  go_loopw [4] (fun s4 wr => ∃ i : Nat, i ≤ 6 ∧ s4 = .int .i64 (i : Int) ∧ wr = w ∧ Hid (∀ j, j < i → Pt.hit b j = false)) (fun s4 _ => 6 - (intOf s4).toNat)
  case atStart => exact ⟨0, by omega, rfl, rfl, Lib.hid (fun j h => by omega)⟩
  case round =>
    obtain ⟨i, hi, rfl, rfl, HJ⟩ := hrel
    by_cases hil : i < 6
    · have zi : (i : Int) < 6 := by omega
      have k0 := HX.out.mem i hil
      have HI := Lib.hid (show Pt.hit b i = decide (0 ≤ Lib.indexByte (Pt.memV i).data.toList b) from rfl)
      generalize hq : Lib.indexByte (Pt.memV i).data.toList b = q at *
      have CI2 := CI (Pt.memV i) wr
      rw [hq] at CI2
      clear hq
      generalize Pt.memV i = s at *
      go_wp2_with fail
      refine (CI2.out).mono ?_
      rintro e w1 ⟨rfl, rfl⟩
      by_cases h0 : 0 ≤ q
      · have HC := Lib.hid (show Pt.Cls b i from .inl ⟨hil, by rw [HI.out, decide_eq_true h0], HJ.out⟩)
        go_wp2
        go_ret
        exact ⟨i, rfl, HC.out, rfl⟩
      · have HJ2 := Lib.hid (show ∀ j, j < i + 1 → Pt.hit b j = false from fun j hj => by
          by_cases e : j = i
          · rw [e, HI.out, decide_eq_false h0]
          · exact HJ.out j (by omega))
        go_wp2
        exact ⟨⟨i + 1, by omega, by first | rfl | go_num, by trivial, HJ2⟩, by simp [intOf]; omega⟩
    · obtain rfl : i = 6 := by omega
      have HC := Lib.hid (show Pt.Cls b 0 from .inr ⟨rfl, HJ.out⟩)
      go_wp2
      go_ret
      exact ⟨0, rfl, HC.out, rfl⟩
set_option maxHeartbeats 2000000 in
set_option maxRecDepth 100000 in
theorem runLen_one (c : UInt8) (w : World) (hx : Lx w) : Calls Tryd.prog 76 #[.string ⟨#[c]⟩] w fun e w' => e = .returned (.int .i64 1) ∧ Below w.heap.size w w' := by
  have HX := Lib.hid hx
  have CC := fun W (h : Lx W) => Lib.hid (classOf_any c.toNat (UInt8.toNat_lt c) W h)
  have h1 : (⟨#[c]⟩ : ByteArray).size = 1 := rfl
  clear hx
  go_enter Tryd.func76, Tryd.ntmps76
  go_wp2_with fail
  refine (CC w HX.out).out.mono ?_
  rintro e w1 ⟨r, rfl, -, rfl⟩
  clear CC
  go_wp2
  go_loopw [4] (fun s4 wr => s4 = .int .i64 1 ∧ wr = w1) (fun _ _ => 0)
  case atStart => exact ⟨rfl, rfl⟩
  case round =>
    obtain ⟨rfl, rfl⟩ := hrel
    go_wp2
    go_quiet (fail)
    go_wp2
    go_ret
    exact ⟨rfl, below_drewN _ _⟩
set_option maxHeartbeats 2000000 in
set_option maxRecDepth 100000 in
theorem isRun_one (c : UInt8) (hc : c = 98 ∨ c = 100) (w : World) (hx : Lx w) : Calls Tryd.prog 65 #[.string ⟨#[c]⟩, .int .i64 5] w fun e w' => e = .returned (.bool true) ∧ Below w.heap.size w w' := by
  have HX := Lib.hid hx
  have CC := fun W (h : Lx W) => Lib.hid (classOf_any c.toNat (UInt8.toNat_lt c) W h)
  have CR := fun W (h : Lx W) => Lib.hid (runLen_one c W h)
  have h1 : (⟨#[c]⟩ : ByteArray).size = 1 := rfl
  have HL := Lib.hid (fun r (h : Pt.Cls (UInt8.ofNat c.toNat) r) => Pt.cls_let hc (by rw [UInt8.ofNat_toNat] at h; exact h))
  clear hx hc
  go_enter Tryd.func65, Tryd.ntmps65
  go_wp2_with fail
  refine (CC w HX.out).out.mono ?_
  rintro e w1 ⟨r, rfl, hr, rfl⟩
  obtain rfl := HL.out r hr
  clear CC hr
  go_wp2_with fail
  refine (CR w1 HX.out).out.mono ?_
  rintro e w2 ⟨rfl, hb2⟩
  have HB2 := Lib.hid hb2
  clear CR hb2
  go_wp2
  go_ret
  exact ⟨rfl, HB2.out⟩
set_option maxHeartbeats 2000000 in
set_option maxRecDepth 100000 in
theorem word_one (c : UInt8) (hc : c = 98 ∨ c = 100) (w : World) (hx : Lx w) : Calls Tryd.prog 42 #[.string ⟨#[c]⟩] w fun e w' => e = .returned (.int .i64 0) ∧ Below w.heap.size w w' := by
  have CR := fun W (h : Lx W) => Lib.hid (isRun_one c hc W h)
  have HX := Lib.hid hx
  have h1 : (⟨#[c]⟩ : ByteArray).size = 1 := rfl
  clear hx hc
  go_enter Tryd.func42, Tryd.ntmps42
  go_wp2_with fail
  refine (CR w HX.out).out.mono ?_
  rintro e w2 ⟨rfl, hb2⟩
  have HB2 := Lib.hid hb2
  clear CR hb2
  go_wp2
  go_ret
  exact ⟨rfl, HB2.out⟩
set_option maxHeartbeats 2000000 in
set_option maxRecDepth 100000 in
theorem check_button (w : World) (hx : Lx w) : Calls Tryd.prog 17 #[.agg #[.int .i64 7, .string ⟨#[98]⟩, .int .i64 1]] w fun e w' => e = .returned (.int .i64 2) ∧ Below w.heap.size w w' := by
  have CR := fun W => rowOf_any 7 (by omega) W
  have CW := fun W (h : Lx W) => Lib.hid (word_one 98 (by simp) W h)
  have HX := Lib.hid hx
  have hsf := st_fn
  have L0 : Below w.heap.size w (w.alloc (.cells #[.int .i64 7, .string ⟨#[98]⟩, .int .i64 1] 23)) := (Below.refl _ _).alloc (Nat.le_refl _) _
  have HL0 := Lib.hid L0
  clear hx
  generalize Pt.cat 7 = r at *
  obtain ⟨r0, r1, r2, r3, r4, r5, r6, r7, r8, r9, r10⟩ := r
  simp only [Pt.rowV, Pt.rowC] at CR
  generalize Pt.Eff.fn r10 = q at *
  go_enter Tryd.func17, Tryd.ntmps17
  go_wp2_with fail
  refine (CR _).mono ?_
  rintro e w1 ⟨rfl, hb1⟩
  have a0 := (hb1.cell (p := ⟨w.heap.size, 0, none⟩) (by simp)).trans (show _ = some (.int .i64 7) by simp)
  have a1 := (hb1.cell (p := ⟨w.heap.size, 1, none⟩) (by simp)).trans (show _ = some (.string ⟨#[98]⟩) by simp)
  have a2 := (hb1.cell (p := ⟨w.heap.size, 2, none⟩) (by simp)).trans (show _ = some (.int .i64 1) by simp)
  have hg : w.heap.size < w1.heap.size := Nat.lt_of_lt_of_le (by simp) hb1.size
  have LB : Below w1.heap.size w1 (w1.alloc (.cells #[.string r0, .string r1, .string r2, .string r3, .string r4, .string r5, .string r6, .int .i64 r7, .string r8, .string r9, .func (.func q) #[] #[]] 83)) := (Below.refl _ _).alloc (Nat.le_refl _) _
  have HB1 := Lib.hid (below_nxt (below_nxt L0 hb1) LB)
  have HA := Lib.hid (show _ ∧ _ ∧ _ from ⟨(LB.cell (p := ⟨w.heap.size, 0, none⟩) hg).trans a0, (LB.cell (p := ⟨w.heap.size, 1, none⟩) hg).trans a1, (LB.cell (p := ⟨w.heap.size, 2, none⟩) hg).trans a2⟩)
  have HG := Lib.hid (Nat.lt_of_lt_of_le hg LB.size)
  clear hb1 L0 CR LB
  go_wp2_with fail
  clear a0 a1 a2 hg
  generalize w1.alloc (.cells #[.string r0, .string r1, .string r2, .string r3, .string r4, .string r5, .string r6, .int .i64 r7, .string r8, .string r9, .func (.func q) #[] #[]] 83) = W1 at *
  refine (CW W1 (HX.out.next HB1.out)).out.mono ?_
  rintro e w2 ⟨rfl, hb2⟩
  have a0 := (hb2.cell (p := ⟨w.heap.size, 0, none⟩) HG.out).trans HA.out.1
  have a1 := (hb2.cell (p := ⟨w.heap.size, 1, none⟩) HG.out).trans HA.out.2.1
  have a2 := (hb2.cell (p := ⟨w.heap.size, 2, none⟩) HG.out).trans HA.out.2.2
  have HB2 := Lib.hid (below_nxt HB1.out hb2)
  clear hb2 CW
  go_wp2
  go_ret
  exact ⟨rfl, HB2.out⟩
set_option maxHeartbeats 2000000 in
set_option maxRecDepth 100000 in
theorem check_delay (w : World) (hx : Lx w) : Calls Tryd.prog 17 #[.agg #[.int .i64 12, .string ⟨#[100]⟩, .int .i64 1]] w fun e w' => e = .returned (.int .i64 0) ∧ Below w.heap.size w w' := by
  have CR := fun W => rowOf_any 12 (by omega) W
  have CW := fun W (h : Lx W) => Lib.hid (word_one 100 (by simp) W h)
  have HX := Lib.hid hx
  have hsf := st_fn
  have L0 : Below w.heap.size w (w.alloc (.cells #[.int .i64 12, .string ⟨#[100]⟩, .int .i64 1] 23)) := (Below.refl _ _).alloc (Nat.le_refl _) _
  have HL0 := Lib.hid L0
  clear hx
  generalize Pt.cat 12 = r at *
  obtain ⟨r0, r1, r2, r3, r4, r5, r6, r7, r8, r9, r10⟩ := r
  simp only [Pt.rowV, Pt.rowC] at CR
  generalize Pt.Eff.fn r10 = q at *
  go_enter Tryd.func17, Tryd.ntmps17
  go_wp2_with fail
  refine (CR _).mono ?_
  rintro e w1 ⟨rfl, hb1⟩
  have a0 := (hb1.cell (p := ⟨w.heap.size, 0, none⟩) (by simp)).trans (show _ = some (.int .i64 12) by simp)
  have a1 := (hb1.cell (p := ⟨w.heap.size, 1, none⟩) (by simp)).trans (show _ = some (.string ⟨#[100]⟩) by simp)
  have a2 := (hb1.cell (p := ⟨w.heap.size, 2, none⟩) (by simp)).trans (show _ = some (.int .i64 1) by simp)
  have hg : w.heap.size < w1.heap.size := Nat.lt_of_lt_of_le (by simp) hb1.size
  have LB : Below w1.heap.size w1 (w1.alloc (.cells #[.string r0, .string r1, .string r2, .string r3, .string r4, .string r5, .string r6, .int .i64 r7, .string r8, .string r9, .func (.func q) #[] #[]] 83)) := (Below.refl _ _).alloc (Nat.le_refl _) _
  have HB1 := Lib.hid (below_nxt (below_nxt L0 hb1) LB)
  have HA := Lib.hid (show _ ∧ _ ∧ _ from ⟨(LB.cell (p := ⟨w.heap.size, 0, none⟩) hg).trans a0, (LB.cell (p := ⟨w.heap.size, 1, none⟩) hg).trans a1, (LB.cell (p := ⟨w.heap.size, 2, none⟩) hg).trans a2⟩)
  have HG := Lib.hid (Nat.lt_of_lt_of_le hg LB.size)
  clear hb1 L0 CR LB
  go_wp2_with fail
  clear a0 a1 a2 hg
  generalize w1.alloc (.cells #[.string r0, .string r1, .string r2, .string r3, .string r4, .string r5, .string r6, .int .i64 r7, .string r8, .string r9, .func (.func q) #[] #[]] 83) = W1 at *
  refine (CW W1 (HX.out.next HB1.out)).out.mono ?_
  rintro e w2 ⟨rfl, hb2⟩
  have a0 := (hb2.cell (p := ⟨w.heap.size, 0, none⟩) HG.out).trans HA.out.1
  have a1 := (hb2.cell (p := ⟨w.heap.size, 1, none⟩) HG.out).trans HA.out.2.1
  have a2 := (hb2.cell (p := ⟨w.heap.size, 2, none⟩) HG.out).trans HA.out.2.2
  have HB2 := Lib.hid (below_nxt HB1.out hb2)
  clear hb2 CW
  go_wp2
  go_ret
  exact ⟨rfl, HB2.out⟩
end Go.Proofs.YthjkcncfppndkaaDoor
