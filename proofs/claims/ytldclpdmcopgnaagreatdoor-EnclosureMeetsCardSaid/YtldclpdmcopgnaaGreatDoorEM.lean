/- The contract of right, of two enclosures, for the statements of P2.3. -/
import Derived.Test.YtldclpdmcopgnaaGreatDoorEG
import Derived.Test.YtldclpdmcopgnaaGreatDoorED
namespace Go.Proofs.YtldclpdmcopgnaaGreatDoor
open Go.RowKit
set_option maxRecDepth 100000 in
theorem shortE_yes (l h : ByteArray) (w : World) (hl : l.size ≤ 10) (hh : h.size ≤ 10) : Calls Tryz.prog 81 #[.agg #[.string l, .string h]] w fun e w' => e = .returned (.bool true) ∧ Below w.heap.size w w' := by
  have hB := (Below.refl w.heap.size w).alloc (Nat.le_refl _) (.cells #[.string l, .string h] 24)
  have C1 := fun W => Lib.hid (rShort_any l W (by omega))
  have C2 := fun W => Lib.hid (rShort_any h W (by omega))
  rw [decide_eq_true hl] at C1
  rw [decide_eq_true hh] at C2
  clear hl hh
  go_enter Tryz.func81, Tryz.ntmps81
  go_wp2_with fail
  refine ((C1 _).out).mono ?_
  rintro e w1 ⟨rfl, rfl⟩
  go_wp2_with fail
  refine ((C2 _).out).mono ?_
  rintro e w1 ⟨rfl, rfl⟩
  go_wp2
  go_ret
  exact ⟨rfl, hB⟩
set_option maxRecDepth 100000 in
theorem shortE_no (l h : ByteArray) (w : World) (sl : l.size ≤ 9223372036854775807) (sh : h.size ≤ 9223372036854775807) (hn : ¬ (l.size ≤ 10 ∧ h.size ≤ 10)) : Calls Tryz.prog 81 #[.agg #[.string l, .string h]] w fun e w' => e = .returned (.bool false) ∧ Below w.heap.size w w' := by
  have hB := (Below.refl w.heap.size w).alloc (Nat.le_refl _) (.cells #[.string l, .string h] 24)
  have C1 := fun W => Lib.hid (rShort_any l W sl)
  have C2 := fun W => Lib.hid (rShort_any h W sh)
  by_cases hl : l.size ≤ 10
  · rw [decide_eq_true hl] at C1
    rw [decide_eq_false (fun hh => hn ⟨hl, hh⟩)] at C2
    clear hn hl sl sh
    go_enter Tryz.func81, Tryz.ntmps81
    go_wp2_with fail
    refine ((C1 _).out).mono ?_
    rintro e w1 ⟨rfl, rfl⟩
    go_wp2_with fail
    refine ((C2 _).out).mono ?_
    rintro e w1 ⟨rfl, rfl⟩
    go_wp2
    go_ret
    exact ⟨rfl, hB⟩
  · rw [decide_eq_false hl] at C1
    clear hn hl sl sh C2
    go_enter Tryz.func81, Tryz.ntmps81
    go_wp2_with fail
    refine ((C1 _).out).mono ?_
    rintro e w1 ⟨rfl, rfl⟩
    go_wp2
    go_ret
    exact ⟨rfl, hB⟩
set_option maxRecDepth 100000 in
theorem right_no1 (l h m k : ByteArray) (g : Nat) (w : World) (hg : Quad w g l h m k) (b1 : l.size ≤ 9223372036854775807 ∧ h.size ≤ 9223372036854775807) (hs1 : ¬ (l.size ≤ 10 ∧ h.size ≤ 10)) :
    Calls Tryz.prog 42 #[.slice (some ⟨g, 0, none⟩) 2 2] w fun e w' => e = .returned (.bool false) ∧ Below w.heap.size w w' := by
  have g0 := hg.1
  have HG := fun W (hW : Below w.heap.size w W) => Lib.hid (hg.below g0 hW)
  have hA := fun (W : World) (x y : ByteArray) (hW : Below w.heap.size w W) => Lib.hid (show Below w.heap.size w (W.alloc (.cells #[.string x, .string y] 24)) from hW.alloc hW.size _)
  have CS1 := fun W => Lib.hid (shortE_no l h W b1.1 b1.2 hs1)
  clear hg b1 hs1
  go_enter Tryz.func42, Tryz.ntmps42
  go_wp2
  go_loopw [7] (fun u7 wr => ∃ j : Nat, j ≤ 0 ∧ u7 = .int .i64 j ∧ Below w.heap.size w wr) (fun u7 _ => 2 - (intOf u7).toNat)
  case atStart => exact ⟨0, by omega, rfl, Below.refl _ _⟩
  case round =>
    obtain ⟨j, hj, rfl, hbel⟩ := hrel
    obtain ⟨_, g1, g2, g3, g4⟩ := (HG _ hbel).out
    have hj3 : j = 0 := by omega
    subst hj3
    go_wp2_with fail
    refine ((CS1 _).out).mono ?_
    rintro e w1 ⟨rfl, hb1⟩
    have hB1 := (hA _ l h hbel).out.trans (hb1.mono (hA _ l h hbel).out.size)
    obtain ⟨-, q1, q2, -, -⟩ := (pair_new wr l h 24).below hb1
    go_wp2
    go_ret
    exact ⟨rfl, hB1⟩
set_option maxRecDepth 100000 in
theorem right_no2 (l h m k : ByteArray) (g : Nat) (w : World) (hg : Quad w g l h m k) (hs1 : l.size ≤ 10 ∧ h.size ≤ 10) (hc1 : Fr.chkE l.data.toList h.data.toList ≠ 0) :
    Calls Tryz.prog 42 #[.slice (some ⟨g, 0, none⟩) 2 2] w fun e w' => e = .returned (.bool false) ∧ Below w.heap.size w w' := by
  have g0 := hg.1
  have HG := fun W (hW : Below w.heap.size w W) => Lib.hid (hg.below g0 hW)
  have hA := fun (W : World) (x y : ByteArray) (hW : Below w.heap.size w W) => Lib.hid (show Below w.heap.size w (W.alloc (.cells #[.string x, .string y] 24)) from hW.alloc hW.size _)
  have CS1 := fun W => Lib.hid (shortE_yes l h W hs1.1 hs1.2)
  have CK1 := fun W => Lib.hid (rCheckE_any l h W (by omega) (by omega))
  have hne1 : (Fr.chkE l.data.toList h.data.toList != 0) = true := by simpa using hc1
  generalize Fr.chkE l.data.toList h.data.toList = c1 at *
  clear hg hs1 hc1
  go_enter Tryz.func42, Tryz.ntmps42
  go_wp2
  go_loopw [7] (fun u7 wr => ∃ j : Nat, j ≤ 0 ∧ u7 = .int .i64 j ∧ Below w.heap.size w wr) (fun u7 _ => 2 - (intOf u7).toNat)
  case atStart => exact ⟨0, by omega, rfl, Below.refl _ _⟩
  case round =>
    obtain ⟨j, hj, rfl, hbel⟩ := hrel
    obtain ⟨_, g1, g2, g3, g4⟩ := (HG _ hbel).out
    have hj3 : j = 0 := by omega
    subst hj3
    go_wp2_with fail
    refine ((CS1 _).out).mono ?_
    rintro e w1 ⟨rfl, hb1⟩
    have hB1 := (hA _ l h hbel).out.trans (hb1.mono (hA _ l h hbel).out.size)
    obtain ⟨-, q1, q2, -, -⟩ := (pair_new wr l h 24).below hb1
    go_wp2_with fail
    refine ((CK1 _).out).mono ?_
    rintro e w2 ⟨rfl, hb2⟩
    have hB2 := below_nx hB1 hb2
    go_wp2
    go_ret
    exact ⟨rfl, hB2⟩
set_option maxRecDepth 100000 in
theorem right_no3 (l h m k : ByteArray) (g : Nat) (w : World) (hg : Quad w g l h m k) (hs1 : l.size ≤ 10 ∧ h.size ≤ 10) (hc1 : Fr.chkE l.data.toList h.data.toList = 0) (b2 : m.size ≤ 9223372036854775807 ∧ k.size ≤ 9223372036854775807) (hs2 : ¬ (m.size ≤ 10 ∧ k.size ≤ 10)) :
    Calls Tryz.prog 42 #[.slice (some ⟨g, 0, none⟩) 2 2] w fun e w' => e = .returned (.bool false) ∧ Below w.heap.size w w' := by
  have g0 := hg.1
  have HG := fun W (hW : Below w.heap.size w W) => Lib.hid (hg.below g0 hW)
  have hA := fun (W : World) (x y : ByteArray) (hW : Below w.heap.size w W) => Lib.hid (show Below w.heap.size w (W.alloc (.cells #[.string x, .string y] 24)) from hW.alloc hW.size _)
  have CS1 := fun W => Lib.hid (shortE_yes l h W hs1.1 hs1.2)
  have CK1 := fun W => Lib.hid (rCheckE_any l h W (by omega) (by omega))
  rw [hc1] at CK1
  have CS2 := fun W => Lib.hid (shortE_no m k W b2.1 b2.2 hs2)
  clear hg hs1 hc1 b2 hs2
  go_enter Tryz.func42, Tryz.ntmps42
  go_wp2
  go_loopw [7] (fun u7 wr => ∃ j : Nat, j ≤ 1 ∧ u7 = .int .i64 j ∧ Below w.heap.size w wr) (fun u7 _ => 2 - (intOf u7).toNat)
  case atStart => exact ⟨0, by omega, rfl, Below.refl _ _⟩
  case round =>
    obtain ⟨j, hj, rfl, hbel⟩ := hrel
    obtain ⟨_, g1, g2, g3, g4⟩ := (HG _ hbel).out
    have hj3 : j = 0 ∨ j = 1 := by omega
    rcases hj3 with rfl | rfl
    · go_wp2_with fail
      refine ((CS1 _).out).mono ?_
      rintro e w1 ⟨rfl, hb1⟩
      have hB1 := (hA _ l h hbel).out.trans (hb1.mono (hA _ l h hbel).out.size)
      obtain ⟨-, q1, q2, -, -⟩ := (pair_new wr l h 24).below hb1
      go_wp2_with fail
      refine ((CK1 _).out).mono ?_
      rintro e w2 ⟨rfl, hb2⟩
      have hB2 := below_nx hB1 hb2
      go_wp2
      go_roundw
      case rel => exact ⟨1, by omega, by go_num, hB2⟩
      case measure => simp [intOf]
    · go_wp2_with fail
      refine ((CS2 _).out).mono ?_
      rintro e w1 ⟨rfl, hb1⟩
      have hB1 := (hA _ m k hbel).out.trans (hb1.mono (hA _ m k hbel).out.size)
      obtain ⟨-, q1, q2, -, -⟩ := (pair_new wr m k 24).below hb1
      go_wp2
      go_ret
      exact ⟨rfl, hB1⟩
set_option maxRecDepth 100000 in
theorem right_no4 (l h m k : ByteArray) (g : Nat) (w : World) (hg : Quad w g l h m k) (hs1 : l.size ≤ 10 ∧ h.size ≤ 10) (hc1 : Fr.chkE l.data.toList h.data.toList = 0) (hs2 : m.size ≤ 10 ∧ k.size ≤ 10) (hc2 : Fr.chkE m.data.toList k.data.toList ≠ 0) :
    Calls Tryz.prog 42 #[.slice (some ⟨g, 0, none⟩) 2 2] w fun e w' => e = .returned (.bool false) ∧ Below w.heap.size w w' := by
  have g0 := hg.1
  have HG := fun W (hW : Below w.heap.size w W) => Lib.hid (hg.below g0 hW)
  have hA := fun (W : World) (x y : ByteArray) (hW : Below w.heap.size w W) => Lib.hid (show Below w.heap.size w (W.alloc (.cells #[.string x, .string y] 24)) from hW.alloc hW.size _)
  have CS1 := fun W => Lib.hid (shortE_yes l h W hs1.1 hs1.2)
  have CK1 := fun W => Lib.hid (rCheckE_any l h W (by omega) (by omega))
  rw [hc1] at CK1
  have CS2 := fun W => Lib.hid (shortE_yes m k W hs2.1 hs2.2)
  have CK2 := fun W => Lib.hid (rCheckE_any m k W (by omega) (by omega))
  have hne2 : (Fr.chkE m.data.toList k.data.toList != 0) = true := by simpa using hc2
  generalize Fr.chkE m.data.toList k.data.toList = c2 at *
  clear hg hs1 hc1 hs2 hc2
  go_enter Tryz.func42, Tryz.ntmps42
  go_wp2
  go_loopw [7] (fun u7 wr => ∃ j : Nat, j ≤ 1 ∧ u7 = .int .i64 j ∧ Below w.heap.size w wr) (fun u7 _ => 2 - (intOf u7).toNat)
  case atStart => exact ⟨0, by omega, rfl, Below.refl _ _⟩
  case round =>
    obtain ⟨j, hj, rfl, hbel⟩ := hrel
    obtain ⟨_, g1, g2, g3, g4⟩ := (HG _ hbel).out
    have hj3 : j = 0 ∨ j = 1 := by omega
    rcases hj3 with rfl | rfl
    · go_wp2_with fail
      refine ((CS1 _).out).mono ?_
      rintro e w1 ⟨rfl, hb1⟩
      have hB1 := (hA _ l h hbel).out.trans (hb1.mono (hA _ l h hbel).out.size)
      obtain ⟨-, q1, q2, -, -⟩ := (pair_new wr l h 24).below hb1
      go_wp2_with fail
      refine ((CK1 _).out).mono ?_
      rintro e w2 ⟨rfl, hb2⟩
      have hB2 := below_nx hB1 hb2
      go_wp2
      go_roundw
      case rel => exact ⟨1, by omega, by go_num, hB2⟩
      case measure => simp [intOf]
    · go_wp2_with fail
      refine ((CS2 _).out).mono ?_
      rintro e w1 ⟨rfl, hb1⟩
      have hB1 := (hA _ m k hbel).out.trans (hb1.mono (hA _ m k hbel).out.size)
      obtain ⟨-, q1, q2, -, -⟩ := (pair_new wr m k 24).below hb1
      go_wp2_with fail
      refine ((CK2 _).out).mono ?_
      rintro e w2 ⟨rfl, hb2⟩
      have hB2 := below_nx hB1 hb2
      go_wp2
      go_ret
      exact ⟨rfl, hB2⟩
set_option maxRecDepth 100000 in
theorem right_yes (l h m k : ByteArray) (g : Nat) (w : World) (hg : Quad w g l h m k) (hs1 : l.size ≤ 10 ∧ h.size ≤ 10) (hc1 : Fr.chkE l.data.toList h.data.toList = 0) (hs2 : m.size ≤ 10 ∧ k.size ≤ 10) (hc2 : Fr.chkE m.data.toList k.data.toList = 0) :
    Calls Tryz.prog 42 #[.slice (some ⟨g, 0, none⟩) 2 2] w fun e w' => e = .returned (.bool true) ∧ Below w.heap.size w w' := by
  have g0 := hg.1
  have HG := fun W (hW : Below w.heap.size w W) => Lib.hid (hg.below g0 hW)
  have hA := fun (W : World) (x y : ByteArray) (hW : Below w.heap.size w W) => Lib.hid (show Below w.heap.size w (W.alloc (.cells #[.string x, .string y] 24)) from hW.alloc hW.size _)
  have CS1 := fun W => Lib.hid (shortE_yes l h W hs1.1 hs1.2)
  have CK1 := fun W => Lib.hid (rCheckE_any l h W (by omega) (by omega))
  rw [hc1] at CK1
  have CS2 := fun W => Lib.hid (shortE_yes m k W hs2.1 hs2.2)
  have CK2 := fun W => Lib.hid (rCheckE_any m k W (by omega) (by omega))
  rw [hc2] at CK2
  clear hg hs1 hc1 hs2 hc2
  go_enter Tryz.func42, Tryz.ntmps42
  go_wp2
  go_loopw [7] (fun u7 wr => ∃ j : Nat, j ≤ 2 ∧ u7 = .int .i64 j ∧ Below w.heap.size w wr) (fun u7 _ => 2 - (intOf u7).toNat)
  case atStart => exact ⟨0, by omega, rfl, Below.refl _ _⟩
  case round =>
    obtain ⟨j, hj, rfl, hbel⟩ := hrel
    obtain ⟨_, g1, g2, g3, g4⟩ := (HG _ hbel).out
    have hj3 : j = 0 ∨ j = 1 ∨ j = 2 := by omega
    rcases hj3 with rfl | rfl | rfl
    · go_wp2_with fail
      refine ((CS1 _).out).mono ?_
      rintro e w1 ⟨rfl, hb1⟩
      have hB1 := (hA _ l h hbel).out.trans (hb1.mono (hA _ l h hbel).out.size)
      obtain ⟨-, q1, q2, -, -⟩ := (pair_new wr l h 24).below hb1
      go_wp2_with fail
      refine ((CK1 _).out).mono ?_
      rintro e w2 ⟨rfl, hb2⟩
      have hB2 := below_nx hB1 hb2
      go_wp2
      go_roundw
      case rel => exact ⟨1, by omega, by go_num, hB2⟩
      case measure => simp [intOf]
    · go_wp2_with fail
      refine ((CS2 _).out).mono ?_
      rintro e w1 ⟨rfl, hb1⟩
      have hB1 := (hA _ m k hbel).out.trans (hb1.mono (hA _ m k hbel).out.size)
      obtain ⟨-, q1, q2, -, -⟩ := (pair_new wr m k 24).below hb1
      go_wp2_with fail
      refine ((CK2 _).out).mono ?_
      rintro e w2 ⟨rfl, hb2⟩
      have hB2 := below_nx hB1 hb2
      go_wp2
      go_roundw
      case rel => exact ⟨2, by omega, by go_num, hB2⟩
      case measure => simp [intOf]
    · go_wp2
      go_ret
      exact ⟨rfl, hbel⟩
/-- Two right enclosures with short numbers. -/
def RightE (l h m k : ByteArray) : Prop := ((l.size ≤ 10 ∧ h.size ≤ 10) ∧ Fr.chkE l.data.toList h.data.toList = 0) ∧ (m.size ≤ 10 ∧ k.size ≤ 10) ∧ Fr.chkE m.data.toList k.data.toList = 0
theorem right_no (l h m k : ByteArray) (g : Nat) (w : World) (hg : Quad w g l h m k) (b1 : l.size ≤ 9223372036854775807 ∧ h.size ≤ 9223372036854775807) (b2 : m.size ≤ 9223372036854775807 ∧ k.size ≤ 9223372036854775807) (hn : ¬ RightE l h m k) :
    Calls Tryz.prog 42 #[.slice (some ⟨g, 0, none⟩) 2 2] w fun e w' => e = .returned (.bool false) ∧ Below w.heap.size w w' := by
  by_cases hs1 : l.size ≤ 10 ∧ h.size ≤ 10
  · by_cases hc1 : Fr.chkE l.data.toList h.data.toList = 0
    · by_cases hs2 : m.size ≤ 10 ∧ k.size ≤ 10
      · by_cases hc2 : Fr.chkE m.data.toList k.data.toList = 0
        · exact absurd ⟨⟨hs1, hc1⟩, hs2, hc2⟩ hn
        · exact right_no4 l h m k g w hg hs1 hc1 hs2 hc2
      · exact right_no3 l h m k g w hg hs1 hc1 b2 hs2
    · exact right_no2 l h m k g w hg hs1 hc1
  · exact right_no1 l h m k g w hg b1 hs1
end Go.Proofs.YtldclpdmcopgnaaGreatDoor
