/- The contracts of checkAll of package enclosure and of both of the reference, for two enclosures. -/
import Derived.Test.YtldclpdmcopgnaaGreatDoorEd
namespace Go.Proofs.YtldclpdmcopgnaaGreatDoor
open Go.RowKit

/-- The first error of two enclosures. -/
def chk2 (l h m k : ByteArray) : Int := if Fr.chkE l.data.toList h.data.toList = 0 then Fr.chkE m.data.toList k.data.toList else Fr.chkE l.data.toList h.data.toList
/-- Four texts that lie one behind the other. -/
def Quad (W : World) (g : Nat) (a b c d : ByteArray) : Prop :=
  g < W.heap.size ∧ W.cell? ⟨g, 0, none⟩ = some (.string a) ∧ W.cell? ⟨g, 1, none⟩ = some (.string b) ∧ W.cell? ⟨g, 2, none⟩ = some (.string c) ∧ W.cell? ⟨g, 3, none⟩ = some (.string d)
theorem Quad.below {W W' : World} {g : Nat} {a b c d : ByteArray} (h : Quad W g a b c d) {B : Nat} (hB : g < B) (hb : Below B W W') : Quad W' g a b c d := by
  obtain ⟨h0, h1, h2, h3, h4⟩ := h
  exact ⟨Nat.lt_of_lt_of_le h0 hb.size, (hb.cell (p := ⟨g, 0, none⟩) hB).trans h1, (hb.cell (p := ⟨g, 1, none⟩) hB).trans h2, (hb.cell (p := ⟨g, 2, none⟩) hB).trans h3, (hb.cell (p := ⟨g, 3, none⟩) hB).trans h4⟩
theorem quad_new (w : World) (a b c d : ByteArray) (T : TypeId) : Quad (w.alloc (.cells #[.string a, .string b, .string c, .string d] T)) w.heap.size a b c d := by
  unfold Quad
  simp

set_option maxRecDepth 100000 in
theorem checkAll_one (l h m k : ByteArray) (g : Nat) (w : World) (hst : St w) (hg : Quad w g l h m k) (hl : l.size ≤ 800) (hh : h.size ≤ 800) (hc1 : Fr.chkE l.data.toList h.data.toList ≠ 0) :
    Calls Tryz.prog 56 #[.slice (some ⟨g, 0, none⟩) 2 2] w fun e w' => e = .returned (.int .i64 (Fr.chkE l.data.toList h.data.toList)) ∧ Below w.heap.size w w' := by
  have CC := fun W (hW : Below w.heap.size w W) => Lib.hid (eCheck_any l h W (hst.next hW) hl hh)
  have hne : (Fr.chkE l.data.toList h.data.toList != 0) = true := by simpa using hc1
  generalize Fr.chkE l.data.toList h.data.toList = c at *
  have hB0 : Below w.heap.size w (w.alloc (.cells #[.string l, .string h] 24)) := (Below.refl _ _).alloc (Nat.le_refl _) _
  obtain ⟨g0, g1, g2, g3, g4⟩ := hg
  clear hst hc1
  go_enter Tryz.func56, Tryz.ntmps56
  go_wp2
  go_loopw [8] (fun u8 wr => u8 = .int .i64 0 ∧ wr = w) (fun _ _ => 1)
  case atStart => exact ⟨rfl, rfl⟩
  case round =>
    obtain ⟨rfl, rfl⟩ := hrel
    go_wp2_with fail
    refine ((CC _ hB0).out).mono ?_
    rintro e w1 ⟨rfl, hb1⟩
    go_wp2
    go_ret
    exact ⟨rfl, hB0.trans (hb1.mono (by simp))⟩

set_option maxRecDepth 100000 in
theorem checkAll_two (l h m k : ByteArray) (g : Nat) (w : World) (hst : St w) (hg : Quad w g l h m k) (hl : l.size ≤ 800) (hh : h.size ≤ 800) (hm : m.size ≤ 800) (hk : k.size ≤ 800) (hc1 : Fr.chkE l.data.toList h.data.toList = 0) :
    Calls Tryz.prog 56 #[.slice (some ⟨g, 0, none⟩) 2 2] w fun e w' => e = .returned (.int .i64 (Fr.chkE m.data.toList k.data.toList)) ∧ Below w.heap.size w w' := by
  have CC := fun W (hW : Below w.heap.size w W) => Lib.hid (eCheck_any l h W (hst.next hW) hl hh)
  have CD := fun W (hW : Below w.heap.size w W) => Lib.hid (eCheck_any m k W (hst.next hW) hm hk)
  rw [hc1] at CC
  have g0 := hg.1
  have HG := fun W (hW : Below w.heap.size w W) => Lib.hid (hg.below g0 hW)
  have hA := fun (W : World) (x y : ByteArray) (hW : Below w.heap.size w W) => Lib.hid (show Below w.heap.size w (W.alloc (.cells #[.string x, .string y] 24)) from hW.alloc hW.size _)
  clear hst hc1 hg
  by_cases hc2 : Fr.chkE m.data.toList k.data.toList = 0
  · rw [hc2] at CD ⊢
    clear hc2
    go_enter Tryz.func56, Tryz.ntmps56
    go_wp2
    go_loopw [8] (fun u8 wr => ∃ j : Nat, j ≤ 2 ∧ u8 = .int .i64 j ∧ Below w.heap.size w wr) (fun u8 _ => 2 - (intOf u8).toNat)
    case atStart => exact ⟨0, by omega, rfl, Below.refl _ _⟩
    case round =>
      obtain ⟨j, hj, rfl, hbel⟩ := hrel
      obtain ⟨_, g1, g2, g3, g4⟩ := (HG _ hbel).out
      have hj3 : j = 0 ∨ j = 1 ∨ j = 2 := by omega
      rcases hj3 with rfl | rfl | rfl
      · go_wp2_with fail
        refine ((CC _ (hA _ l h hbel).out).out).mono ?_
        rintro e w1 ⟨rfl, hb1⟩
        have hB1 := (hA _ l h hbel).out.trans (hb1.mono (hA _ l h hbel).out.size)
        go_wp2
        go_roundw
        case rel => exact ⟨1, by omega, by go_num, hB1⟩
        case measure => simp [intOf]
      · go_wp2_with fail
        refine ((CD _ (hA _ m k hbel).out).out).mono ?_
        rintro e w1 ⟨rfl, hb1⟩
        have hB1 := (hA _ m k hbel).out.trans (hb1.mono (hA _ m k hbel).out.size)
        go_wp2
        go_roundw
        case rel => exact ⟨2, by omega, by go_num, hB1⟩
        case measure => simp [intOf]
      · go_wp2
        go_ret
        exact ⟨rfl, hbel⟩
  · have hne : (Fr.chkE m.data.toList k.data.toList != 0) = true := by simpa using hc2
    clear hc2
    generalize Fr.chkE m.data.toList k.data.toList = c at *
    go_enter Tryz.func56, Tryz.ntmps56
    go_wp2
    go_loopw [8] (fun u8 wr => ∃ j : Nat, j ≤ 1 ∧ u8 = .int .i64 j ∧ Below w.heap.size w wr) (fun u8 _ => 2 - (intOf u8).toNat)
    case atStart => exact ⟨0, by omega, rfl, Below.refl _ _⟩
    case round =>
      obtain ⟨j, hj, rfl, hbel⟩ := hrel
      obtain ⟨_, g1, g2, g3, g4⟩ := (HG _ hbel).out
      have hj3 : j = 0 ∨ j = 1 := by omega
      rcases hj3 with rfl | rfl
      · go_wp2_with fail
        refine ((CC _ (hA _ l h hbel).out).out).mono ?_
        rintro e w1 ⟨rfl, hb1⟩
        have hB1 := (hA _ l h hbel).out.trans (hb1.mono (hA _ l h hbel).out.size)
        go_wp2
        go_roundw
        case rel => exact ⟨1, by omega, by go_num, hB1⟩
        case measure => simp [intOf]
      · go_wp2_with fail
        refine ((CD _ (hA _ m k hbel).out).out).mono ?_
        rintro e w1 ⟨rfl, hb1⟩
        have hB1 := (hA _ m k hbel).out.trans (hb1.mono (hA _ m k hbel).out.size)
        go_wp2
        go_ret
        exact ⟨rfl, hB1⟩

theorem checkAll_any (l h m k : ByteArray) (g : Nat) (w : World) (hst : St w) (hg : Quad w g l h m k) (hl : l.size ≤ 800) (hh : h.size ≤ 800) (hm : m.size ≤ 800) (hk : k.size ≤ 800) :
    Calls Tryz.prog 56 #[.slice (some ⟨g, 0, none⟩) 2 2] w fun e w' => e = .returned (.int .i64 (chk2 l h m k)) ∧ Below w.heap.size w w' := by
  unfold chk2
  by_cases hc : Fr.chkE l.data.toList h.data.toList = 0
  · rw [if_pos hc]; exact checkAll_two l h m k g w hst hg hl hh hm hk hc
  · rw [if_neg hc]; exact checkAll_one l h m k g w hst hg hl hh hc

set_option maxRecDepth 100000 in
theorem rbothE_any (l h m k : ByteArray) (w : World) (hl : l.size ≤ 800) (hh : h.size ≤ 800) (hm : m.size ≤ 800) (hk : k.size ≤ 800) :
    Calls Tryz.prog 59 #[.agg #[.string l, .string h], .agg #[.string m, .string k]] w fun e w' => e = .returned (.int .i64 (chk2 l h m k)) ∧ Below w.heap.size w w' := by
  have CC := fun W => Lib.hid (rCheckE_any l h W hl hh)
  have CD := fun W => Lib.hid (rCheckE_any m k W hm hk)
  have hB0 : Below w.heap.size w ((w.alloc (.cells #[.string l, .string h] 24)).alloc (.cells #[.string m, .string k] 24)) := ((Below.refl _ _).alloc (Nat.le_refl _) _).alloc (by simp) _
  obtain ⟨HP, HQ⟩ := pair_next w l h m k 24 24
  have HQ' := Lib.hid HQ
  clear HP HQ
  unfold chk2
  by_cases hc : Fr.chkE l.data.toList h.data.toList = 0
  · rw [if_pos hc]
    rw [hc] at CC
    generalize Fr.chkE m.data.toList k.data.toList = c at *
    clear hc
    go_enter Tryz.func59, Tryz.ntmps59
    go_wp2_with fail
    refine ((CC _).out).mono ?_
    rintro e w1 ⟨rfl, hb1⟩
    obtain ⟨q0, q1, q2, q3, q4⟩ := HQ'.out.below hb1
    have hB1 := hB0.trans (hb1.mono (by simp; omega))
    go_wp2_with fail
    refine ((CD _).out).mono ?_
    rintro e w2 ⟨rfl, hb2⟩
    go_wp2
    go_ret
    exact ⟨rfl, hB1.trans (hb2.mono hB1.size)⟩
  · rw [if_neg hc]
    have hne : (Fr.chkE l.data.toList h.data.toList != 0) = true := by simpa using hc
    generalize Fr.chkE l.data.toList h.data.toList = c at *
    clear hc
    go_enter Tryz.func59, Tryz.ntmps59
    go_wp2_with fail
    refine ((CC _).out).mono ?_
    rintro e w1 ⟨rfl, hb1⟩
    go_wp2
    go_ret
    exact ⟨rfl, hB0.trans (hb1.mono (by simp; omega))⟩

end Go.Proofs.YtldclpdmcopgnaaGreatDoor

