/- Lists of pairs that are equal; the form of the chapter. Table of package hazard; whether a pair is in a list. -/
import Derived.Test.YtahjdmdgkkienaaGreatDoorHE
import Derived.Test.YtahjdmdgkkienaaGreatDoorIw
import Derived.Laws.StructEq
import Derived.Laws.Tables
import Derived.Laws.Cover2
import Derived.KernelRfl
import Derived.Test.YtahjdmdgkkienaaGreatDoorHC
namespace Hz
/-- The form of the chapter. -/
def two : List (Nat × Nat) := [(3, 3), (5, 4)]
theorem two_ok : Ok 3 two := by
  intro p hp
  have : p = (3, 3) ∨ p = (5, 4) := by simpa [two] using hp
  have s3 : ∀ i, Nat.testBit 3 i = true → Nat.testBit 3 i = true := fun _ h => h
  rcases this with rfl | rfl
  · exact ⟨by decide, fun i h => h⟩
  · refine ⟨by decide, fun i h => ?_⟩
    have hi := Ic.bit_lt (m := 3) (by decide) h
    have : ∀ i, i < 3 → Nat.testBit 4 i = true → Nat.testBit 5 i = true := by decide
    exact this i hi h
theorem two_w : W64 two := by
  intro p hp
  have : p = (3, 3) ∨ p = (5, 4) := by simpa [two] using hp
  rcases this with rfl | rfl <;> exact ⟨by decide, by decide⟩
theorem two_bad : bad 3 two = [(6, 7)] := by decide +kernel
theorem two_made : made 3 two = 216 := by decide +kernel
theorem two_l : Ic.primesL 3 216 0 = [(6, 6), (5, 4), (3, 3)] := by decide +kernel
theorem two_s : Ic.primesS 3 216 0 = [(3, 3), (5, 4), (6, 6)] := by
  unfold Ic.primesS; rw [two_l]; unfold Ic.sortL
  simp [List.mergeSort, Ic.ltOrd, List.MergeSort.Internal.splitInTwo]
theorem two_mend : mend 3 two = [(6, 6)] := by
  unfold mend; rw [two_made, two_bad, two_s]; decide +kernel
theorem two_b1 : betV 3 two 6 7 = (2, 0) := by decide +kernel
theorem two_b2 : betV 3 two 0 1 = (0, 0) := by decide +kernel
theorem two_b3 : betV 3 two 1 3 = (2, 0) := by decide +kernel
theorem two_b4 : betV 3 two 3 7 = (1, 0) := by decide +kernel
theorem two_g1 : logV 3 two 6 7 = (true, 0) := by decide +kernel
theorem two_g2 : logV 3 two 1 3 = (false, 0) := by decide +kernel
end Hz
namespace Go.Proofs.YtahjdmdgkkienaaGreatDoor
open Go.RowKit Go.Shelf

theorem eqP (a b c d : Int) (w : World) : (Op.equalIn 10000 56 (.agg #[.int .i64 a, .int .i64 b]) (.agg #[.int .i64 c, .int .i64 d])).run Tryz.prog w = .ok (a == c && b == d) w := by
  have u3 := Tryz.underlying3
  have a3 := Tryz.isAgg3
  have z3 := Tryz.sizeOf3
  rw [show (10000 : Nat) = 9999 + 1 from rfl, Op.equalIn]
  simp only [Sem.run_bind, run_underlying Tryz.underlying56, Result.andThen_ok]
  simp only [Std.Legacy.Range.forIn_eq_forIn_range', Std.Legacy.Range.size, Nat.sub_zero, Nat.add_sub_cancel, Nat.div_one, List.range'_succ, List.range'_zero, List.forIn_cons, List.forIn_nil]
  go_simp
  by_cases h1 : a = c <;> by_cases h2 : b = d <;> simp [h1, h2]

set_option maxHeartbeats 4000000 in
set_option maxRecDepth 100000 in
theorem sEqP_any (v u : Value) (l : List (Nat × Nat)) (w : World) (h1 : SeesP w v l) (h2 : SeesP w u l) :
    Calls Tryz.prog 19 #[v, u] w fun e w' => e = .returned (.bool true) ∧ Below w.heap.size w w' := by
  obtain ⟨a1, k1, rfl, b1, d1, c1⟩ := h1.opened
  obtain ⟨a2, k2, rfl, b2, d2, c2⟩ := h2.opened
  clear h1 h2
  go_enter Tryz.func19, Tryz.ntmps19
  go_wp2
  go_loopw [13] (fun s13 wr => ∃ i : Nat, i ≤ l.length ∧ s13 = .int .i64 i ∧ Hid (Below w.heap.size w wr)) (fun s13 _ => l.length - (intOf s13).toNat)
  case atStart => exact ⟨0, Nat.zero_le _, rfl, Lib.hid (Below.refl _ _)⟩
  case round =>
    obtain ⟨i, hi, rfl, HB⟩ := hrel
    by_cases hil : i < l.length
    · obtain ⟨g, rfl, hg, p1, p2⟩ := c1.at HB.out hil
      obtain ⟨f, rfl, hf, q1, q2⟩ := c2.at HB.out hil
      generalize (l.getD i (0, 0)) = x at *
      have hmix : Tryz.prog.follows .mixedOrders = true := by kernel_rfl
      have hq := eqP (x.1 : Int) (x.2 : Int) (x.1 : Int) (x.2 : Int)
      simp only [beq_self_eq_true, Bool.and_self] at hq
      go_wp2
      go_quiet (fail)
      go_wp2
      exact ⟨⟨i + 1, by omega, rfl, Lib.hid (HB.out.trans (below_drewN wr _))⟩, by simp [intOf]; omega⟩
    · obtain rfl : i = l.length := by omega
      go_wp2
      go_ret
      exact ⟨rfl, HB.out⟩

theorem two_sees (w : World) (T : TypeId) : SeesC (w.alloc (.cells #[.int .u64 3, .int .u64 3, .int .u64 5, .int .u64 4] T)) (.slice (some ⟨w.heap.size, 0, none⟩) 2 2) [(3, 3), (5, 4)] := by
  refine .inr ⟨w.heap.size, 2, rfl, by simp, by decide, by simp, fun i hi => ?_⟩
  rcases (show i = 0 ∨ i = 1 by simp at hi; omega) with rfl | rfl <;> simp

set_option maxHeartbeats 4000000 in
set_option maxRecDepth 100000 in
theorem hTwo_any (w : World) : Calls Tryz.prog 21 #[] w fun e w' => ∃ v, e = .returned v ∧ SeesO w' v Hz.two ∧ Below w.heap.size w w' := by
  go_enter Tryz.func21, Tryz.ntmps21
  go_wp2
  go_ret
  exact ⟨_, rfl, (two_sees w _).o, (Below.refl _ _).alloc (Nat.le_refl _) _⟩
end Go.Proofs.YtahjdmdgkkienaaGreatDoor

namespace Go.Proofs.YtahjdmdgkkienaaGreatDoor
open Go.RowKit Go.Shelf

set_option maxHeartbeats 4000000 in
set_option maxRecDepth 100000 in
theorem hTable_ok (n : Nat) (l : List (Nat × Nat)) (v : Value) (w : World) (hn : n ≤ 6) (hl : l.length ≤ 256) (ho : Hz.Ok n l) (hw : Hz.W64 l) (hs : SeesO w v l) (hst : St w) :
    Calls Tryz.prog 7 #[.int .i64 n, v] w fun e w' => e = .returned (.tuple #[.agg #[.int .i64 n, .int .u64 ((Hz.made n l : Nat) : Int)], .int .i64 0]) ∧ Below w.heap.size w w' := by
  have CK := fun W h => Lib.hid (hCheck_any n l v W hw h)
  rw [Hz.ok_chk hn hl ho] at CK
  have CT := fun W h h' => Lib.hid (hTab_ok n l v W hn ho h h')
  generalize Hz.made n l = b at *
  obtain ⟨P0, L0, z0⟩ := tab1_new w 0 0 29
  have hX : w.alloc (.cells #[.int .i64 0, .int .u64 0] 29) = w.alloc (.cells #[.int .i64 0, .int .u64 ((0 : Nat) : Int)] 29) := rfl
  have HL := Lib.hid L0
  have HSE := Lib.hid hs
  have HST := Lib.hid hst
  clear L0 P0 hst hs ho hw hX
  go_enter Tryz.func7, Tryz.ntmps7
  go_wp2_with fail
  refine ((CK _ (HSE.out.step HL.out)).out).mono ?_
  rintro e w1 ⟨rfl, hb⟩
  have HB1 := Lib.hid (below_nxt HL.out hb)
  have Z1 := tabI_box (x := 0) (y := 0) hb
  clear hb
  go_wp2_with fail
  refine ((CT _ (HSE.out.step HB1.out) (HST.out.next HB1.out)).out).mono ?_
  rintro e w2 ⟨rfl, hb⟩
  have HB2 := Lib.hid (below_nxt HB1.out hb)
  have Z2 := Z1.step hb
  obtain ⟨y0, y1, y2, y3, y4⟩ := id Z2
  obtain ⟨-, q1, q2, -, -⟩ := Z2.put n b
  clear hb Z1
  go_wp2
  exact bodyPost_ret (v := .tuple #[.agg #[.int .i64 n, .int .u64 b], .int .i64 0]) (by simp [results, Tryz.results7, go_sem, q1, q2]) rfl ⟨rfl, (HB2.out.setCell (p := ⟨w.heap.size, 0, none⟩) (Nat.le_refl _) _).setCell (p := ⟨w.heap.size, 1, none⟩) (Nat.le_refl _) _⟩

end Go.Proofs.YtahjdmdgkkienaaGreatDoor

