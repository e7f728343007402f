/- Reverse of package digraph. -/
import Derived.Test.YtkjhockppkdakaaDn
namespace Go.Proofs.Ytkjhockppkdakaa
open Go.RowKit Go.Shelf

set_option maxHeartbeats 4000000 in
set_option maxRecDepth 100000 in
theorem dReverse_any (n : Int) (E : List (Int × Int)) (v : Value) (w : World) (hv : SeesE w v E) :
    Calls Try.prog 22 #[.agg #[.int .i64 n, v]] w fun e w' => ∃ u, e = .returned (.tuple #[.agg #[.int .i64 (if Dg.chk n E = 0 then n else 0), u], .int .i64 (Dg.chk n E)]) ∧ SeesE w' u (if Dg.chk n E = 0 then Dg.swp E else []) ∧ Below w.heap.size w w' := by
  have CK := fun W h => Lib.hid (dChk_any n v E W h)
  have CR := fun (h : E.length ≤ 4096) W h2 => Lib.hid (dRev_row n v E W h h2)
  have hmany : Dg.chk n E = 0 → E.length ≤ 4096 := fun h => by obtain ⟨m, es, _, _, _, h4, h5, _⟩ := Dg.chk_zero h; omega
  generalize hk : Dg.chk n E = k at *
  have HV := Lib.hid hv
  obtain ⟨ao, cap, rfl⟩ := hv.slice
  obtain ⟨P0, L0, z0⟩ := gph_new w n (.slice ao E.length cap) 24
  have R0 := gphW_new (w.alloc (.cells #[.int .i64 n, .slice ao E.length cap] 24)) 0 (.slice none 0 0) 24
  rw [z0] at R0
  have L1 := L0.alloc L0.size (.cells #[.int .i64 0, .slice none 0 0] 24)
  have P1 := P0.step ((Below.refl _ _).alloc (Nat.le_refl _) (.cells #[.int .i64 0, .slice none 0 0] 24))
  generalize hX : (w.alloc (.cells #[.int .i64 n, .slice ao E.length cap] 24)).alloc (.cells #[.int .i64 0, .slice none 0 0] 24) = X at *
  obtain ⟨p0, p1, p2⟩ := id P1
  have HL := Lib.hid L1
  clear hv L0 L1 z0 P0 hk
  by_cases hz : k = 0
  · have CR' := CR (hmany hz)
    subst hz
    simp only [if_true] at *
    clear CR hmany
    go_enter Try.func22, Try.ntmps22
    go_wp2_with fail
    refine ((CK _ (HV.out.step HL.out)).out).mono ?_
    rintro e w1 ⟨rfl, hb⟩
    have HB1 := Lib.hid (below_nxt HL.out hb)
    have P2 := P1.step hb
    have R1 := R0.step hb
    obtain ⟨p0', q1, q2⟩ := id P2
    clear hb p1 p2
    go_wp2_with fail
    refine ((CR' _ (HV.out.step HB1.out)).out).mono ?_
    rintro e w2 ⟨u, rfl, hs2, hb⟩
    have HB2 := Lib.hid (below_nxt HB1.out hb)
    have R2 := R1.step hb
    have HRL : Hid (w.heap.size + 1 < w1.heap.size) := Lib.hid R1.1
    obtain ⟨-, e0, e1, -, -⟩ := (R2.put0 n).put u
    have HE0 := Lib.hid (And.intro e0 e1)
    have HBE := Lib.hid ((HB2.out.setCell (p := ⟨w.heap.size + 1, 0, none⟩) (by simp) (.int .i64 n)).setCell (p := ⟨w.heap.size + 1, 1, none⟩) (by simp) u)
    have HRE := Lib.hid (ownsRow_setCell_below (ownsRow_setCell_below hs2 (a := ⟨w.heap.size + 1, 0, none⟩) (by simpa using HRL.out) (.int .i64 n)) (a := ⟨w.heap.size + 1, 1, none⟩) (by simpa using HRL.out) u)
    obtain ⟨-, r1, r2, r3, r4⟩ := R2
    have hform : ∃ ua uk uc, u = .slice ua uk uc := by
      obtain ⟨a1, a2, h, _⟩ := RowE.sees hs2
      exact ⟨_, _, _, h⟩
    obtain ⟨ua, uk, uc, rfl⟩ := hform
    clear hb hs2 e0 e1 q1 q2
    go_wp2
    obtain ⟨e0, e1⟩ := HE0.out
    exact bodyPost_ret (v := .tuple #[.agg #[.int .i64 n, .slice ua uk uc], .int .i64 0]) (by simp [results, Try.results22, go_sem, e0, e1]) rfl ⟨_, rfl, RowE.sees HRE.out, HBE.out⟩
  · have hne : (k != 0) = true := by simp [hz]
    simp only [if_neg hz]
    clear CR hmany
    go_enter Try.func22, Try.ntmps22
    go_wp2_with fail
    refine ((CK _ (HV.out.step HL.out)).out).mono ?_
    rintro e w1 ⟨rfl, hb⟩
    have HB1 := Lib.hid (below_nxt HL.out hb)
    have R1 := R0.step hb
    obtain ⟨-, e0, e1, -, -⟩ := (R1.put0 0).put (.slice none 0 0)
    have HE0 := Lib.hid (And.intro e0 e1)
    have HBE := Lib.hid ((HB1.out.setCell (p := ⟨w.heap.size + 1, 0, none⟩) (by simp) (.int .i64 0)).setCell (p := ⟨w.heap.size + 1, 1, none⟩) (by simp) (.slice none 0 0))
    obtain ⟨-, r1, r2, r3, r4⟩ := R1
    clear hb p1 p2 e0 e1
    go_wp2
    obtain ⟨e0, e1⟩ := HE0.out
    exact bodyPost_ret (v := .tuple #[.agg #[.int .i64 0, .slice none 0 0], .int .i64 k]) (by simp [results, Try.results22, go_sem, e0, e1]) rfl ⟨_, rfl, ⟨none, 0, rfl, Nat.le_refl _, by omega, fun h => by simp at h⟩, HBE.out⟩
end Go.Proofs.Ytkjhockppkdakaa
