/- SameInts, SameLists and Same of the reference, where both are the same. -/
import Derived.Test.YtkjhockppkdakaaDF
import Derived.Test.YtkjhockppkdakaaDE
namespace Go.Proofs.Ytkjhockppkdakaa
open Go.RowKit Go.Shelf

set_option maxHeartbeats 2000000 in
set_option maxRecDepth 100000 in
theorem rSameI_any (v u : Value) (l : List Int) (w : World) (h1 : SeesI w v l) (h2 : SeesI w u l) :
    Calls Try.prog 19 #[v, u] w fun e w' => e = .returned (.bool true) ∧ Below w.heap.size w w' := by
  obtain ⟨a1, k1, rfl, b1, d1, c1⟩ := h1.opened
  obtain ⟨a2, k2, rfl, b2, d2, c2⟩ := h2.opened
  clear h1 h2
  go_enter Try.func19, Try.ntmps19
  go_wp2
  go_loopw [5] (fun s5 wr => ∃ i : Nat, i ≤ l.length ∧ s5 = .int .i64 i ∧ Hid (Below w.heap.size w wr)) (fun s5 _ => l.length - (intOf s5).toNat)
  case atStart => exact ⟨0, Nat.zero_le _, rfl, Lib.hid (Below.refl _ _)⟩
  case round =>
    obtain ⟨i, hi, rfl, HB⟩ := hrel
    by_cases hil : i < l.length
    · obtain ⟨g, o1, rfl, hg, p1⟩ := c1.at HB.out hil
      obtain ⟨f, o2, rfl, hf, q1⟩ := c2.at HB.out hil
      generalize (l.getD i 0) = x at *
      have hmix : Try.prog.follows .mixedOrders = true := by kernel_rfl
      go_wp2
      go_quiet (fail)
      go_wp2
      exact ⟨⟨i + 1, by omega, by first | rfl | go_num, Lib.hid (HB.out.trans (below_drewN wr _))⟩, by simp [intOf]; omega⟩
    · obtain rfl : i = l.length := by omega
      go_wp2
      go_ret
      exact ⟨rfl, HB.out⟩

set_option maxHeartbeats 2000000 in
set_option maxRecDepth 100000 in
theorem rSameL_any (v u : Value) (L : List (List Int)) (w : World) (h1 : SeesN w v L) (h2 : SeesN w u L) :
    Calls Try.prog 35 #[v, u] w fun e w' => e = .returned (.bool true) ∧ Below w.heap.size w w' := by
  have open1 : ∀ {v : Value}, SeesN w v L → ∃ ao cap, v = .slice ao L.length cap ∧ L.length ≤ cap ∧ cap ≤ 9223372036854775807 ∧ (0 < L.length → ∃ N, ao = some ⟨N, 0, none⟩ ∧ N < w.heap.size ∧ ∀ i, i < L.length → ∃ u, w.cell? ⟨N, i, none⟩ = some u ∧ SeesI w u (L.getD i [])) := by
    rintro v (⟨rfl, rfl⟩ | ⟨N, cap, rfl, h1, h2, h3, h4⟩)
    · exact ⟨none, 0, rfl, Nat.le_refl _, by omega, fun h => by simp at h⟩
    · exact ⟨_, cap, rfl, h1, h2, fun _ => ⟨N, rfl, h3, h4⟩⟩
  obtain ⟨a1, k1, rfl, b1, d1, c1⟩ := open1 h1
  obtain ⟨a2, k2, rfl, b2, d2, c2⟩ := open1 h2
  have C1 := Lib.hid c1
  have C2 := Lib.hid c2
  clear h1 h2 c1 c2 open1
  go_enter Try.func35, Try.ntmps35
  go_wp2
  go_loopw [5] (fun s5 wr => ∃ i : Nat, i ≤ L.length ∧ s5 = .int .i64 i ∧ Hid (Below w.heap.size w wr)) (fun s5 _ => L.length - (intOf s5).toNat)
  case atStart => exact ⟨0, Nat.zero_le _, rfl, Lib.hid (Below.refl _ _)⟩
  case round =>
    obtain ⟨i, hi, rfl, HB⟩ := hrel
    by_cases hil : i < L.length
    · obtain ⟨N1, rfl, hN1, e1⟩ := C1.out (by omega)
      obtain ⟨N2, rfl, hN2, e2⟩ := C2.out (by omega)
      obtain ⟨u1, m1, s1⟩ := e1 i hil
      obtain ⟨u2, m2, s2⟩ := e2 i hil
      have CS := Lib.hid (rSameI_any u1 u2 (L.getD i []) wr.drew (s1.step HB.out.drew) (s2.step HB.out.drew))
      have p1 : wr.drew.cell? ⟨N1, i, none⟩ = some u1 := (HB.out.cell (p := ⟨N1, i, none⟩) hN1).trans m1
      have p2 : wr.drew.cell? ⟨N2, i, none⟩ = some u2 := (HB.out.cell (p := ⟨N2, i, none⟩) hN2).trans m2
      have HM := Lib.hid (And.intro m1 m2)
      have HD := Lib.hid (HB.out.drew)
      obtain ⟨o1, k1', rfl, -, -, -⟩ := s1.opened
      obtain ⟨o2, k2', rfl, -, -, -⟩ := s2.opened
      generalize (L.getD i []).length = x at *
      clear e1 e2 s1 s2 m1 m2
      go_wp2
      go_region_held3 (fun W => W.cell? ⟨N1, i, none⟩ = some (.slice o1 x k1') ∧ W.cell? ⟨N2, i, none⟩ = some (.slice o2 x k2'))
        (first | (refine ⟨?_, ?_⟩ <;> with_reducible assumption) | (go_split_ands; refine ⟨?_, ?_⟩ <;> with_reducible assumption))
        (first
          | (go_at_call 19; (with_reducible refine (CS.out).mono ?_); rintro e w2 ⟨rfl, hb⟩; have HB2 := Lib.hid (below_nxt HD.out hb); have k3 := (HB2.out.cell (p := ⟨N1, i, none⟩) hN1).trans HM.out.1; have k4 := (HB2.out.cell (p := ⟨N2, i, none⟩) hN2).trans HM.out.2; clear hb))
      go_wp2
      exact ⟨⟨i + 1, by omega, by first | rfl | go_num, HB2⟩, by simp [intOf]; omega⟩
    · obtain rfl : i = L.length := by omega
      go_wp2
      go_ret
      exact ⟨rfl, HB.out⟩

set_option maxHeartbeats 2000000 in
set_option maxRecDepth 100000 in
theorem rSame_any (n : Int) (v u : Value) (E : List (Int × Int)) (w : World) (h1 : SeesE w v E) (h2 : SeesE w u E) :
    Calls Try.prog 24 #[.agg #[.int .i64 n, v], .agg #[.int .i64 n, u]] w fun e w' => e = .returned (.bool true) ∧ Below w.heap.size w w' := by
  obtain ⟨a1, k1, rfl, b1, d1, c1⟩ := h1
  obtain ⟨a2, k2, rfl, b2, d2, c2⟩ := h2
  obtain ⟨PA, LA, zA⟩ := gph_new w n (.slice a1 E.length k1) 24
  obtain ⟨P1, LB, zB⟩ := gph_new (w.alloc (.cells #[.int .i64 n, .slice a1 E.length k1] 24)) n (.slice a2 E.length k2) 24
  have P0 := PA.step LB
  rw [zA] at P1
  have LL := below_nxt LA LB
  generalize hX : (w.alloc (.cells #[.int .i64 n, .slice a1 E.length k1] 24)).alloc (.cells #[.int .i64 n, .slice a2 E.length k2] 24) = X at *
  have Q0 := Lib.hid P0
  have Q1 := Lib.hid P1
  obtain ⟨p0, p1, p2⟩ := id P0
  obtain ⟨q0, q1, q2⟩ := id P1
  have HL := Lib.hid LL
  clear P0 P1 PA LA LB zA zB LL
  go_enter Try.func24, Try.ntmps24
  go_wp2
  go_loopw [5] (fun s5 wr => ∃ i : Nat, i ≤ E.length ∧ s5 = .int .i64 i ∧ Hid (Below X.heap.size X wr)) (fun s5 _ => E.length - (intOf s5).toNat)
  case atStart => exact ⟨0, Nat.zero_le _, rfl, Lib.hid (Below.refl _ _)⟩
  case round =>
    obtain ⟨i, hi, rfl, HB⟩ := hrel
    have HBw := Lib.hid (below_nxt HL.out HB.out)
    obtain ⟨-, g1, g2⟩ := Q0.out.step HB.out
    obtain ⟨-, g3, g4⟩ := Q1.out.step HB.out
    clear p1 p2 q1 q2
    by_cases hil : i < E.length
    · obtain ⟨g, o1, rfl, hg, r1, r2⟩ := c1.at HBw.out hil
      obtain ⟨f, o2, rfl, hf, t1, t2⟩ := c2.at HBw.out hil
      generalize (E.getD i (0, 0)) = x at *
      have hmix : Try.prog.follows .mixedOrders = true := by kernel_rfl
      go_wp2
      go_quiet (fail)
      go_wp2
      exact ⟨⟨i + 1, by omega, by first | rfl | go_num, Lib.hid (HB.out.trans (below_drewN wr _))⟩, by simp [intOf]; omega⟩
    · obtain rfl : i = E.length := by omega
      go_wp2
      go_ret
      exact ⟨rfl, HBw.out⟩
end Go.Proofs.Ytkjhockppkdakaa
