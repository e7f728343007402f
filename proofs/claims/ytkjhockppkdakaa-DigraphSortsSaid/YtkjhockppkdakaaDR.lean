/- right of the laws; slices.Contains and slices.Index of integers; slices.Contains, slices.Index and slices.Equal of edges. -/
import Derived.Test.YtkjhockppkdakaaDQ
import Derived.Test.YtkjhockppkdakaaDJ
namespace Go.Proofs.Ytkjhockppkdakaa
open Go.RowKit Go.Shelf

set_option maxHeartbeats 2000000 in
set_option maxRecDepth 100000 in
theorem right_any (n : Int) (v : Value) (E : List (Int × Int)) (w : World) (hv : SeesE w v E) :
    Calls Try.prog 36 #[.agg #[.int .i64 n, v]] w fun e w' => e = .returned (.bool (Dg.rgt n E)) ∧ Below w.heap.size w w' := by
  have CK := fun W h => Lib.hid (rChk_any n v E W h)
  have HV := Lib.hid hv
  obtain ⟨ao, cap, rfl⟩ := hv.slice
  obtain ⟨P0, L0, z0⟩ := gph_new w n (.slice ao E.length cap) 24
  generalize hX : w.alloc (.cells #[.int .i64 n, .slice ao E.length cap] 24) = X at *
  obtain ⟨p0, p1, p2⟩ := id P0
  have HL := Lib.hid L0
  have hR : Dg.rgt n E = decide (n ≤ 12 ∧ E.length ≤ 30 ∧ Dg.chk n E = 0) := rfl
  clear hv L0 z0
  by_cases e1 : n ≤ 12
  · have d1 : decide (n ≤ 12) = true := by simp [e1]
    by_cases e2 : E.length ≤ 30
    · have d2 : decide ((E.length : Int) ≤ 30) = true := by simp; omega
      have HR : Hid (Dg.rgt n E = (Dg.chk n E == 0)) := Lib.hid (by rw [hR, Bool.eq_iff_iff]; simp [e1, e2])
      clear hR
      generalize Dg.rgt n E = r at *
      generalize Dg.chk n E = k at *
      go_enter Try.func36, Try.ntmps36
      go_wp2_with fail
      refine ((CK _ (HV.out.step HL.out)).out).mono ?_
      rintro e w1 ⟨rfl, hb⟩
      have HB1 := Lib.hid (below_nxt HL.out hb)
      clear hb
      go_wp2
      go_ret
      exact ⟨ret_bool (by rw [HR.out]), HB1.out⟩
    · have d2 : decide ((E.length : Int) ≤ 30) = false := by simp; omega
      have HR : Hid (Dg.rgt n E = false) := Lib.hid (by rw [hR]; simp [e2])
      clear hR
      go_enter Try.func36, Try.ntmps36
      go_wp2
      go_ret
      exact ⟨ret_bool (by rw [HR.out]), HL.out⟩
  · have d1 : decide (n ≤ 12) = false := by simp [e1]
    have HR : Hid (Dg.rgt n E = false) := Lib.hid (by rw [hR]; simp [e1])
    clear hR
    go_enter Try.func36, Try.ntmps36
    go_wp2
    go_ret
    exact ⟨ret_bool (by rw [HR.out]), HL.out⟩

theorem SeesI.pre {w : World} {ao : Option Addr} {cap i : Nat} {l : List Int} (h : SeesI w (.slice ao l.length cap) l) (hi : i ≤ l.length) : SeesI w (.slice ao i cap) (l.take i) := by
  rcases h with ⟨h1, rfl⟩ | ⟨b, off, cap', h1, h2, h3, h4, h5⟩
  · simp only [Value.slice.injEq] at h1
    obtain ⟨rfl, -, rfl⟩ := h1
    obtain rfl : i = 0 := by simpa using hi
    exact .inl ⟨rfl, rfl⟩
  · simp only [Value.slice.injEq] at h1
    obtain ⟨rfl, -, rfl⟩ := h1
    refine .inr ⟨b, off, cap, by rw [List.length_take, Nat.min_eq_left hi], by rw [List.length_take]; omega, h3, h4, fun j hj => ?_⟩
    rw [List.length_take] at hj
    rw [List.getD_eq_getElem?_getD, List.getElem?_take_of_lt (by omega), ← List.getD_eq_getElem?_getD]
    exact h5 j (by omega)
theorem sConI_any (v : Value) (l : List Int) (x : Int) (w : World) (hl : l.length ≤ 1048576) (h1 : SeesI w v l) : Calls Try.prog 37 #[v, .int .i64 x] w fun e w' => e = .returned (.bool (l.contains x)) ∧ w' = w := by
  obtain ⟨a1, c1, rfl, p1, q1, k1⟩ := h1.opened
  rcases Nat.eq_zero_or_pos l.length with h0 | hp
  · obtain rfl := List.eq_nil_of_length_eq_zero h0
    exact Try.slices_Contains_int_empty a1 c1 x w
  · obtain ⟨b1, o1, rfl, _, k1⟩ := k1 hp
    have h := Try.slices_Contains_int b1 o1 l.length c1 l x w (Nat.le_refl _) (by omega) (fun j hj => k1 j hj)
    rwa [List.take_length] at h
theorem sIdxI_any (v : Value) (l : List Int) (x : Int) (w : World) (hl : l.length ≤ 1048576) (h1 : SeesI w v l) : Calls Try.prog 39 #[v, .int .i64 x] w fun e w' => e = .returned (.int .i64 (Go.Lib.idxOf l x)) ∧ w' = w := by
  obtain ⟨a1, c1, rfl, p1, q1, k1⟩ := h1.opened
  rcases Nat.eq_zero_or_pos l.length with h0 | hp
  · obtain rfl := List.eq_nil_of_length_eq_zero h0
    exact Try.slices_Index_int_empty a1 c1 x w
  · obtain ⟨b1, o1, rfl, _, k1⟩ := k1 hp
    have h := Try.slices_Index_int b1 o1 l.length c1 l x w (Nat.le_refl _) (by omega) (fun j hj => k1 j hj)
    rwa [List.take_length] at h

set_option maxHeartbeats 4000000 in
set_option maxRecDepth 100000 in
theorem sIdxE_mem (v : Value) (E : List (Int × Int)) (x : Int × Int) (w : World) (h1 : SeesE w v E) (hx : x ∈ E) :
    Calls Try.prog 65 #[v, .agg #[.int .i64 x.1, .int .i64 x.2]] w fun e w' => ∃ r : Nat, e = .returned (.int .i64 r) ∧ Below w.heap.size w w' := by
  obtain ⟨a1, k1, rfl, b1, d1, c1⟩ := h1
  obtain ⟨PX, LX, z0⟩ := edg_new w x.1 x.2 60
  generalize hY : w.alloc (.cells #[.int .i64 x.1, .int .i64 x.2] 60) = Y at *
  have HLX := Lib.hid LX
  have HX := Lib.hid hx
  clear LX z0 hx
  go_enter Try.func65, Try.ntmps65
  go_wp2
  go_loopw [8] (fun s8 wr => ∃ i : Nat, i ≤ E.length ∧ s8 = .int .i64 i ∧ Hid (Below Y.heap.size Y wr) ∧ Hid (∀ j, j < i → E.getD j (0, 0) ≠ x)) (fun s8 _ => E.length - (intOf s8).toNat)
  case atStart => exact ⟨0, Nat.zero_le _, rfl, Lib.hid (Below.refl _ _), Lib.hid (fun j h => by omega)⟩
  case round =>
    obtain ⟨i, hi, rfl, HB, HA⟩ := hrel
    have HW := Lib.hid (HLX.out.trans (HB.out.mono HLX.out.size))
    obtain ⟨y0, y1, y2⟩ := PX.step HB.out
    by_cases hil : i < E.length
    · obtain ⟨g, off, rfl, hg, p1, p2⟩ := c1.at HW.out hil
      have HQ : Hid (E.getD i (0, 0) ≠ x → ∀ j, j < i + 1 → E.getD j (0, 0) ≠ x) := Lib.hid (fun h j hj => by
        by_cases e : j = i
        · rw [e]; exact h
        · exact HA.out j (by omega))
      clear HA
      generalize E.getD i (0, 0) = y at *
      have hmix : Try.prog.follows .mixedOrders = true := by kernel_rfl
      have hq := eqE x.1 x.2 y.1 y.2
      by_cases e : y = x
      · subst e
        simp only [beq_self_eq_true, Bool.and_self] at hq
        clear HQ
        go_wp2
        go_quiet (fail)
        go_wp2
        go_ret
        exact ⟨i, rfl, HW.out.trans (below_drewN wr _)⟩
      · have hf : (x.1 == y.1 && x.2 == y.2) = false := by
          rw [Bool.and_eq_false_iff, beq_eq_false_iff_ne, beq_eq_false_iff_ne]
          by_cases e1 : x.1 = y.1
          · right; intro e2; exact e (Prod.ext e1.symm e2.symm)
          · exact .inl e1
        rw [hf] at hq
        have HQ2 := Lib.hid (HQ.out e)
        clear HQ e hf
        go_wp2
        go_quiet (fail)
        go_wp2
        exact ⟨⟨i + 1, by omega, by first | rfl | go_num, Lib.hid (HB.out.trans (below_drewN wr _)), HQ2⟩, by simp [intOf]; omega⟩
    · obtain rfl : i = E.length := by omega
      obtain ⟨j, hj, e⟩ := Dg.mem_getD (0, 0) HX.out
      exact absurd e (HA.out j hj)

set_option maxHeartbeats 2000000 in
set_option maxRecDepth 100000 in
theorem sConE_mem (v : Value) (E : List (Int × Int)) (x : Int × Int) (w : World) (h1 : SeesE w v E) (hx : x ∈ E) :
    Calls Try.prog 38 #[v, .agg #[.int .i64 x.1, .int .i64 x.2]] w fun e w' => e = .returned (.bool true) ∧ Below w.heap.size w w' := by
  have CI := fun W h => Lib.hid (sIdxE_mem v E x W h hx)
  have HV := Lib.hid h1
  obtain ⟨PX, LX, z0⟩ := edg_new w x.1 x.2 60
  generalize hY : w.alloc (.cells #[.int .i64 x.1, .int .i64 x.2] 60) = Y at *
  obtain ⟨y0, y1, y2⟩ := id PX
  have HLX := Lib.hid LX
  clear LX z0 h1 hx
  go_enter Try.func38, Try.ntmps38
  go_wp2_with fail
  refine ((CI _ (HV.out.step HLX.out)).out).mono ?_
  rintro e w1 ⟨r, rfl, hb⟩
  have HB1 := Lib.hid (below_nxt HLX.out hb)
  have hr : (0 : Int) ≤ (r : Int) := by omega
  clear hb
  go_wp2
  go_ret
  exact ⟨rfl, HB1.out⟩

set_option maxHeartbeats 4000000 in
set_option maxRecDepth 100000 in
theorem sEqE_any (v u : Value) (E : List (Int × Int)) (w : World) (h1 : SeesE w v E) (h2 : SeesE w u E) :
    Calls Try.prog 40 #[v, u] w fun e w' => e = .returned (.bool true) ∧ Below w.heap.size w w' := by
  obtain ⟨a1, k1, rfl, b1, d1, c1⟩ := h1
  obtain ⟨a2, k2, rfl, b2, d2, c2⟩ := h2
  go_enter Try.func40, Try.ntmps40
  go_wp2
  go_loopw [13] (fun s13 wr => ∃ i : Nat, i ≤ E.length ∧ s13 = .int .i64 i ∧ Hid (Below w.heap.size w wr)) (fun s13 _ => E.length - (intOf s13).toNat)
  case atStart => exact ⟨0, Nat.zero_le _, rfl, Lib.hid (Below.refl _ _)⟩
  case round =>
    obtain ⟨i, hi, rfl, HB⟩ := hrel
    by_cases hil : i < E.length
    · obtain ⟨g, o1, rfl, hg, p1, p2⟩ := c1.at HB.out hil
      obtain ⟨f, o2, rfl, hf, q1, q2⟩ := c2.at HB.out hil
      generalize (E.getD i (0, 0)) = x at *
      have hmix : Try.prog.follows .mixedOrders = true := by kernel_rfl
      have hq := eqE x.1 x.2 x.1 x.2
      simp only [beq_self_eq_true, Bool.and_self] at hq
      go_wp2
      go_quiet (fail)
      go_wp2
      exact ⟨⟨i + 1, by omega, by first | rfl | go_num, Lib.hid (HB.out.trans (below_drewN wr _))⟩, by simp [intOf]; omega⟩
    · obtain rfl : i = E.length := by omega
      go_wp2
      go_ret
      exact ⟨rfl, HB.out⟩
end Go.Proofs.Ytkjhockppkdakaa
