/- Rename of package truth on wrong orders; Rename of the reference. -/
import Derived.Test.YtmmcakeedejbnaaDoorVg
import Derived.Test.YtmmcakeedejbnaaDoorUn
namespace Go.Proofs.YtmmcakeedejbnaaDoor
open Go.RowKit Go.Shelf

set_option maxRecDepth 100000 in
theorem tRename_bad (n : Int) (b : Nat) (os : List Int) (v : Value) (w : World) (hb : b < 2 ^ 64) (hs : SeesI w v os) (h1 : Tt.chk n b ≠ 0) :
    Calls Tryd.prog 37 #[.agg #[.int .i64 n, .int .u64 b], v] w fun e w' => e = .returned (.tuple #[.agg #[.int .i64 0, .int .u64 0], .int .i64 (Tt.chk n b)]) ∧ Below w.heap.size w w' := by
  obtain ⟨ao, cap, rfl, hc1, hc2, hC⟩ := hs
  have CC := fun W => Lib.hid (tCheck_any n b W hb)
  generalize Tt.chk n b = k at *
  have g4 : (k != 0) = true := by simpa using h1
  obtain ⟨X, hX⟩ : ∃ X, ((w.alloc (.cells #[.int .i64 n, .int .u64 b] 24)).alloc (.cells #[.slice ao os.length cap] 36)).alloc (.cells #[.int .i64 0, .int .u64 0] 24) = X := ⟨_, rfl⟩
  have LX : Below w.heap.size w X := by rw [← hX]; exact (((Below.refl _ w).alloc (Nat.le_refl _) _).alloc (by simp) _).alloc (by simp; omega) _
  have sX : X.heap.size = w.heap.size + 3 := by rw [← hX]; simp
  have P0 : TabI X w.heap.size n b := by rw [← hX]; exact (tabI_new w n b 24).below (by simp) (((Below.refl _ _).alloc (Nat.le_refl _) _).alloc (by simp) _)
  have O0 : X.cell? ⟨w.heap.size + 1, 0, none⟩ = some (.slice ao os.length cap) := by
    rw [← hX]
    have h := ((Below.refl ((w.alloc (.cells #[.int .i64 n, .int .u64 b] 24)).alloc (.cells #[.slice ao os.length cap] 36)).heap.size ((w.alloc (.cells #[.int .i64 n, .int .u64 b] 24)).alloc (.cells #[.slice ao os.length cap] 36))).alloc (Nat.le_refl _) (.cells #[.int .i64 0, .int .u64 0] 24)).cell (p := ⟨w.heap.size + 1, 0, none⟩) (by simp)
    refine h.trans ?_
    have h2 := World.alloc_heap_new (w.alloc (.cells #[.int .i64 n, .int .u64 b] 24)) (.cells #[.slice ao os.length cap] 36)
    rw [World.size_alloc] at h2
    exact Boxed.cell (t := 36) h2
  have P1 : TabI X (w.heap.size + 2) 0 0 := by
    rw [← hX]
    have := tabI_new ((w.alloc (.cells #[.int .i64 n, .int .u64 b] 24)).alloc (.cells #[.slice ao os.length cap] 36)) 0 0 24
    rw [World.size_alloc, World.size_alloc] at this
    exact this
  obtain ⟨p0, p1, p2, p3, p4⟩ := id P0
  obtain ⟨q0, q1, q2, q3, q4⟩ := id P1
  clear h1 hb hC
  go_enter Tryd.func37, Tryd.ntmps37
  go_wp2_with fail
  refine ((CC _).out).mono ?_
  rintro e w1 ⟨rfl, hw1⟩
  have zw1 := hw1.size
  have P0w1 := P0.below (by omega) hw1
  obtain ⟨a0w1, b0w1, c0w1, d0w1, e0w1⟩ := id P0w1
  have P1w1 := P1.below (by omega) hw1
  obtain ⟨a1w1, b1w1, c1w1, d1w1, e1w1⟩ := id P1w1
  have Ow1 := (hw1.cell (p := ⟨w.heap.size + 1, 0, none⟩) (by show w.heap.size + 1 < _; omega)).trans O0
  have Lw1 := LX.trans (hw1.mono (by omega))
  clear hw1
  go_wp2
  exact bodyPost_ret (v := .tuple #[.agg #[.int .i64 0, .int .u64 0], .int .i64 k]) (by simp [results, Tryd.results37, go_sem, b1w1, c1w1]) rfl ⟨rfl, by (repeat' (first | exact Lw1 | refine Below.alloc ?_ (by simp; omega) _ | refine Below.setCell ?_ (by first | exact Nat.le_refl _ | (dsimp only; omega) | (simp; omega)) _ | refine Below.drew ?_))⟩

set_option maxRecDepth 100000 in
theorem tRename_wrong (n b : Nat) (os : List Int) (v : Value) (w : World) (hn : n ≤ 6) (hb : b < 2 ^ 2 ^ n) (hs : SeesI w v os) (h1 : Tt.ordE n os ≠ 0) :
    Calls Tryd.prog 37 #[.agg #[.int .i64 n, .int .u64 b], v] w fun e w' => e = .returned (.tuple #[.agg #[.int .i64 0, .int .u64 0], .int .i64 (Tt.ordE n os)]) ∧ Below w.heap.size w w' := by
  have CC := fun W => Lib.hid (tCheck_any n b W (Tt.w64 hn hb))
  rw [Tt.chk_ok hn hb] at CC
  have CO := fun W (h : Below w.heap.size w W) => Lib.hid (tOrd_any n os v W hn (hs.below h (Nat.le_refl _)))
  obtain ⟨ao, cap, rfl, hc1, hc2, hC⟩ := hs
  generalize Tt.ordE n os = k at *
  have g4 : (k != 0) = true := by simpa using h1
  obtain ⟨X, hX⟩ : ∃ X, ((w.alloc (.cells #[.int .i64 n, .int .u64 b] 24)).alloc (.cells #[.slice ao os.length cap] 36)).alloc (.cells #[.int .i64 0, .int .u64 0] 24) = X := ⟨_, rfl⟩
  have LX : Below w.heap.size w X := by rw [← hX]; exact (((Below.refl _ w).alloc (Nat.le_refl _) _).alloc (by simp) _).alloc (by simp; omega) _
  have sX : X.heap.size = w.heap.size + 3 := by rw [← hX]; simp
  have P0 : TabI X w.heap.size n b := by rw [← hX]; exact (tabI_new w n b 24).below (by simp) (((Below.refl _ _).alloc (Nat.le_refl _) _).alloc (by simp) _)
  have O0 : X.cell? ⟨w.heap.size + 1, 0, none⟩ = some (.slice ao os.length cap) := by
    rw [← hX]
    have h := ((Below.refl ((w.alloc (.cells #[.int .i64 n, .int .u64 b] 24)).alloc (.cells #[.slice ao os.length cap] 36)).heap.size ((w.alloc (.cells #[.int .i64 n, .int .u64 b] 24)).alloc (.cells #[.slice ao os.length cap] 36))).alloc (Nat.le_refl _) (.cells #[.int .i64 0, .int .u64 0] 24)).cell (p := ⟨w.heap.size + 1, 0, none⟩) (by simp)
    refine h.trans ?_
    have h2 := World.alloc_heap_new (w.alloc (.cells #[.int .i64 n, .int .u64 b] 24)) (.cells #[.slice ao os.length cap] 36)
    rw [World.size_alloc] at h2
    exact Boxed.cell (t := 36) h2
  have P1 : TabI X (w.heap.size + 2) 0 0 := by
    rw [← hX]
    have := tabI_new ((w.alloc (.cells #[.int .i64 n, .int .u64 b] 24)).alloc (.cells #[.slice ao os.length cap] 36)) 0 0 24
    rw [World.size_alloc, World.size_alloc] at this
    exact this
  obtain ⟨p0, p1, p2, p3, p4⟩ := id P0
  obtain ⟨q0, q1, q2, q3, q4⟩ := id P1
  clear h1 hb hC
  go_enter Tryd.func37, Tryd.ntmps37
  go_wp2_with fail
  refine ((CC _).out).mono ?_
  rintro e w1 ⟨rfl, hw1⟩
  have zw1 := hw1.size
  have P0w1 := P0.below (by omega) hw1
  obtain ⟨a0w1, b0w1, c0w1, d0w1, e0w1⟩ := id P0w1
  have P1w1 := P1.below (by omega) hw1
  obtain ⟨a1w1, b1w1, c1w1, d1w1, e1w1⟩ := id P1w1
  have Ow1 := (hw1.cell (p := ⟨w.heap.size + 1, 0, none⟩) (by show w.heap.size + 1 < _; omega)).trans O0
  have Lw1 := LX.trans (hw1.mono (by omega))
  clear hw1
  go_wp2_with fail
  refine ((CO _ Lw1).out).mono ?_
  rintro e w2 ⟨rfl, hw2⟩
  have zw2 := hw2.size
  have P0w2 := P0w1.below (by omega) hw2
  obtain ⟨a0w2, b0w2, c0w2, d0w2, e0w2⟩ := id P0w2
  have P1w2 := P1w1.below (by omega) hw2
  obtain ⟨a1w2, b1w2, c1w2, d1w2, e1w2⟩ := id P1w2
  have Ow2 := (hw2.cell (p := ⟨w.heap.size + 1, 0, none⟩) (by show w.heap.size + 1 < _; omega)).trans Ow1
  have Lw2 := Lw1.trans (hw2.mono (by omega))
  clear hw2
  go_wp2
  exact bodyPost_ret (v := .tuple #[.agg #[.int .i64 0, .int .u64 0], .int .i64 k]) (by simp [results, Tryd.results37, go_sem, b1w2, c1w2]) rfl ⟨rfl, by (repeat' (first | exact Lw2 | refine Below.alloc ?_ (by simp; omega) _ | refine Below.setCell ?_ (by first | exact Nat.le_refl _ | (dsimp only; omega) | (simp; omega)) _ | refine Below.drew ?_))⟩


set_option maxRecDepth 100000 in
theorem rRename_bad (n : Int) (b : Nat) (os : List Int) (v : Value) (w : World) (hb : b < 2 ^ 64) (hs : SeesI w v os) (h1 : Tt.chk n b ≠ 0) :
    Calls Tryd.prog 38 #[.agg #[.int .i64 n, .int .u64 b], v] w fun e w' => e = .returned (.tuple #[.agg #[.int .i64 0, .int .u64 0], .int .i64 (Tt.chk n b)]) ∧ Below w.heap.size w w' := by
  obtain ⟨ao, cap, rfl, hc1, hc2, hC⟩ := hs
  have CC := fun W => Lib.hid (rCheck_any n b W hb)
  generalize Tt.chk n b = k at *
  have g4 : (k != 0) = true := by simpa using h1
  obtain ⟨P0, P1, LX, z0⟩ := tab2_new w n b 0 0 24
  generalize hX : (w.alloc (.cells #[.int .i64 n, .int .u64 b] 24)).alloc (.cells #[.int .i64 0, .int .u64 ((0 : Nat) : Int)] 24) = X at *
  change (w.alloc (.cells #[.int .i64 n, .int .u64 b] 24)).alloc (.cells #[.int .i64 0, .int .u64 0] 24) = X at hX
  obtain ⟨p0, p1, p2, p3, p4⟩ := id P0
  obtain ⟨q0, q1, q2, q3, q4⟩ := id P1
  clear h1 hb hC
  go_enter Tryd.func38, Tryd.ntmps38
  go_wp2_with fail
  refine ((CC _).out).mono ?_
  rintro e w1 ⟨rfl, hw1⟩
  have zw1 := hw1.size
  have P0w1 := P0.below (by omega) hw1
  obtain ⟨a0w1, b0w1, c0w1, d0w1, e0w1⟩ := id P0w1
  have P1w1 := P1.below (by omega) hw1
  obtain ⟨a1w1, b1w1, c1w1, d1w1, e1w1⟩ := id P1w1
  have Lw1 := LX.trans (hw1.mono (by omega))
  clear hw1
  go_wp2
  exact bodyPost_ret (v := .tuple #[.agg #[.int .i64 0, .int .u64 0], .int .i64 k]) (by simp [results, Tryd.results38, go_sem, b1w1, c1w1]) rfl ⟨rfl, by (repeat' (first | exact Lw1 | refine Below.alloc ?_ (by simp; omega) _ | refine Below.setCell ?_ (by first | exact Nat.le_refl _ | (dsimp only; omega) | (simp; omega)) _ | refine Below.drew ?_))⟩

set_option maxRecDepth 100000 in
theorem rRename_len (n b : Nat) (os : List Int) (v : Value) (w : World) (hn : n ≤ 6) (hb : b < 2 ^ 2 ^ n) (hs : SeesI w v os) (h1 : ¬ (os.length : Int) = (n : Int)) :
    Calls Tryd.prog 38 #[.agg #[.int .i64 n, .int .u64 b], v] w fun e w' => e = .returned (.tuple #[.agg #[.int .i64 0, .int .u64 0], .int .i64 8]) ∧ Below w.heap.size w w' := by
  obtain ⟨ao, cap, rfl, hc1, hc2, hC⟩ := hs
  have CC := fun W => Lib.hid (rCheck_any n b W (Tt.w64 hn hb))
  rw [Tt.chk_ok hn hb] at CC
  have hl2 : ((os.length : Int) != (n : Int)) = true := by simpa using h1
  have hl3 : ¬ os.length = n := by omega
  obtain ⟨P0, P1, LX, z0⟩ := tab2_new w n b 0 0 24
  generalize hX : (w.alloc (.cells #[.int .i64 n, .int .u64 b] 24)).alloc (.cells #[.int .i64 0, .int .u64 ((0 : Nat) : Int)] 24) = X at *
  change (w.alloc (.cells #[.int .i64 n, .int .u64 b] 24)).alloc (.cells #[.int .i64 0, .int .u64 0] 24) = X at hX
  obtain ⟨p0, p1, p2, p3, p4⟩ := id P0
  obtain ⟨q0, q1, q2, q3, q4⟩ := id P1
  clear h1 hb hC
  go_enter Tryd.func38, Tryd.ntmps38
  go_wp2_with fail
  refine ((CC _).out).mono ?_
  rintro e w1 ⟨rfl, hw1⟩
  have zw1 := hw1.size
  have P0w1 := P0.below (by omega) hw1
  obtain ⟨a0w1, b0w1, c0w1, d0w1, e0w1⟩ := id P0w1
  have P1w1 := P1.below (by omega) hw1
  obtain ⟨a1w1, b1w1, c1w1, d1w1, e1w1⟩ := id P1w1
  have Lw1 := LX.trans (hw1.mono (by omega))
  clear hw1
  go_wp2
  exact bodyPost_ret (v := .tuple #[.agg #[.int .i64 0, .int .u64 0], .int .i64 8]) (by simp [results, Tryd.results38, go_sem, b1w1, c1w1]) rfl ⟨rfl, by (repeat' (first | exact Lw1 | refine Below.alloc ?_ (by simp; omega) _ | refine Below.setCell ?_ (by first | exact Nat.le_refl _ | (dsimp only; omega) | (simp; omega)) _ | refine Below.drew ?_))⟩


set_option maxRecDepth 100000 in
set_option maxHeartbeats 2000000 in
theorem rRename_wrong (n b : Nat) (os : List Int) (v : Value) (w : World) (hn : n ≤ 6) (hb : b < 2 ^ 2 ^ n) (hs : SeesI w v os) (hl : (os.length : Int) = (n : Int)) (h1 : Tt.ordFrom n [] os ≠ 0) :
    Calls Tryd.prog 38 #[.agg #[.int .i64 n, .int .u64 b], v] w fun e w' => e = .returned (.tuple #[.agg #[.int .i64 0, .int .u64 0], .int .i64 (Tt.ordFrom n [] os)]) ∧ Below w.heap.size w w' := by
  obtain ⟨ao, cap, rfl, hc1, hc2, hC⟩ := hs
  have CC := fun W => Lib.hid (rCheck_any n b W (Tt.w64 hn hb))
  rw [Tt.chk_ok hn hb] at CC
  have hln : os.length = n := by omega
  have HL := Lib.hid hln
  rw [hln] at hc1 hC ⊢
  have HC := Lib.hid hC
  have HR := Lib.hid (show Tt.ordFrom n (os.take 0) (os.drop 0) = Tt.ordFrom n [] os by simp)
  generalize Tt.ordFrom n [] os = r at *
  have hr0 := Lib.hid h1
  obtain ⟨P0, P1, LX, z0⟩ := tab2_new w n b 0 0 24
  generalize hX : (w.alloc (.cells #[.int .i64 n, .int .u64 b] 24)).alloc (.cells #[.int .i64 0, .int .u64 ((0 : Nat) : Int)] 24) = X at *
  change (w.alloc (.cells #[.int .i64 n, .int .u64 b] 24)).alloc (.cells #[.int .i64 0, .int .u64 0] 24) = X at hX
  obtain ⟨p0, p1, p2, p3, p4⟩ := id P0
  obtain ⟨q0, q1, q2, q3, q4⟩ := id P1
  clear h1 hb hC hl hln
  go_enter Tryd.func38, Tryd.ntmps38
  go_wp2_with fail
  refine ((CC _).out).mono ?_
  rintro e w1 ⟨rfl, hw1⟩
  have zw1 := hw1.size
  have P0w1 := P0.below (by omega) hw1
  obtain ⟨a0w1, b0w1, c0w1, d0w1, e0w1⟩ := id P0w1
  have P1w1 := P1.below (by omega) hw1
  obtain ⟨a1w1, b1w1, c1w1, d1w1, e1w1⟩ := id P1w1
  have Lw1 := LX.trans (hw1.mono (by omega))
  clear hw1
  go_wp2
  go_loopw [7] (fun s7 wr => ∃ i : Nat, i ≤ n ∧ s7 = .int .i64 i ∧ TabI wr w.heap.size n b ∧ TabI wr (w.heap.size + 1) 0 0 ∧ Hid (Tt.ordFrom n (os.take i) (os.drop i) = r) ∧ Hid (Below w.heap.size w wr)) (fun s7 _ => n - (intOf s7).toNat)
  case atStart => exact ⟨0, Nat.zero_le _, rfl, P0w1, P1w1, HR, Lib.hid Lw1⟩
  case round =>
    clear P0w1 P1w1 Lw1 HR
    obtain ⟨i, hi, rfl, T0, T1, HO, HW⟩ := hrel
    obtain ⟨p0, p1, p2, p3, p4⟩ := id T0
    obtain ⟨q0, q1, q2, q3, q4⟩ := id T1
    by_cases hin : i < n
    · obtain ⟨bo, off, rfl, hb1, hb2⟩ := HC.out (by omega)
      have HCE := Lib.hid (fun j (hj : j < n) W (h : Below w.heap.size w W) => (h.cell (p := ⟨bo, off + j, none⟩) hb1).trans (hb2 j hj))
      have c0 := HCE.out i hin wr HW.out
      have HT := Lib.hid (take_next (l := os) (j := i) (by rw [HL.out]; exact hin))
      have HD := Lib.hid (drop_next (l := os) (j := i) (by rw [HL.out]; exact hin))
      clear hb2
      obtain ⟨x, hx⟩ : ∃ x, os.getD i 0 = x := ⟨_, rfl⟩
      rw [hx] at c0 HT HD
      have HX := Lib.hid hx
      clear hx
      have i0 : (0 : Int) ≤ (i : Int) := by omega
      have i1 : (i : Int) < (n : Int) := by omega
      by_cases h1 : 0 ≤ x ∧ x < n
      · obtain ⟨h2, h3⟩ := h1
        have d1 : decide (x < 0) = false := by simpa using h2
        have d2 : decide ((n : Int) ≤ x) = false := by simpa using h3
        go_wp2
        go_region_held3 (fun W => W.cell? ⟨bo, off + i, none⟩ = some (.int .i64 x) ∧ W.cell? ⟨w.heap.size, 0, none⟩ = some (.int .i64 n))
          (first | (go_split_ands; refine ⟨?_, ?_⟩ <;> assumption) | go_keep)
          (first | fail)
        have T0' := T0.drew
        have T1' := T1.drew
        have HW' := Lib.hid HW.out.drew
        clear T0 T1 HW c0 p1 p2 p3 p4 q1 q2 q3 q4
        obtain ⟨wd, hwd⟩ : ∃ wd, wr.drew = wd := ⟨_, rfl⟩
        rw [hwd] at T0' T1' HW' ⊢
        clear hwd p0 q0
        obtain ⟨p0, p1, p2, p3, p4⟩ := id T0'
        go_wp2
        go_loopw [8] (fun s8 wr => ∃ k : Nat, k ≤ i ∧ s8 = .int .i64 k ∧ TabI wr w.heap.size n b ∧ TabI wr (w.heap.size + 1) 0 0 ∧ Hid (∀ j, j < k → os.getD j 0 ≠ x) ∧ Hid (Below w.heap.size w wr)) (fun s8 _ => i - (intOf s8).toNat)
        case atStart => exact ⟨0, Nat.zero_le _, rfl, T0', T1', Lib.hid (fun j hj => by omega), HW'⟩
        case round =>
          clear T0' T1' HW' p0 p1 p2 p3 p4
          obtain ⟨k, hk, rfl, U0, U1, HN, HV⟩ := hrel
          obtain ⟨p0, p1, p2, p3, p4⟩ := id U0
          obtain ⟨q0, q1, q2, q3, q4⟩ := id U1
          by_cases hki : k < i
          · have c1 := HCE.out k (by omega) _ HV.out
            have c2 := HCE.out i hin _ HV.out
            rw [HX.out] at c2
            obtain ⟨y, hy⟩ : ∃ y, os.getD k 0 = y := ⟨_, rfl⟩
            rw [hy] at c1
            have HY := Lib.hid hy
            clear hy
            have k0 : (0 : Int) ≤ (k : Int) := by omega
            have k1 : (k : Int) < (n : Int) := by omega
            by_cases hyx : y = x
            · have hr : r = 7 := by
                rw [← HO.out, HD.out]
                unfold Tt.ordFrom
                rw [if_pos ⟨h2, h3⟩, if_pos]
                rw [← hyx, ← HY.out, List.getD_eq_getElem?_getD, List.getElem?_eq_getElem (by rw [HL.out]; omega)]
                exact List.mem_take_iff_getElem.2 ⟨k, by rw [HL.out]; omega, rfl⟩
              have HV := Lib.hid HV.out
              subst hyx
              go_wp2
              go_region_held3 (fun W => W.cell? ⟨bo, off + k, none⟩ = some (.int .i64 y) ∧ W.cell? ⟨bo, off + i, none⟩ = some (.int .i64 y))
                (first | (go_split_ands; refine ⟨?_, ?_⟩ <;> assumption) | go_keep)
                (first | fail)
              subst hr
              go_wp2
              exact bodyPost_ret (v := .tuple #[.agg #[.int .i64 0, .int .u64 0], .int .i64 7]) (by simp [results, Tryd.results38, go_sem, q1, q2]) rfl ⟨rfl, by (repeat' (first | exact HV.out | refine Below.alloc ?_ (by simp; omega) _ | refine Below.setCell ?_ (by first | exact Nat.le_refl _ | (dsimp only; omega) | (simp; omega)) _ | refine Below.drew ?_))⟩
            · have hyx2 : (y == x) = false := by simpa using hyx
              have HN' := Lib.hid (fun j (hj : j < k + 1) => show os.getD j 0 ≠ x by
                by_cases h : j = k
                · rw [h, HY.out]; exact hyx
                · exact HN.out j (by omega))
              have U0' := U0.drew
              have U1' := U1.drew
              have HV' := Lib.hid HV.out.drew
              clear hyx
              go_wp2
              go_region_held3 (fun W => W.cell? ⟨bo, off + k, none⟩ = some (.int .i64 y) ∧ W.cell? ⟨bo, off + i, none⟩ = some (.int .i64 x))
                (first | (go_split_ands; refine ⟨?_, ?_⟩ <;> assumption) | go_keep)
                (first | fail)
              go_wp2
              go_roundw
              case rel => exact ⟨k + 1, by omega, by go_num, U0', U1', HN', HV'⟩
              case measure => simp [intOf]; omega
          · obtain rfl : k = i := by omega
            have HO' : Hid (Tt.ordFrom n (os.take (k + 1)) (os.drop (k + 1)) = r) := Lib.hid (by
              rw [← HO.out, HD.out, HT.out]
              conv => rhs; unfold Tt.ordFrom
              rw [if_pos ⟨h2, h3⟩, if_neg]
              intro hm
              obtain ⟨j, hj, he⟩ := List.mem_take_iff_getElem.1 hm
              have := HN.out j (by omega)
              rw [List.getD_eq_getElem?_getD, List.getElem?_eq_getElem (by omega)] at this
              exact this he)
            go_wp2
            go_roundw
            case rel => exact ⟨k + 1, by omega, by go_num, U0, U1, HO', HV⟩
            case measure => simp [intOf]; omega
      · have hr : r = 2 := by
          rw [← HO.out, HD.out]
          unfold Tt.ordFrom
          rw [if_neg h1]
        have HV := Lib.hid HW.out
        by_cases h2 : x < 0
        · clear h1
          go_wp2
          go_quiet (fail)
          subst hr
          go_wp2
          exact bodyPost_ret (v := .tuple #[.agg #[.int .i64 0, .int .u64 0], .int .i64 2]) (by simp [results, Tryd.results38, go_sem, q1, q2]) rfl ⟨rfl, by (repeat' (first | exact HV.out.trans (below_drewN _ _) | refine Below.alloc ?_ (by simp; omega) _ | refine Below.setCell ?_ (by first | exact Nat.le_refl _ | (dsimp only; omega) | (simp; omega)) _ | refine Below.drew ?_))⟩
        · have h3 : 0 ≤ x := by omega
          have h4 : n ≤ x := by omega
          have d1 : decide (x < 0) = false := by simpa using h3
          clear h1 h2
          go_wp2
          go_quiet (fail)
          subst hr
          go_wp2
          exact bodyPost_ret (v := .tuple #[.agg #[.int .i64 0, .int .u64 0], .int .i64 2]) (by simp [results, Tryd.results38, go_sem, q1, q2]) rfl ⟨rfl, by (repeat' (first | exact HV.out.trans (below_drewN _ _) | refine Below.alloc ?_ (by simp; omega) _ | refine Below.setCell ?_ (by first | exact Nat.le_refl _ | (dsimp only; omega) | (simp; omega)) _ | refine Below.drew ?_))⟩
    · obtain rfl : i = n := by omega
      exact absurd (show r = 0 by rw [← HO.out, List.drop_of_length_le (by rw [HL.out]; exact Nat.le_refl _)]; rfl) hr0.out

set_option maxRecDepth 100000 in
set_option maxHeartbeats 4000000 in
theorem rRename_ok (n b : Nat) (os : List Int) (v : Value) (w : World) (hn : n ≤ 6) (hb : b < 2 ^ 2 ^ n) (hs : SeesI w v os) (hO : Tt.ordE n os = 0) :
    Calls Tryd.prog 38 #[.agg #[.int .i64 n, .int .u64 b], v] w fun e w' => e = .returned (.tuple #[.agg #[.int .i64 n, .int .u64 ((Tt.mk n (fun x => b.testBit (Tt.refY (os.map Int.toNat) x n)) : Nat) : Int)], .int .i64 0]) ∧ Below w.heap.size w w' := by
  have hb64 := Tt.w64 hn hb
  obtain ⟨hP, hos⟩ := Tt.ord_of hO
  have hl : (os.length : Int) = (n : Int) := by have := hP.len; simp at this; omega
  obtain ⟨ao, cap, rfl, hc1, hc2, hC⟩ := hs
  have CC := fun W => Lib.hid (rCheck_any n b W (Tt.w64 hn hb))
  rw [Tt.chk_ok hn hb] at CC
  have hln : os.length = n := by omega
  have HL := Lib.hid hln
  rw [hln] at hc1 hC ⊢
  have HC := Lib.hid hC
  have HR := Lib.hid (show Tt.ordFrom n (os.take 0) (os.drop 0) = Tt.ordFrom n [] os by simp)
  have hr0 : Hid (Tt.ordFrom n [] os = 0) := Lib.hid (by unfold Tt.ordE at hO; rw [if_pos hl] at hO; exact hO)
  rw [hr0.out] at HR
  have HOS := Lib.hid hos
  have HP := Lib.hid hP
  generalize os.map Int.toNat = ps at *
  have hN := Tt.size_le hn
  have CS := fun W => Lib.hid (rSize_any n W (by omega) (by omega))
  rw [Int.toNat_natCast] at CS
  have CM := fun u W (h : Sees .i64 W u (Tt.pts (fun x => b.testBit (Tt.refY ps x n)) (2 ^ n))) => Lib.hid (rMade_any n u (Tt.pts (fun x => b.testBit (Tt.refY ps x n)) (2 ^ n)) W hn h (Nat.le_trans (Tt.pts_len _ _) hN))
  rw [mk_pts] at CM
  generalize Tt.mk n (fun x => b.testBit (Tt.refY ps x n)) = rr at *
  have HNN := Lib.hid (show ∀ x, Tt.refY ps x n < 2 ^ n from fun x => Tt.refY_lt ps x n)
  generalize hNN : 2 ^ n = N at *
  clear hNN
  obtain ⟨ifo, hifo, hz0, hz1, hz2⟩ := info_parts Tryd.infoI64
  obtain ⟨P0, P1, LX, z0⟩ := tab2_new w n b 0 0 24
  generalize hX : (w.alloc (.cells #[.int .i64 n, .int .u64 b] 24)).alloc (.cells #[.int .i64 0, .int .u64 ((0 : Nat) : Int)] 24) = X at *
  change (w.alloc (.cells #[.int .i64 n, .int .u64 b] 24)).alloc (.cells #[.int .i64 0, .int .u64 0] 24) = X at hX
  obtain ⟨p0, p1, p2, p3, p4⟩ := id P0
  obtain ⟨q0, q1, q2, q3, q4⟩ := id P1
  clear hb hC hl hln hos hP hO
  go_enter Tryd.func38, Tryd.ntmps38
  go_wp2_with fail
  refine ((CC _).out).mono ?_
  rintro e w1 ⟨rfl, hw1⟩
  have zw1 := hw1.size
  have P0w1 := P0.below (by omega) hw1
  obtain ⟨a0w1, b0w1, c0w1, d0w1, e0w1⟩ := id P0w1
  have P1w1 := P1.below (by omega) hw1
  obtain ⟨a1w1, b1w1, c1w1, d1w1, e1w1⟩ := id P1w1
  have Lw1 := LX.trans (hw1.mono (by omega))
  clear hw1
  go_wp2
  go_loopw [7] (fun s7 wr => ∃ i : Nat, i ≤ n ∧ s7 = .int .i64 i ∧ TabI wr w.heap.size n b ∧ TabI wr (w.heap.size + 1) 0 0 ∧ Hid (Tt.ordFrom n (os.take i) (os.drop i) = 0) ∧ Hid (Below w.heap.size w wr)) (fun s7 _ => n - (intOf s7).toNat)
  case atStart => exact ⟨0, Nat.zero_le _, rfl, P0w1, P1w1, HR, Lib.hid Lw1⟩
  case round =>
    clear P0w1 P1w1 Lw1 HR
    obtain ⟨i, hi, rfl, T0, T1, HO, HW⟩ := hrel
    obtain ⟨p0, p1, p2, p3, p4⟩ := id T0
    obtain ⟨q0, q1, q2, q3, q4⟩ := id T1
    by_cases hin : i < n
    · obtain ⟨bo, off, rfl, hb1, hb2⟩ := HC.out (by omega)
      have HCE := Lib.hid (fun j (hj : j < n) W (h : Below w.heap.size w W) => (h.cell (p := ⟨bo, off + j, none⟩) hb1).trans (hb2 j hj))
      have c0 := HCE.out i hin wr HW.out
      have HT := Lib.hid (take_next (l := os) (j := i) (by rw [HL.out]; exact hin))
      have HD := Lib.hid (drop_next (l := os) (j := i) (by rw [HL.out]; exact hin))
      clear hb2
      obtain ⟨x, hx⟩ : ∃ x, os.getD i 0 = x := ⟨_, rfl⟩
      rw [hx] at c0 HT HD
      have HX := Lib.hid hx
      clear hx
      have i0 : (0 : Int) ≤ (i : Int) := by omega
      have i1 : (i : Int) < (n : Int) := by omega
      by_cases h1 : 0 ≤ x ∧ x < n
      · obtain ⟨h2, h3⟩ := h1
        have d1 : decide (x < 0) = false := by simpa using h2
        have d2 : decide ((n : Int) ≤ x) = false := by simpa using h3
        go_wp2
        go_region_held3 (fun W => W.cell? ⟨bo, off + i, none⟩ = some (.int .i64 x) ∧ W.cell? ⟨w.heap.size, 0, none⟩ = some (.int .i64 n))
          (first | (go_split_ands; refine ⟨?_, ?_⟩ <;> assumption) | go_keep)
          (first | fail)
        have T0' := T0.drew
        have T1' := T1.drew
        have HW' := Lib.hid HW.out.drew
        clear T0 T1 HW c0 p1 p2 p3 p4 q1 q2 q3 q4
        obtain ⟨wd, hwd⟩ : ∃ wd, wr.drew = wd := ⟨_, rfl⟩
        rw [hwd] at T0' T1' HW' ⊢
        clear hwd p0 q0
        obtain ⟨p0, p1, p2, p3, p4⟩ := id T0'
        go_wp2
        go_loopw [8] (fun s8 wr => ∃ k : Nat, k ≤ i ∧ s8 = .int .i64 k ∧ TabI wr w.heap.size n b ∧ TabI wr (w.heap.size + 1) 0 0 ∧ Hid (∀ j, j < k → os.getD j 0 ≠ x) ∧ Hid (Below w.heap.size w wr)) (fun s8 _ => i - (intOf s8).toNat)
        case atStart => exact ⟨0, Nat.zero_le _, rfl, T0', T1', Lib.hid (fun j hj => by omega), HW'⟩
        case round =>
          clear T0' T1' HW' p0 p1 p2 p3 p4
          obtain ⟨k, hk, rfl, U0, U1, HN, HV⟩ := hrel
          obtain ⟨p0, p1, p2, p3, p4⟩ := id U0
          obtain ⟨q0, q1, q2, q3, q4⟩ := id U1
          by_cases hki : k < i
          · have c1 := HCE.out k (by omega) _ HV.out
            have c2 := HCE.out i hin _ HV.out
            rw [HX.out] at c2
            obtain ⟨y, hy⟩ : ∃ y, os.getD k 0 = y := ⟨_, rfl⟩
            rw [hy] at c1
            have HY := Lib.hid hy
            clear hy
            have k0 : (0 : Int) ≤ (k : Int) := by omega
            have k1 : (k : Int) < (n : Int) := by omega
            by_cases hyx : y = x
            · have hr : (0 : Int) = 7 := by
                rw [← HO.out, HD.out]
                unfold Tt.ordFrom
                rw [if_pos ⟨h2, h3⟩, if_pos]
                rw [← hyx, ← HY.out, List.getD_eq_getElem?_getD, List.getElem?_eq_getElem (by rw [HL.out]; omega)]
                exact List.mem_take_iff_getElem.2 ⟨k, by rw [HL.out]; omega, rfl⟩
              have HV := Lib.hid HV.out
              exact absurd hr (by omega)
            · have hyx2 : (y == x) = false := by simpa using hyx
              have HN' := Lib.hid (fun j (hj : j < k + 1) => show os.getD j 0 ≠ x by
                by_cases h : j = k
                · rw [h, HY.out]; exact hyx
                · exact HN.out j (by omega))
              have U0' := U0.drew
              have U1' := U1.drew
              have HV' := Lib.hid HV.out.drew
              clear hyx
              go_wp2
              go_region_held3 (fun W => W.cell? ⟨bo, off + k, none⟩ = some (.int .i64 y) ∧ W.cell? ⟨bo, off + i, none⟩ = some (.int .i64 x))
                (first | (go_split_ands; refine ⟨?_, ?_⟩ <;> assumption) | go_keep)
                (first | fail)
              go_wp2
              go_roundw
              case rel => exact ⟨k + 1, by omega, by go_num, U0', U1', HN', HV'⟩
              case measure => simp [intOf]; omega
          · obtain rfl : k = i := by omega
            have HO' : Hid (Tt.ordFrom n (os.take (k + 1)) (os.drop (k + 1)) = 0) := Lib.hid (by
              rw [← HO.out, HD.out, HT.out]
              conv => rhs; unfold Tt.ordFrom
              rw [if_pos ⟨h2, h3⟩, if_neg]
              intro hm
              obtain ⟨j, hj, he⟩ := List.mem_take_iff_getElem.1 hm
              have := HN.out j (by omega)
              rw [List.getD_eq_getElem?_getD, List.getElem?_eq_getElem (by omega)] at this
              exact this he)
            go_wp2
            go_roundw
            case rel => exact ⟨k + 1, by omega, by go_num, U0, U1, HO', HV⟩
            case measure => simp [intOf]; omega
      · have hr : (0 : Int) = 2 := by
          rw [← HO.out, HD.out]
          unfold Tt.ordFrom
          rw [if_neg h1]
        have HV := Lib.hid HW.out
        exact absurd hr (by omega)
    · obtain rfl : n = i := by omega
      clear HO
      go_wp2
      go_loopw [9, 10] (fun s9 s10 wr => ∃ x : Nat, x ≤ N ∧ s10 = .int .i64 x ∧ Row (w.heap.size + 2) .i64 3 wr s9 (Tt.pts (fun x => b.testBit (Tt.refY ps x n)) x) ∧ TabI wr w.heap.size n b ∧ TabI wr (w.heap.size + 1) 0 0 ∧ Hid (Below w.heap.size w wr)) (fun _ s10 _ => N - (intOf s10).toNat)
      case atStart => exact ⟨0, Nat.zero_le _, rfl, Row.nil _ _ _ _, T0, T1, HW⟩
      case round =>
        clear T0 T1 HW p0 p1 p2 p3 p4 q0 q1 q2 q3 q4
        obtain ⟨x, hx, rfl, hrow, T0, T1, HW⟩ := hrel
        have hwb : w.heap.size + 2 ≤ wr.heap.size := by have := T1.1; omega
        obtain ⟨p0, p1, p2, p3, p4⟩ := id T0
        obtain ⟨q0, q1, q2, q3, q4⟩ := id T1
        by_cases hxN : x < N
        · have HS := Lib.hid (Tt.pts_succ (fun x => b.testBit (Tt.refY ps x n)) x)
          have hlen := Tt.pts_len (fun x => b.testBit (Tt.refY ps x n)) x
          have hy64 : Tt.refY ps x n < 64 := Nat.lt_of_lt_of_le (HNN.out x) hN
          have CA := fun W => Lib.hid (rAt_any n b (Tt.refY ps x n) W hb64 hy64)
          obtain ⟨wo, rfl⟩ : ∃ wo : World, wo = wr := ⟨_, rfl⟩
          cases hbit : b.testBit (Tt.refY ps x n)
          · rw [hbit] at CA
            have HS2 := Lib.hid (HS.out.trans (if_neg (by simp [hbit])))
            clear HS hbit
            generalize Tt.pts (fun x => b.testBit (Tt.refY ps x n)) x = l at *
            go_wp2_with (first | (go_at_call 46; refine ((CS _).out).mono ?_; rintro e w4 ⟨rfl, rfl⟩) | fail)
            go_loopw [11, 12] (fun s11 s12 wr => ∃ j : Nat, j ≤ n ∧ s11 = .int .i64 ((Tt.refY ps x j : Nat) : Int) ∧ s12 = .int .i64 j ∧ wr = wo) (fun _ s12 _ => n - (intOf s12).toNat)
            case atStart => exact ⟨0, Nat.zero_le _, rfl, rfl, rfl⟩
            case round =>
              obtain ⟨j, hj, rfl, rfl, rfl⟩ := hrel
              by_cases hjn : j < n
              · obtain ⟨bo, off, rfl, hb1, hb2⟩ := HC.out (by omega)
                have c0 := (HW.out.cell (p := ⟨bo, off + j, none⟩) hb1).trans (hb2 j hjn)
                have hpv : os.getD j 0 = ((ps.getD j 0 : Nat) : Int) := by
                  rw [HOS.out]
                  simp only [List.getD_eq_getElem?_getD, List.getElem?_map]
                  cases ps[j]? <;> simp
                rw [hpv] at c0
                have hpn := HP.out.at hjn
                have hyl : Tt.refY ps x j < 64 := Nat.lt_of_lt_of_le (Tt.refY_lt ps x j) (Nat.le_trans (Nat.pow_le_pow_right (by omega) (by omega)) (Tt.size_le hn))
                have CH := fun W => Lib.hid (rHas_any x (ps.getD j 0) W (by omega) (by omega))
                have CW := fun W => Lib.hid (rWith_any (Tt.refY ps x j) j (x.testBit (ps.getD j 0)) W hyl (by omega))
                have HE : Hid (Tt.refY ps x (j + 1) = Tt.wth (Tt.refY ps x j) j (x.testBit (ps.getD j 0))) := Lib.hid rfl
                rw [← HE.out] at CW
                clear hb2 hpv hyl
                generalize x.testBit (ps.getD j 0) = q at *
                generalize ps.getD j 0 = p at *
                have j0 : (0 : Int) ≤ (j : Int) := by omega
                have j1 : (j : Int) < (n : Int) := by omega
                go_wp2_with (first
                  | (go_at_call 71; refine ((CH _).out).mono ?_; rintro e w4 ⟨rfl, rfl⟩)
                  | (go_at_call 69; refine ((CW _).out).mono ?_; rintro e w4 ⟨rfl, rfl⟩))
                go_roundw
                case rel => exact ⟨j + 1, by omega, rfl, by go_num, trivial⟩
                case measure => simp [intOf]; omega
              · obtain rfl : j = n := by omega
                go_wp2_with fail
                refine ((CA _).out).mono ?_
                rintro e w5 ⟨rfl, hb1⟩
                have zb1 := hb1.size
                have T0' := T0.below (by omega) hb1
                have T1' := T1.below (by omega) hb1
                have hrow' := hrow.below hb1 (Nat.le_refl _)
                have HW' := Lib.hid (HW.out.trans (hb1.mono (by omega)))
                clear hb1 T0 T1 hrow HW p1 p2 p3 p4 q1 q2 q3 q4
                go_wp2
                go_roundw
                case rel => exact ⟨x + 1, by omega, by go_num, by rw [HS2.out]; exact hrow', T0', T1', HW'⟩
                case measure => simp [intOf]; omega
          · rw [hbit] at CA
            have HS2 := Lib.hid (HS.out.trans (if_pos (by simp [hbit])))
            clear HS hbit
            generalize Tt.pts (fun x => b.testBit (Tt.refY ps x n)) x = l at *
            go_wp2_with (first | (go_at_call 46; refine ((CS _).out).mono ?_; rintro e w4 ⟨rfl, rfl⟩) | fail)
            go_loopw [11, 12] (fun s11 s12 wr => ∃ j : Nat, j ≤ n ∧ s11 = .int .i64 ((Tt.refY ps x j : Nat) : Int) ∧ s12 = .int .i64 j ∧ wr = wo) (fun _ s12 _ => n - (intOf s12).toNat)
            case atStart => exact ⟨0, Nat.zero_le _, rfl, rfl, rfl⟩
            case round =>
              obtain ⟨j, hj, rfl, rfl, rfl⟩ := hrel
              by_cases hjn : j < n
              · obtain ⟨bo, off, rfl, hb1, hb2⟩ := HC.out (by omega)
                have c0 := (HW.out.cell (p := ⟨bo, off + j, none⟩) hb1).trans (hb2 j hjn)
                have hpv : os.getD j 0 = ((ps.getD j 0 : Nat) : Int) := by
                  rw [HOS.out]
                  simp only [List.getD_eq_getElem?_getD, List.getElem?_map]
                  cases ps[j]? <;> simp
                rw [hpv] at c0
                have hpn := HP.out.at hjn
                have hyl : Tt.refY ps x j < 64 := Nat.lt_of_lt_of_le (Tt.refY_lt ps x j) (Nat.le_trans (Nat.pow_le_pow_right (by omega) (by omega)) (Tt.size_le hn))
                have CH := fun W => Lib.hid (rHas_any x (ps.getD j 0) W (by omega) (by omega))
                have CW := fun W => Lib.hid (rWith_any (Tt.refY ps x j) j (x.testBit (ps.getD j 0)) W hyl (by omega))
                have HE : Hid (Tt.refY ps x (j + 1) = Tt.wth (Tt.refY ps x j) j (x.testBit (ps.getD j 0))) := Lib.hid rfl
                rw [← HE.out] at CW
                clear hb2 hpv hyl
                generalize x.testBit (ps.getD j 0) = q at *
                generalize ps.getD j 0 = p at *
                have j0 : (0 : Int) ≤ (j : Int) := by omega
                have j1 : (j : Int) < (n : Int) := by omega
                go_wp2_with (first
                  | (go_at_call 71; refine ((CH _).out).mono ?_; rintro e w4 ⟨rfl, rfl⟩)
                  | (go_at_call 69; refine ((CW _).out).mono ?_; rintro e w4 ⟨rfl, rfl⟩))
                go_roundw
                case rel => exact ⟨j + 1, by omega, rfl, by go_num, trivial⟩
                case measure => simp [intOf]; omega
              · obtain rfl : j = n := by omega
                go_wp2_with fail
                refine ((CA _).out).mono ?_
                rintro e w5 ⟨rfl, hb1⟩
                have zb1 := hb1.size
                have T0' := T0.below (by omega) hb1
                have T1' := T1.below (by omega) hb1
                have hrow' := hrow.below hb1 (Nat.le_refl _)
                have HW' := Lib.hid (HW.out.trans (hb1.mono (by omega)))
                clear hb1 T0 T1 hrow HW p1 p2 p3 p4 q1 q2 q3 q4
                go_wp2_with (at_builtin; refine wpList_append_nat rfl _ _ 36 rfl 3 ifo .i64 8 Tryd.underlying36 hifo hz0 hz1 hz2 (by omega) _ _ l [x] rfl rfl (w.heap.size + 2) (hrow'.below ((Below.refl _ _).alloc (Nat.le_refl _) _) (Nat.le_refl _)) ((Row.one 0 _ _ _ (Nat.zero_le _) x _ rfl).sees) (by simp; omega) (by simp; omega) ?_; intro v6 w6 hr6 hb6)
                go_roundw
                case rel =>
                  have hbA := ((Below.refl w5.heap.size w5).alloc (Nat.le_refl _) (.cells #[.int .i64 (x : Int)] 3)).mono (show w.heap.size + 2 ≤ w5.heap.size by omega)
                  have hbB := hbA.trans hb6
                  exact ⟨x + 1, by omega, by go_num, by rw [HS2.out]; exact hr6, T0'.below (by omega) hbB, T1'.below (by omega) hbB, Lib.hid (HW'.out.trans (hbB.mono (by omega)))⟩
                case measure => simp [intOf]; omega
        · obtain rfl : x = N := by omega
          have CM' := CM _ _ hrow.sees
          generalize Tt.pts (fun x => b.testBit (Tt.refY ps x n)) x = l at *
          go_wp2_with (first | (go_at_call 46; refine ((CS _).out).mono ?_; rintro e w4 ⟨rfl, rfl⟩) | fail)
          refine (CM'.out).mono ?_
          rintro e w5 ⟨rfl, hb1⟩
          have zb1 := hb1.size
          have T1' := T1.below (by omega) hb1
          have HW' := Lib.hid (HW.out.trans (hb1.mono (by omega)))
          obtain ⟨s0, s1, s2, s3, s4⟩ := id T1'
          clear hb1 p1 p2 p3 p4 q1 q2 q3 q4
          go_wp2
          exact bodyPost_ret (v := .tuple #[.agg #[.int .i64 n, .int .u64 rr], .int .i64 0]) (by simp [results, Tryd.results38, go_sem, s1, s2]) rfl ⟨rfl, by (repeat' (first | exact HW'.out | refine Below.alloc ?_ (by simp; omega) _ | refine Below.setCell ?_ (by first | exact Nat.le_refl _ | (dsimp only; omega) | (simp; omega)) _ | refine Below.drew ?_))⟩

end Go.Proofs.YtmmcakeedejbnaaDoor
