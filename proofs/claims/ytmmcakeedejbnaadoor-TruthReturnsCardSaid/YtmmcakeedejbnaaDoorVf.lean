/- The contract of checkOrder of package truth. -/
import Derived.Test.YtmmcakeedejbnaaDoorVe
namespace Go.Proofs.YtmmcakeedejbnaaDoor
open Go.RowKit Go.Shelf

/-- A slice value reads as a list of ints. -/
def SeesI (W : World) (v : Value) (l : List Int) : Prop := ∃ ao cap, v = .slice ao l.length cap ∧ l.length ≤ cap ∧ cap ≤ 9223372036854775807 ∧
  (0 < l.length → ∃ b off, ao = some ⟨b, off, none⟩ ∧ b < W.heap.size ∧ ∀ i, i < l.length → W.cell? ⟨b, off + i, none⟩ = some (.int .i64 (l.getD i 0)))
theorem SeesI.below {W W' : World} {v : Value} {l : List Int} (h : SeesI W v l) {B : Nat} (hb : Below B W W') (hB : W.heap.size ≤ B) : SeesI W' v l := by
  obtain ⟨ao, cap, h1, h2, h3, h4⟩ := h
  refine ⟨ao, cap, h1, h2, h3, fun hp => ?_⟩
  obtain ⟨b, off, g1, g2, g3⟩ := h4 hp
  exact ⟨b, off, g1, Nat.lt_of_lt_of_le g2 hb.size, fun i hi => (hb.cell (p := ⟨b, off + i, none⟩) (Nat.lt_of_lt_of_le g2 hB)).trans (g3 i hi)⟩
/-- The variables that were seen. -/
def SeenI (W : World) (g : Nat) (seen : List Int) : Prop := g < W.heap.size ∧ ∀ y, y < 6 → W.cell? ⟨g, y, none⟩ = some (.bool (decide ((y : Int) ∈ seen))) ∧ W.frozen? ⟨g, y, none⟩ = false
theorem seenI_new (w : World) (T : TypeId) : SeenI (w.alloc (.cells #[.bool false, .bool false, .bool false, .bool false, .bool false, .bool false] T)) w.heap.size [] := by
  refine ⟨by simp, fun y hy => ?_⟩
  rcases sixb hy with rfl | rfl | rfl | rfl | rfl | rfl <;> simp
theorem SeenI.put {W : World} {g y : Nat} {seen : List Int} (h : SeenI W g seen) (hy : y < 6) : SeenI (W.setCell ⟨g, y, none⟩ (.bool true)) g (seen ++ [(y : Int)]) := by
  refine ⟨by simpa using h.1, fun z hz => ?_⟩
  obtain ⟨h1, h2⟩ := h.2 z hz
  rw [World.frozen?_setCell]
  refine ⟨?_, h2⟩
  by_cases hzy : z = y
  · subst hzy
    rw [World.cell?_setCell_same' _ _ _ (by rw [h1]; rfl)]; simp
  · rw [World.cell?_setCell_other (w := W) (v := .bool true) (a := ⟨g, y, none⟩) (b := ⟨g, z, none⟩) (fun e => hzy (congrArg Addr.off e).symm), h1]
    have : ((z : Int) ∈ seen ++ [(y : Int)]) ↔ (z : Int) ∈ seen := by simp; omega
    simp [this]
theorem take_next {l : List Int} {j : Nat} (hj : j < l.length) : l.take (j + 1) = l.take j ++ [l.getD j 0] := by
  rw [List.take_succ_eq_append_getElem hj, List.getD_eq_getElem?_getD, List.getElem?_eq_getElem hj]; rfl
theorem drop_next {l : List Int} {j : Nat} (hj : j < l.length) : l.drop j = l.getD j 0 :: l.drop (j + 1) := by
  rw [List.drop_eq_getElem_cons hj, List.getD_eq_getElem?_getD, List.getElem?_eq_getElem hj]; rfl

set_option maxRecDepth 100000 in
theorem tOrd_any (n : Nat) (os : List Int) (v : Value) (w : World) (hn : n ≤ 6) (hs : SeesI w v os) :
    Calls Tryd.prog 70 #[v, .int .i64 n] w fun e w' => e = .returned (.int .i64 (Tt.ordE n os)) ∧ Below w.heap.size w w' := by
  obtain ⟨ao, cap, rfl, hc1, hc2, hC⟩ := hs
  unfold Tt.ordE
  by_cases hl : (os.length : Int) = (n : Int)
  · rw [if_pos hl]
    have hln : os.length = n := by omega
    have HL := Lib.hid hln
    rw [hln] at hc1 hC ⊢
    have HC := Lib.hid hC
    have HR := Lib.hid (show Tt.ordFrom n (os.take 0) (os.drop 0) = Tt.ordFrom n [] os by simp)
    generalize Tt.ordFrom n [] os = r at *
    have S0 := seenI_new w 110
    have L0 : Below w.heap.size w (w.alloc (.cells #[.bool false, .bool false, .bool false, .bool false, .bool false, .bool false] 110)) := (Below.refl _ w).alloc (Nat.le_refl _) _
    clear hl hln hC
    go_enter Tryd.func70, Tryd.ntmps70
    go_wp2
    go_loopw [14] (fun s14 wr => ∃ j : Nat, j ≤ n ∧ s14 = .int .i64 j ∧ SeenI wr w.heap.size (os.take j) ∧ Hid (Tt.ordFrom n (os.take j) (os.drop j) = r) ∧ Hid (Below w.heap.size w wr)) (fun s14 _ => n - (intOf s14).toNat)
    case atStart => exact ⟨0, Nat.zero_le _, rfl, by simpa using S0, HR, Lib.hid L0⟩
    case round =>
      clear S0 L0 HR
      obtain ⟨j, hj, rfl, hS, HO, HW⟩ := hrel
      by_cases hjn : j < n
      · obtain ⟨b, off, rfl, hb1, hb2⟩ := HC.out (by omega)
        have c0 := (HW.out.cell (p := ⟨b, off + j, none⟩) hb1).trans (hb2 j hjn)
        have HT := Lib.hid (take_next (l := os) (j := j) (by rw [HL.out]; exact hjn))
        have HD := Lib.hid (drop_next (l := os) (j := j) (by rw [HL.out]; exact hjn))
        clear hb2
        obtain ⟨x, hx⟩ : ∃ x, os.getD j 0 = x := ⟨_, rfl⟩
        rw [hx] at c0 HT HD
        have CB := fun W => Lib.hid (tIsBelow_any x n W)
        by_cases h1 : 0 ≤ x ∧ x < n
        · rw [decide_eq_true h1] at CB
          obtain ⟨y, rfl⟩ := Int.eq_ofNat_of_zero_le h1.1
          have hy6 : y < 6 := by omega
          obtain ⟨s1, s2⟩ := hS.2 y hy6
          have HS := Lib.hid hS
          by_cases h2 : (y : Int) ∈ os.take j
          · have hr : r = 7 := by
              rw [← HO.out, HD.out]
              unfold Tt.ordFrom
              rw [if_pos h1, if_pos h2]
            subst hr
            rw [decide_eq_true h2] at s1
            clear h2 hx h1 hS
            go_wp2_with (go_at_call 49; refine ((CB _).out).mono ?_; rintro e w1 ⟨rfl, rfl⟩)
            go_ret
            exact ⟨rfl, HW.out⟩
          · have HO' : Hid (Tt.ordFrom n (os.take (j + 1)) (os.drop (j + 1)) = r) := Lib.hid (by
              rw [← HO.out, HD.out, HT.out]
              conv => rhs; unfold Tt.ordFrom
              rw [if_pos h1, if_neg h2])
            rw [decide_eq_false h2] at s1
            have HS' : Hid (SeenI (wr.setCell ⟨w.heap.size, y, none⟩ (.bool true)) w.heap.size (os.take (j + 1))) := Lib.hid (by rw [HT.out]; exact HS.out.put hy6)
            have HW' := Lib.hid (HW.out.setCell (p := ⟨w.heap.size, y, none⟩) (Nat.le_refl _) (.bool true))
            clear h2 hx h1 hS
            go_wp2_with (go_at_call 49; refine ((CB _).out).mono ?_; rintro e w1 ⟨rfl, rfl⟩)
            go_roundw
            case rel => exact ⟨j + 1, by omega, by go_num, HS'.out, HO', HW'⟩
            case measure => simp [intOf]; omega
        · rw [decide_eq_false h1] at CB
          have hr : r = 2 := by
            rw [← HO.out, HD.out]
            unfold Tt.ordFrom
            rw [if_neg h1]
          subst hr
          clear h1 hx
          go_wp2_with (go_at_call 49; refine ((CB _).out).mono ?_; rintro e w1 ⟨rfl, rfl⟩)
          go_ret
          exact ⟨rfl, HW.out⟩
      · obtain rfl : j = n := by omega
        have hr : r = 0 := by
          rw [← HO.out, List.drop_of_length_le (by rw [HL.out]; exact Nat.le_refl _)]
          rfl
        subst hr
        go_wp2
        go_ret
        exact ⟨rfl, HW.out⟩
  · rw [if_neg hl]
    have hl2 : ((os.length : Int) != (n : Int)) = true := by simpa using hl
    have hl3 : ¬ os.length = n := by omega
    clear hC
    go_enter Tryd.func70, Tryd.ntmps70
    go_wp2
    go_ret
    exact ⟨rfl, Below.refl _ _⟩

end Go.Proofs.YtmmcakeedejbnaaDoor
