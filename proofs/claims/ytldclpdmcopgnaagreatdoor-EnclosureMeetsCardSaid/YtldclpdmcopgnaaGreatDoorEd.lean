/- The contracts of Contains of package enclosure; of the reference: Point, In, Contains. -/
import Derived.Test.YtldclpdmcopgnaaGreatDoorEc
namespace Go.Proofs.YtldclpdmcopgnaaGreatDoor
open Go.RowKit

/-- What Contains returns. -/
def conV (l h x : ByteArray) : Bool × Int :=
  if Fr.chkE l.data.toList h.data.toList ≠ 0 then (false, Fr.chkE l.data.toList h.data.toList) else if Fr.chk x.data.toList ≠ 0 then (false, Fr.chk x.data.toList)
  else (decide (¬ Fr.rat x.data.toList < Fr.rat l.data.toList ∧ ¬ Fr.rat h.data.toList < Fr.rat x.data.toList), 0)

set_option maxRecDepth 100000 in
theorem rIn_any (l h x : ByteArray) (w : World) (hl : l.size ≤ 800) (hh : h.size ≤ 800) (hx : x.size ≤ 800) (k1 : Fr.chk l.data.toList = 0) (k2 : Fr.chk h.data.toList = 0) (k3 : Fr.chk x.data.toList = 0) :
    Calls Tryz.prog 54 #[.agg #[.string l, .string h], .string x] w fun e w' => e = .returned (.bool (decide (¬ Fr.rat x.data.toList < Fr.rat l.data.toList ∧ ¬ Fr.rat h.data.toList < Fr.rat x.data.toList))) ∧ Below w.heap.size w w' := by
  have HP := Lib.hid (pair_new w l h 24)
  have hB0 : Below w.heap.size w (w.alloc (.cells #[.string l, .string h] 24)) := (Below.refl _ _).alloc (Nat.le_refl _) _
  by_cases h3 : Fr.rat x.data.toList < Fr.rat l.data.toList
  · rw [decide_eq_false (fun h => h.1 h3)]
    obtain ⟨c, hc, CI⟩ := rOrder_more h3 hl hx k1 k3
    clear h3 k1 k2 k3
    obtain ⟨p0, p1, p2, p3, p4⟩ := HP.out
    go_enter Tryz.func54, Tryz.ntmps54
    go_wp2_with (go_at_call 55; refine ((CI _).out).mono ?_; rintro e w1 ⟨rfl, hb1⟩)
    go_ret
    exact ⟨rfl, hB0.trans (hb1.mono (by simp))⟩
  · obtain ⟨c, hc, CI⟩ := rOrder_notMore h3 hl hx k1 k3
    by_cases h4 : Fr.rat h.data.toList < Fr.rat x.data.toList
    · rw [decide_eq_false (fun h => h.2 h4)]
      obtain ⟨d, hd, CJ⟩ := rOrder_more h4 hx hh k3 k2
      clear h3 h4 k1 k2 k3
      go_enter Tryz.func54, Tryz.ntmps54
      go_wp2_with (first
        | (go_at_call 55; (with_reducible refine ((CI _).out).mono ?_); rintro e w1 ⟨rfl, hb1⟩; have hB1 := hB0.trans (hb1.mono (by simp)); obtain ⟨q0, q1, q2, q3, q4⟩ := HP.out.below hb1)
        | (go_at_call 55; (with_reducible refine ((CJ _).out).mono ?_); rintro e w2 ⟨rfl, hb2⟩; have hB2 := hB1.trans (hb2.mono hB1.size)))
      go_ret
      exact ⟨by simp <;> omega, hB2⟩
    · rw [decide_eq_true ⟨h3, h4⟩]
      obtain ⟨d, hd, CJ⟩ := rOrder_notMore h4 hx hh k3 k2
      clear h3 h4 k1 k2 k3
      go_enter Tryz.func54, Tryz.ntmps54
      go_wp2_with (first
        | (go_at_call 55; (with_reducible refine ((CI _).out).mono ?_); rintro e w1 ⟨rfl, hb1⟩; have hB1 := hB0.trans (hb1.mono (by simp)); obtain ⟨q0, q1, q2, q3, q4⟩ := HP.out.below hb1)
        | (go_at_call 55; (with_reducible refine ((CJ _).out).mono ?_); rintro e w2 ⟨rfl, hb2⟩; have hB2 := hB1.trans (hb2.mono hB1.size)))
      go_ret
      exact ⟨by simp <;> omega, hB2⟩

set_option maxRecDepth 100000 in
theorem rPointE_any (a : ByteArray) (w : World) (ha : a.size ≤ 800) :
    Calls Tryz.prog 17 #[.string a] w fun e w' => e = .returned (.tuple #[.agg #[.string (encP a a).1, .string (encP a a).2], .int .i64 (Fr.chk a.data.toList)]) ∧ Below w.heap.size w w' := by
  have CC := fun W => Lib.hid (rCheck_any a W ha)
  have hB0 : Below w.heap.size w (w.alloc (.cells #[.string ⟨#[]⟩, .string ⟨#[]⟩] 24)) := (Below.refl _ _).alloc (Nat.le_refl _) _
  have HP := Lib.hid (pair_new w ⟨#[]⟩ ⟨#[]⟩ 24)
  unfold encP
  rw [chkE_same]
  by_cases h1 : Fr.chk a.data.toList = 0
  · rw [if_pos h1]
    rw [h1] at CC ⊢
    clear h1
    go_enter Tryz.func17, Tryz.ntmps17
    go_wp2_with fail
    refine ((CC _).out).mono ?_
    rintro e w1 ⟨rfl, hb1⟩
    obtain ⟨p0, p1, p2, p3, p4⟩ := HP.out.below hb1
    have hB1 := hB0.trans (hb1.mono (by simp))
    clear HP hB0 hb1 CC
    go_wp2
    have hfin := (hB1.setCell (p := ⟨w.heap.size, 0, none⟩) (by simp) (.string a)).setCell (p := ⟨w.heap.size, 1, none⟩) (by simp) (.string a)
    exact bodyPost_ret (v := .tuple #[.agg #[.string a, .string a], .int .i64 0]) (by simp [results, Tryz.results17, go_sem, p1, p2]) rfl ⟨rfl, hfin⟩
  · rw [if_neg h1]
    have hne : (Fr.chk a.data.toList != 0) = true := by simpa using h1
    clear h1
    generalize Fr.chk a.data.toList = c at *
    go_enter Tryz.func17, Tryz.ntmps17
    go_wp2_with fail
    refine ((CC _).out).mono ?_
    rintro e w1 ⟨rfl, hb1⟩
    obtain ⟨p0, p1, p2, p3, p4⟩ := HP.out.below hb1
    have hB1 := hB0.trans (hb1.mono (by simp))
    clear HP hB0 hb1 CC
    go_wp2
    have hfin := (hB1.setCell (p := ⟨w.heap.size, 0, none⟩) (by simp) (.string ⟨#[]⟩)).setCell (p := ⟨w.heap.size, 1, none⟩) (by simp) (.string ⟨#[]⟩)
    exact bodyPost_ret (v := .tuple #[.agg #[.string ⟨#[]⟩, .string ⟨#[]⟩], .int .i64 c]) (by simp [results, Tryz.results17, go_sem, p1, p2]) rfl ⟨rfl, hfin⟩

set_option maxRecDepth 100000 in
theorem eContains_any (l h x : ByteArray) (w : World) (hst : St w) (hl : l.size ≤ 800) (hh : h.size ≤ 800) (hx : x.size ≤ 800) :
    Calls Tryz.prog 18 #[.agg #[.string l, .string h], .string x] w fun e w' => e = .returned (.tuple #[.bool (conV l h x).1, .int .i64 (conV l h x).2]) ∧ Below w.heap.size w w' := by
  have CC := fun W (hW : Below w.heap.size w W) => Lib.hid (eCheck_any l h W (hst.next hW) hl hh)
  have CX := fun W (hW : Below w.heap.size w W) => Lib.hid (fCheck_any x W (hst.next hW) hx)
  have hB0 : Below w.heap.size w (w.alloc (.cells #[.string l, .string h] 24)) := (Below.refl _ _).alloc (Nat.le_refl _) _
  have HP := Lib.hid (pair_new w l h 24)
  unfold conV
  by_cases h1 : Fr.chkE l.data.toList h.data.toList = 0
  · rw [if_neg (by simpa using h1)]
    rw [h1] at CC
    by_cases h2 : Fr.chk x.data.toList = 0
    · rw [if_neg (by simpa using h2)]
      rw [h2] at CX
      obtain ⟨k1, k2, k3⟩ := chkE_zero h1
      by_cases h3 : Fr.rat x.data.toList < Fr.rat l.data.toList
      · have CI := fun W (hW : Below w.heap.size w W) => Lib.hid (isLess_lit (decide_eq_true h3) W (hst.next hW) hx hl h2 k1)
        rw [decide_eq_false (fun h => h.1 h3)]
        clear h1 h2 h3 k1 k2 k3 hst
        go_enter Tryz.func18, Tryz.ntmps18
        go_wp2_with fail
        refine ((CC _ hB0).out).mono ?_
        rintro e w1 ⟨rfl, hb1⟩
        have HP1 := Lib.hid (HP.out.below hb1)
        have hB1 := hB0.trans (hb1.mono (by simp))
        go_wp2_with fail
        refine ((CX _ hB1).out).mono ?_
        rintro e w2 ⟨rfl, hb2⟩
        obtain ⟨p0, p1, p2, p3, p4⟩ := HP1.out.below hb2
        have hB2 := hB1.trans (hb2.mono hB1.size)
        go_wp2_with (go_at_call 53; refine ((CI _ hB2).out).mono ?_; rintro e w3 ⟨rfl, hb3⟩)
        go_ret2
        exact ⟨rfl, hB2.trans (hb3.mono hB2.size)⟩
      · have CI := fun W (hW : Below w.heap.size w W) => Lib.hid (isLess_lit (decide_eq_false h3) W (hst.next hW) hx hl h2 k1)
        obtain ⟨b, hb⟩ : ∃ b, decide (Fr.rat h.data.toList < Fr.rat x.data.toList) = b := ⟨_, rfl⟩
        have CJ := fun W (hW : Below w.heap.size w W) => Lib.hid (isLess_lit hb W (hst.next hW) hh hx k2 h2)
        rw [show decide (¬ Fr.rat x.data.toList < Fr.rat l.data.toList ∧ ¬ Fr.rat h.data.toList < Fr.rat x.data.toList) = !b by rw [← hb]; simp [h3]]
        clear h1 h2 h3 k1 k2 k3 hst hb
        go_enter Tryz.func18, Tryz.ntmps18
        go_wp2_with fail
        refine ((CC _ hB0).out).mono ?_
        rintro e w1 ⟨rfl, hb1⟩
        have HP1 := Lib.hid (HP.out.below hb1)
        have hB1 := hB0.trans (hb1.mono (by simp))
        go_wp2_with fail
        refine ((CX _ hB1).out).mono ?_
        rintro e w2 ⟨rfl, hb2⟩
        have HP2 := Lib.hid (HP1.out.below hb2)
        obtain ⟨p0, p1, p2, p3, p4⟩ := HP2.out
        have hB2 := hB1.trans (hb2.mono hB1.size)
        go_wp2_with (first
          | (go_at_call 53; (with_reducible refine ((CI _ hB2).out).mono ?_); rintro e w3 ⟨rfl, hb3⟩; have hB3 := hB2.trans (hb3.mono hB2.size); obtain ⟨q0, q1, q2, q3, q4⟩ := HP2.out.below hb3)
          | (go_at_call 53; (with_reducible refine ((CJ _ hB3).out).mono ?_); rintro e w4 ⟨rfl, hb4⟩; have hB4 := hB3.trans (hb4.mono hB3.size)))
        go_ret2
        exact ⟨rfl, hB4⟩
    · rw [if_pos h2]
      have hne : (Fr.chk x.data.toList != 0) = true := by simpa using h2
      clear h1 h2 hst
      generalize Fr.chk x.data.toList = c at *
      go_enter Tryz.func18, Tryz.ntmps18
      go_wp2_with fail
      refine ((CC _ hB0).out).mono ?_
      rintro e w1 ⟨rfl, hb1⟩
      have hB1 := hB0.trans (hb1.mono (by simp))
      go_wp2_with fail
      refine ((CX _ hB1).out).mono ?_
      rintro e w2 ⟨rfl, hb2⟩
      go_wp2
      go_ret2
      exact ⟨rfl, hB1.trans (hb2.mono hB1.size)⟩
  · rw [if_pos h1]
    have hne : (Fr.chkE l.data.toList h.data.toList != 0) = true := by simpa using h1
    clear h1 CX hst
    generalize Fr.chkE l.data.toList h.data.toList = c at *
    go_enter Tryz.func18, Tryz.ntmps18
    go_wp2_with fail
    refine ((CC _ hB0).out).mono ?_
    rintro e w1 ⟨rfl, hb1⟩
    go_wp2
    go_ret2
    exact ⟨rfl, hB0.trans (hb1.mono (by simp))⟩

set_option maxRecDepth 100000 in
theorem rContainsE_any (l h x : ByteArray) (w : World) (hl : l.size ≤ 800) (hh : h.size ≤ 800) (hx : x.size ≤ 800) :
    Calls Tryz.prog 19 #[.agg #[.string l, .string h], .string x] w fun e w' => e = .returned (.tuple #[.bool (conV l h x).1, .int .i64 (conV l h x).2]) ∧ Below w.heap.size w w' := by
  have CC := fun W => Lib.hid (rCheckE_any l h W hl hh)
  have CX := fun W => Lib.hid (rCheck_any x W hx)
  have hB0 : Below w.heap.size w (w.alloc (.cells #[.string l, .string h] 24)) := (Below.refl _ _).alloc (Nat.le_refl _) _
  have HP := Lib.hid (pair_new w l h 24)
  unfold conV
  by_cases h1 : Fr.chkE l.data.toList h.data.toList = 0
  · rw [if_neg (by simpa using h1)]
    rw [h1] at CC
    by_cases h2 : Fr.chk x.data.toList = 0
    · rw [if_neg (by simpa using h2)]
      rw [h2] at CX
      obtain ⟨k1, k2, k3⟩ := chkE_zero h1
      have CI := fun W => Lib.hid (rIn_any l h x W hl hh hx k1 k2 h2)
      generalize decide (¬ Fr.rat x.data.toList < Fr.rat l.data.toList ∧ ¬ Fr.rat h.data.toList < Fr.rat x.data.toList) = b at *
      clear h1 h2 k1 k2 k3
      go_enter Tryz.func19, Tryz.ntmps19
      go_wp2_with fail
      refine ((CC _).out).mono ?_
      rintro e w1 ⟨rfl, hb1⟩
      have HP1 := Lib.hid (HP.out.below hb1)
      have hB1 := hB0.trans (hb1.mono (by simp))
      go_wp2_with fail
      refine ((CX _).out).mono ?_
      rintro e w2 ⟨rfl, hb2⟩
      obtain ⟨p0, p1, p2, p3, p4⟩ := HP1.out.below hb2
      have hB2 := hB1.trans (hb2.mono hB1.size)
      go_wp2_with (go_at_call 54; refine ((CI _).out).mono ?_; rintro e w3 ⟨rfl, hb3⟩)
      go_ret2
      exact ⟨rfl, hB2.trans (hb3.mono hB2.size)⟩
    · rw [if_pos h2]
      have hne : (Fr.chk x.data.toList != 0) = true := by simpa using h2
      clear h1 h2
      generalize Fr.chk x.data.toList = c at *
      go_enter Tryz.func19, Tryz.ntmps19
      go_wp2_with fail
      refine ((CC _).out).mono ?_
      rintro e w1 ⟨rfl, hb1⟩
      have hB1 := hB0.trans (hb1.mono (by simp))
      go_wp2_with fail
      refine ((CX _).out).mono ?_
      rintro e w2 ⟨rfl, hb2⟩
      go_wp2
      go_ret2
      exact ⟨rfl, hB1.trans (hb2.mono hB1.size)⟩
  · rw [if_pos h1]
    have hne : (Fr.chkE l.data.toList h.data.toList != 0) = true := by simpa using h1
    clear h1 CX
    generalize Fr.chkE l.data.toList h.data.toList = c at *
    go_enter Tryz.func19, Tryz.ntmps19
    go_wp2_with fail
    refine ((CC _).out).mono ?_
    rintro e w1 ⟨rfl, hb1⟩
    go_wp2
    go_ret2
    exact ⟨rfl, hB0.trans (hb1.mono (by simp))⟩

end Go.Proofs.YtldclpdmcopgnaaGreatDoor

