/- The contracts of package enclosure: Of, Point; of the reference: Of. -/
import Derived.Test.YtldclpdmcopgnaaGreatDoorEb
namespace Go.Proofs.YtldclpdmcopgnaaGreatDoor
open Go.RowKit

def encP (l h : ByteArray) : ByteArray × ByteArray := if Fr.chkE l.data.toList h.data.toList = 0 then (l, h) else (⟨#[]⟩, ⟨#[]⟩)

/-- A new variable of two texts. -/
def Pair (W : World) (g : Nat) (x y : ByteArray) : Prop :=
  g < W.heap.size ∧ W.cell? ⟨g, 0, none⟩ = some (.string x) ∧ W.cell? ⟨g, 1, none⟩ = some (.string y) ∧ W.frozen? ⟨g, 0, none⟩ = false ∧ W.frozen? ⟨g, 1, none⟩ = false
theorem Pair.below {W W' : World} {g : Nat} {x y : ByteArray} (h : Pair W g x y) (hb : Below W.heap.size W W') : Pair W' g x y := by
  obtain ⟨h0, h1, h2, h3, h4⟩ := h
  exact ⟨Nat.lt_of_lt_of_le h0 hb.size, (hb.cell (p := ⟨g, 0, none⟩) h0).trans h1, (hb.cell (p := ⟨g, 1, none⟩) h0).trans h2, (hb.frozen (p := ⟨g, 0, none⟩) h0).trans h3, (hb.frozen (p := ⟨g, 1, none⟩) h0).trans h4⟩
theorem pair_new (w : World) (x y : ByteArray) (T : TypeId) : Pair (w.alloc (.cells #[.string x, .string y] T)) w.heap.size x y := by
  unfold Pair
  simp
theorem pair_next (w : World) (x y a b : ByteArray) (T U : TypeId) : Pair ((w.alloc (.cells #[.string x, .string y] T)).alloc (.cells #[.string a, .string b] U)) w.heap.size x y ∧ Pair ((w.alloc (.cells #[.string x, .string y] T)).alloc (.cells #[.string a, .string b] U)) (w.heap.size + 1) a b := by
  refine ⟨(pair_new w x y T).below ((Below.refl _ _).alloc (Nat.le_refl _) _), ?_⟩
  have h := pair_new (w.alloc (.cells #[.string x, .string y] T)) a b U
  have e : (w.alloc (.cells #[.string x, .string y] T)).heap.size = w.heap.size + 1 := by simp
  rw [e] at h
  exact h

set_option maxRecDepth 100000 in
theorem eOf_any (l h : ByteArray) (w : World) (hst : St w) (hl : l.size ≤ 800) (hh : h.size ≤ 800) :
    Calls Tryz.prog 14 #[.string l, .string h] w fun e w' => e = .returned (.tuple #[.agg #[.string (encP l h).1, .string (encP l h).2], .int .i64 (Fr.chkE l.data.toList h.data.toList)]) ∧ Below w.heap.size w w' := by
  have CC := fun W (hW : Below w.heap.size w W) => Lib.hid (eCheck_any l h W (hst.next hW) hl hh)
  have hB0 : Below w.heap.size w ((w.alloc (.cells #[.string ⟨#[]⟩, .string ⟨#[]⟩] 24)).alloc (.cells #[.string l, .string h] 24)) := ((Below.refl _ _).alloc (Nat.le_refl _) _).alloc (by simp) _
  obtain ⟨HP, HQ⟩ := pair_next w ⟨#[]⟩ ⟨#[]⟩ l h 24 24
  unfold encP
  by_cases h1 : Fr.chkE l.data.toList h.data.toList = 0
  · rw [if_pos h1]
    rw [h1] at CC ⊢
    clear h1 hst
    have HP' := Lib.hid HP
    have HQ' := Lib.hid HQ
    clear HP HQ
    go_enter Tryz.func14, Tryz.ntmps14
    go_wp2_with fail
    refine ((CC _ hB0).out).mono ?_
    rintro e w1 ⟨rfl, hb1⟩
    obtain ⟨p0, p1, p2, p3, p4⟩ := HP'.out.below hb1
    obtain ⟨q0, q1, q2, q3, q4⟩ := HQ'.out.below hb1
    have hB1 := hB0.trans (hb1.mono (by simp; omega))
    clear HP' HQ' hB0 hb1 CC
    go_wp2
    have hfin := (hB1.setCell (p := ⟨w.heap.size, 0, none⟩) (by simp) (.string l)).setCell (p := ⟨w.heap.size, 1, none⟩) (by simp) (.string h)
    exact bodyPost_ret (v := .tuple #[.agg #[.string l, .string h], .int .i64 0]) (by simp [results, Tryz.results14, go_sem, p1, p2]) rfl ⟨rfl, hfin⟩
  · rw [if_neg h1]
    have hne : (Fr.chkE l.data.toList h.data.toList != 0) = true := by simpa using h1
    clear h1 hst
    generalize Fr.chkE l.data.toList h.data.toList = c at *
    have HP' := Lib.hid HP
    clear HP HQ
    go_enter Tryz.func14, Tryz.ntmps14
    go_wp2_with fail
    refine ((CC _ hB0).out).mono ?_
    rintro e w1 ⟨rfl, hb1⟩
    obtain ⟨p0, p1, p2, p3, p4⟩ := HP'.out.below hb1
    have hB1 := hB0.trans (hb1.mono (by simp; omega))
    clear HP' hB0 hb1 CC
    go_wp2
    have hfin := (hB1.setCell (p := ⟨w.heap.size, 0, none⟩) (by simp) (.string ⟨#[]⟩)).setCell (p := ⟨w.heap.size, 1, none⟩) (by simp) (.string ⟨#[]⟩)
    exact bodyPost_ret (v := .tuple #[.agg #[.string ⟨#[]⟩, .string ⟨#[]⟩], .int .i64 c]) (by simp [results, Tryz.results14, go_sem, p1, p2]) rfl ⟨rfl, hfin⟩

set_option maxRecDepth 100000 in
theorem rOfE_any (l h : ByteArray) (w : World) (hl : l.size ≤ 800) (hh : h.size ≤ 800) :
    Calls Tryz.prog 15 #[.string l, .string h] w fun e w' => e = .returned (.tuple #[.agg #[.string (encP l h).1, .string (encP l h).2], .int .i64 (Fr.chkE l.data.toList h.data.toList)]) ∧ Below w.heap.size w w' := by
  have CC := fun W => Lib.hid (rCheckE_any l h W hl hh)
  have hB0 : Below w.heap.size w ((w.alloc (.cells #[.string ⟨#[]⟩, .string ⟨#[]⟩] 24)).alloc (.cells #[.string l, .string h] 24)) := ((Below.refl _ _).alloc (Nat.le_refl _) _).alloc (by simp) _
  obtain ⟨HP, HQ⟩ := pair_next w ⟨#[]⟩ ⟨#[]⟩ l h 24 24
  unfold encP
  by_cases h1 : Fr.chkE l.data.toList h.data.toList = 0
  · rw [if_pos h1]
    rw [h1] at CC ⊢
    clear h1
    have HP' := Lib.hid HP
    have HQ' := Lib.hid HQ
    clear HP HQ
    go_enter Tryz.func15, Tryz.ntmps15
    go_wp2_with fail
    refine ((CC _).out).mono ?_
    rintro e w1 ⟨rfl, hb1⟩
    obtain ⟨p0, p1, p2, p3, p4⟩ := HP'.out.below hb1
    obtain ⟨q0, q1, q2, q3, q4⟩ := HQ'.out.below hb1
    have hB1 := hB0.trans (hb1.mono (by simp; omega))
    clear HP' HQ' hB0 hb1 CC
    go_wp2
    have hfin := (hB1.setCell (p := ⟨w.heap.size, 0, none⟩) (by simp) (.string l)).setCell (p := ⟨w.heap.size, 1, none⟩) (by simp) (.string h)
    exact bodyPost_ret (v := .tuple #[.agg #[.string l, .string h], .int .i64 0]) (by simp [results, Tryz.results15, go_sem, p1, p2]) rfl ⟨rfl, hfin⟩
  · rw [if_neg h1]
    have hne : (Fr.chkE l.data.toList h.data.toList != 0) = true := by simpa using h1
    clear h1
    generalize Fr.chkE l.data.toList h.data.toList = c at *
    have HP' := Lib.hid HP
    clear HP HQ
    go_enter Tryz.func15, Tryz.ntmps15
    go_wp2_with fail
    refine ((CC _).out).mono ?_
    rintro e w1 ⟨rfl, hb1⟩
    obtain ⟨p0, p1, p2, p3, p4⟩ := HP'.out.below hb1
    have hB1 := hB0.trans (hb1.mono (by simp; omega))
    clear HP' hB0 hb1 CC
    go_wp2
    have hfin := (hB1.setCell (p := ⟨w.heap.size, 0, none⟩) (by simp) (.string ⟨#[]⟩)).setCell (p := ⟨w.heap.size, 1, none⟩) (by simp) (.string ⟨#[]⟩)
    exact bodyPost_ret (v := .tuple #[.agg #[.string ⟨#[]⟩, .string ⟨#[]⟩], .int .i64 c]) (by simp [results, Tryz.results15, go_sem, p1, p2]) rfl ⟨rfl, hfin⟩

theorem chkE_zero {l h : List UInt8} (h0 : Fr.chkE l h = 0) : Fr.chk l = 0 ∧ Fr.chk h = 0 ∧ ¬ Fr.rat h < Fr.rat l := by
  unfold Fr.chkE at h0
  by_cases h1 : Fr.chk l = 0
  · rw [if_neg (by simpa using h1)] at h0
    by_cases h2 : Fr.chk h = 0
    · rw [if_neg (by simpa using h2)] at h0
      by_cases h3 : Fr.rat h < Fr.rat l
      · rw [if_pos h3] at h0; cases h0
      · exact ⟨h1, h2, h3⟩
    · rw [if_pos h2] at h0; exact absurd h0 h2
  · rw [if_pos h1] at h0; exact absurd h0 h1
theorem chkE_same (a : List UInt8) : Fr.chkE a a = Fr.chk a := by
  unfold Fr.chkE
  by_cases h1 : Fr.chk a = 0
  · rw [if_neg (by simpa using h1), if_neg (by simpa using h1), if_neg (by grind), h1]
  · rw [if_pos h1]

set_option maxRecDepth 100000 in
theorem ePoint_any (a : ByteArray) (w : World) (hst : St w) (ha : a.size ≤ 800) :
    Calls Tryz.prog 16 #[.string a] w fun e w' => e = .returned (.tuple #[.agg #[.string (encP a a).1, .string (encP a a).2], .int .i64 (Fr.chk a.data.toList)]) ∧ Below w.heap.size w w' := by
  have CC := fun W (hW : Below w.heap.size w W) => Lib.hid (eOf_any a a W (hst.next hW) ha ha)
  have hB0 : Below w.heap.size w (w.alloc (.cells #[.string ⟨#[]⟩, .string ⟨#[]⟩] 24)) := (Below.refl _ _).alloc (Nat.le_refl _) _
  have HP := Lib.hid (pair_new w ⟨#[]⟩ ⟨#[]⟩ 24)
  rw [chkE_same] at CC
  generalize encP a a = o at *
  obtain ⟨x, y⟩ := o
  simp only [] at CC
  generalize Fr.chk a.data.toList = c at *
  clear hst
  go_enter Tryz.func16, Tryz.ntmps16
  go_wp2_with fail
  refine ((CC _ hB0).out).mono ?_
  rintro e w1 ⟨rfl, hb1⟩
  obtain ⟨p0, p1, p2, p3, p4⟩ := HP.out.below hb1
  have hB1 := hB0.trans (hb1.mono (by simp))
  clear HP hB0 hb1 CC
  go_wp2
  have hfin := (hB1.setCell (p := ⟨w.heap.size, 0, none⟩) (by simp) (.string x)).setCell (p := ⟨w.heap.size, 1, none⟩) (by simp) (.string y)
  exact bodyPost_ret (v := .tuple #[.agg #[.string x, .string y], .int .i64 c]) (by simp [results, Tryz.results16, go_sem, p1, p2]) rfl ⟨rfl, hfin⟩

end Go.Proofs.YtldclpdmcopgnaaGreatDoor

