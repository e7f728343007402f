/- The contracts of package enclosure: the order of two ends, Check, Of, Point, Contains, Width. -/
import Derived.Test.YtldclpdmcopgnaaGreatDoorPn
namespace Fr
/-- What Check of an enclosure returns. -/
def chkE (l h : List UInt8) : Int := if chk l ≠ 0 then chk l else if chk h ≠ 0 then chk h else if rat h < rat l then 9 else 0
end Fr
namespace Go.Proofs.YtldclpdmcopgnaaGreatDoor
open Go.RowKit

theorem isLess_lit {s t : ByteArray} {b : Bool} (hb : decide (Fr.rat s.data.toList < Fr.rat t.data.toList) = b) (w : World) (hst : St w) (hs : s.size ≤ 800) (ht : t.size ≤ 800) (h1 : Fr.chk s.data.toList = 0) (h2 : Fr.chk t.data.toList = 0) :
    Calls Tryz.prog 53 #[.string s, .string t] w fun e w' => e = .returned (.bool b) ∧ Below w.heap.size w w' := by
  have C := fCompare_any s t w hst hs ht
  have h0 : two s.data.toList t.data.toList = 0 := by unfold two; rw [if_pos h1, h2]
  rw [if_pos h0, h0] at C
  have hc : decide (Fr.cmpQ (Fr.rat s.data.toList) (Fr.rat t.data.toList) < 0) = b := by
    rw [← hb]
    unfold Fr.cmpQ
    by_cases h3 : Fr.rat s.data.toList < Fr.rat t.data.toList
    · simp [h3]
    · by_cases h4 : Fr.rat s.data.toList = Fr.rat t.data.toList <;> simp [h3, h4]
  clear hb h0 h1 h2 hst
  generalize Fr.cmpQ (Fr.rat s.data.toList) (Fr.rat t.data.toList) = c at *
  have C1 := Lib.hid C
  clear C
  cases b with
  | true =>
    have hc' : c < 0 := of_decide_eq_true hc
    clear hc
    go_enter Tryz.func53, Tryz.ntmps53
    go_wp2_with (go_at_call 96; refine (C1.out).mono ?_; rintro e w1 ⟨rfl, hb1⟩)
    go_ret
    exact ⟨by simp, hb1⟩
  | false =>
    have hc' : 0 ≤ c := by have := of_decide_eq_false hc; omega
    clear hc
    go_enter Tryz.func53, Tryz.ntmps53
    go_wp2_with (go_at_call 96; refine (C1.out).mono ?_; rintro e w1 ⟨rfl, hb1⟩)
    go_ret
    exact ⟨by simpa using hc', hb1⟩

theorem below_box {B : Nat} {w w1 : World} {o : Obj} (hB : B ≤ w.heap.size) (h : Below w.heap.size (w.alloc o) w1) : Below B w w1 :=
  ((Below.refl B w).alloc hB _).trans (h.mono hB)

set_option maxRecDepth 100000 in
theorem eCheck_any (l h : ByteArray) (w : World) (hst : St w) (hl : l.size ≤ 800) (hh : h.size ≤ 800) :
    Calls Tryz.prog 20 #[.agg #[.string l, .string h]] w fun e w' => e = .returned (.int .i64 (Fr.chkE l.data.toList h.data.toList)) ∧ Below w.heap.size w w' := by
  have CL := fun W (hW : Below w.heap.size w W) => Lib.hid (fCheck_any l W (hst.next hW) hl)
  have CH := fun W (hW : Below w.heap.size w W) => Lib.hid (fCheck_any h W (hst.next hW) hh)
  have hB0 : Below w.heap.size w (w.alloc (.cells #[.string l, .string h] 24)) := (Below.refl _ _).alloc (Nat.le_refl _) _
  have HF := fun (W : World) (hW : Below (w.alloc (.cells #[.string l, .string h] 24)).heap.size (w.alloc (.cells #[.string l, .string h] 24)) W) =>
    Lib.hid (show W.cell? ⟨w.heap.size, 0, none⟩ = some (.string l) ∧ W.cell? ⟨w.heap.size, 1, none⟩ = some (.string h) from
      ⟨(hW.cell (p := ⟨w.heap.size, 0, none⟩) (by simp)).trans (by simp), (hW.cell (p := ⟨w.heap.size, 1, none⟩) (by simp)).trans (by simp)⟩)
  unfold Fr.chkE
  by_cases h1 : Fr.chk l.data.toList = 0
  · rw [if_neg (by simpa using h1)]
    rw [h1] at CL
    by_cases h2 : Fr.chk h.data.toList = 0
    · rw [if_neg (by simpa using h2)]
      rw [h2] at CH
      by_cases h3 : Fr.rat h.data.toList < Fr.rat l.data.toList
      · rw [if_pos h3]
        have CI := fun W (hW : Below w.heap.size w W) => Lib.hid (isLess_lit (decide_eq_true h3) W (hst.next hW) hh hl h2 h1)
        clear h1 h2 h3 hst
        go_enter Tryz.func20, Tryz.ntmps20
        go_wp2_with fail
        refine ((CL _ hB0).out).mono ?_
        rintro e w1 ⟨rfl, hb1⟩
        obtain ⟨f1, f2⟩ := (HF _ hb1).out
        have hB1 := hB0.trans (hb1.mono hB0.size)
        go_wp2_with fail
        refine ((CH _ hB1).out).mono ?_
        rintro e w2 ⟨rfl, hb2⟩
        have hb12 := hb1.trans (hb2.mono hb1.size)
        obtain ⟨g1, g2⟩ := (HF _ hb12).out
        have hB2 := hB1.trans (hb2.mono hB1.size)
        go_wp2_with fail
        refine ((CI _ hB2).out).mono ?_
        rintro e w3 ⟨rfl, hb3⟩
        go_wp2
        go_ret
        exact ⟨rfl, hB2.trans (hb3.mono hB2.size)⟩
      · rw [if_neg h3]
        have CI := fun W (hW : Below w.heap.size w W) => Lib.hid (isLess_lit (decide_eq_false h3) W (hst.next hW) hh hl h2 h1)
        clear h1 h2 h3 hst
        go_enter Tryz.func20, Tryz.ntmps20
        go_wp2_with fail
        refine ((CL _ hB0).out).mono ?_
        rintro e w1 ⟨rfl, hb1⟩
        obtain ⟨f1, f2⟩ := (HF _ hb1).out
        have hB1 := hB0.trans (hb1.mono hB0.size)
        go_wp2_with fail
        refine ((CH _ hB1).out).mono ?_
        rintro e w2 ⟨rfl, hb2⟩
        have hb12 := hb1.trans (hb2.mono hb1.size)
        obtain ⟨g1, g2⟩ := (HF _ hb12).out
        have hB2 := hB1.trans (hb2.mono hB1.size)
        go_wp2_with fail
        refine ((CI _ hB2).out).mono ?_
        rintro e w3 ⟨rfl, hb3⟩
        go_wp2
        go_ret
        exact ⟨rfl, hB2.trans (hb3.mono hB2.size)⟩
    · rw [if_pos h2]
      have hne : (Fr.chk h.data.toList != 0) = true := by simpa using h2
      clear h1 h2 hst
      generalize Fr.chk h.data.toList = c at *
      go_enter Tryz.func20, Tryz.ntmps20
      go_wp2_with fail
      refine ((CL _ hB0).out).mono ?_
      rintro e w1 ⟨rfl, hb1⟩
      obtain ⟨f1, f2⟩ := (HF _ hb1).out
      have hB1 := hB0.trans (hb1.mono hB0.size)
      go_wp2_with fail
      refine ((CH _ hB1).out).mono ?_
      rintro e w2 ⟨rfl, hb2⟩
      go_wp2
      go_ret
      exact ⟨rfl, hB1.trans (hb2.mono hB1.size)⟩
  · rw [if_pos h1]
    have hne : (Fr.chk l.data.toList != 0) = true := by simpa using h1
    clear h1 CH hst
    generalize Fr.chk l.data.toList = c at *
    go_enter Tryz.func20, Tryz.ntmps20
    go_wp2_with fail
    refine ((CL _ hB0).out).mono ?_
    rintro e w1 ⟨rfl, hb1⟩
    go_wp2
    go_ret
    exact ⟨rfl, hB0.trans (hb1.mono hB0.size)⟩

end Go.Proofs.YtldclpdmcopgnaaGreatDoor

