/- The contracts of Add, Sub, Mul, Div, Compare, Whole of package fraction. -/
import Derived.Test.YtfphnoihkcnleaaGreatDoorPl
import Derived.Test.YtfphnoihkcnleaaGreatDoorItoa
namespace Go.Proofs.YtfphnoihkcnleaaGreatDoor
open Go.RowKit

theorem below_more (w : World) (q : Nat) (os : Array Obj) : Below w.heap.size w (Go.Sort.grow (w.drewN q) os) :=
  ⟨rfl, rfl, rfl, by simp [Go.Sort.grow], fun i hi => by
    show ((w.drewN q).heap ++ os)[i]? = _
    rw [Array.getElem?_append_left (by show i < w.heap.size; omega)]
    rfl⟩

/-- The quotient of two numbers, or the error. -/
def divV (p q : Rat) : List UInt8 × Int := if q = 0 then ([], 10) else Fr.out (p / q)
theorem compute_0 (s t : ByteArray) (w : World) (hst : St w) (hs : s.size ≤ 800) (ht : t.size ≤ 800) :
    Calls Tryz.prog 64 #[.int .i64 0, .string s, .string t] w (OutPost w (bi s.data.toList t.data.toList (Fr.out (Fr.rat s.data.toList + Fr.rat t.data.toList)))) := by
  unfold bi
  by_cases h : two s.data.toList t.data.toList = 0
  · rw [if_pos h]
    exact compute_add s t w hst hs ht h
  · rw [if_neg h]
    exact compute_bad _ s t w hst hs ht h
theorem fAdd_any (s t : ByteArray) (w : World) (hst : St w) (hs : s.size ≤ 800) (ht : t.size ≤ 800) :
    Calls Tryz.prog 25 #[.string s, .string t] w (OutPost w (bi s.data.toList t.data.toList (Fr.out (Fr.rat s.data.toList + Fr.rat t.data.toList)))) := by
  have CC := Lib.hid (compute_0 s t w hst hs ht)
  clear hst
  generalize bi s.data.toList t.data.toList (Fr.out (Fr.rat s.data.toList + Fr.rat t.data.toList)) = o at *
  go_enter Tryz.func25, Tryz.ntmps25
  go_wp2_with (go_at_call 64; refine (CC.out).mono ?_; rintro e w1 ⟨rfl, hb1⟩)
  go_ret2
  exact ⟨rfl, hb1⟩
theorem compute_1 (s t : ByteArray) (w : World) (hst : St w) (hs : s.size ≤ 800) (ht : t.size ≤ 800) :
    Calls Tryz.prog 64 #[.int .i64 1, .string s, .string t] w (OutPost w (bi s.data.toList t.data.toList (Fr.out (Fr.rat s.data.toList - Fr.rat t.data.toList)))) := by
  unfold bi
  by_cases h : two s.data.toList t.data.toList = 0
  · rw [if_pos h]
    exact compute_subtract s t w hst hs ht h
  · rw [if_neg h]
    exact compute_bad _ s t w hst hs ht h
theorem fSub_any (s t : ByteArray) (w : World) (hst : St w) (hs : s.size ≤ 800) (ht : t.size ≤ 800) :
    Calls Tryz.prog 27 #[.string s, .string t] w (OutPost w (bi s.data.toList t.data.toList (Fr.out (Fr.rat s.data.toList - Fr.rat t.data.toList)))) := by
  have CC := Lib.hid (compute_1 s t w hst hs ht)
  clear hst
  generalize bi s.data.toList t.data.toList (Fr.out (Fr.rat s.data.toList - Fr.rat t.data.toList)) = o at *
  go_enter Tryz.func27, Tryz.ntmps27
  go_wp2_with (go_at_call 64; refine (CC.out).mono ?_; rintro e w1 ⟨rfl, hb1⟩)
  go_ret2
  exact ⟨rfl, hb1⟩
theorem compute_2 (s t : ByteArray) (w : World) (hst : St w) (hs : s.size ≤ 800) (ht : t.size ≤ 800) :
    Calls Tryz.prog 64 #[.int .i64 2, .string s, .string t] w (OutPost w (bi s.data.toList t.data.toList (Fr.out (Fr.rat s.data.toList * Fr.rat t.data.toList)))) := by
  unfold bi
  by_cases h : two s.data.toList t.data.toList = 0
  · rw [if_pos h]
    exact compute_multiply s t w hst hs ht h
  · rw [if_neg h]
    exact compute_bad _ s t w hst hs ht h
theorem fMul_any (s t : ByteArray) (w : World) (hst : St w) (hs : s.size ≤ 800) (ht : t.size ≤ 800) :
    Calls Tryz.prog 29 #[.string s, .string t] w (OutPost w (bi s.data.toList t.data.toList (Fr.out (Fr.rat s.data.toList * Fr.rat t.data.toList)))) := by
  have CC := Lib.hid (compute_2 s t w hst hs ht)
  clear hst
  generalize bi s.data.toList t.data.toList (Fr.out (Fr.rat s.data.toList * Fr.rat t.data.toList)) = o at *
  go_enter Tryz.func29, Tryz.ntmps29
  go_wp2_with (go_at_call 64; refine (CC.out).mono ?_; rintro e w1 ⟨rfl, hb1⟩)
  go_ret2
  exact ⟨rfl, hb1⟩
theorem compute_3 (s t : ByteArray) (w : World) (hst : St w) (hs : s.size ≤ 800) (ht : t.size ≤ 800) :
    Calls Tryz.prog 64 #[.int .i64 3, .string s, .string t] w (OutPost w (bi s.data.toList t.data.toList (divV (Fr.rat s.data.toList) (Fr.rat t.data.toList)))) := by
  unfold bi
  by_cases h : two s.data.toList t.data.toList = 0
  · rw [if_pos h]
    unfold divV
    by_cases hq : Fr.rat t.data.toList = 0
    · rw [if_pos hq]
      exact compute_zero s t w hst hs ht h hq
    · rw [if_neg hq]
      exact compute_divide s t w hst hs ht h hq
  · rw [if_neg h]
    exact compute_bad _ s t w hst hs ht h
theorem fDiv_any (s t : ByteArray) (w : World) (hst : St w) (hs : s.size ≤ 800) (ht : t.size ≤ 800) :
    Calls Tryz.prog 31 #[.string s, .string t] w (OutPost w (bi s.data.toList t.data.toList (divV (Fr.rat s.data.toList) (Fr.rat t.data.toList)))) := by
  have CC := Lib.hid (compute_3 s t w hst hs ht)
  clear hst
  generalize bi s.data.toList t.data.toList (divV (Fr.rat s.data.toList) (Fr.rat t.data.toList)) = o at *
  go_enter Tryz.func31, Tryz.ntmps31
  go_wp2_with (go_at_call 64; refine (CC.out).mono ?_; rintro e w1 ⟨rfl, hb1⟩)
  go_ret2
  exact ⟨rfl, hb1⟩

set_option maxRecDepth 100000 in
set_option maxHeartbeats 2000000 in
theorem fCompare_any (s t : ByteArray) (w : World) (hst : St w) (hs : s.size ≤ 800) (ht : t.size ≤ 800) :
    Calls Tryz.prog 33 #[.string s, .string t] w fun e w' => e = .returned (.tuple #[.int .i64 (if two s.data.toList t.data.toList = 0 then Fr.cmpQ (Fr.rat s.data.toList) (Fr.rat t.data.toList) else 0), .int .i64 (two s.data.toList t.data.toList)]) ∧ Below w.heap.size w w' := by
  by_cases h : two s.data.toList t.data.toList = 0
  · rw [if_pos h, h]
    obtain ⟨h1, h2⟩ := two_zero h
    have CB := fun W hW => Lib.hid (both_good s t W (hst.next hW) hs ht h1 h2)
    clear hst h h1 h2
    generalize Fr.rat s.data.toList = p at *
    generalize Fr.rat t.data.toList = q at *
    go_enter Tryz.func33, Tryz.ntmps33
    go_wp2_with fail
    refine ((CB _ (by first | exact Below.refl _ _ | exact (Below.refl _ _).alloc (Nat.le_refl _) _ | exact ((Below.refl _ _).alloc (Nat.le_refl _) _).alloc (by simp) _)).out).mono ?_
    rintro e w1 ⟨x, y, rfl, hb1, hx, hy⟩
    obtain ⟨xb, xa, xl, xc, ya, yl, yc, rfl⟩ := hx.form
    obtain ⟨zb, za, zl, zc, ta, tl, tc, rfl⟩ := hy.form
    have hA : Below w1.heap.size w1 ((w1.alloc (.cells #[.bool xb, .slice xa xl xc, .slice ya yl yc] 72)).alloc (.cells #[.bool zb, .slice za zl zc, .slice ta tl tc] 72)) := ((Below.refl _ _).alloc (Nat.le_refl _) _).alloc (by simp) _
    have HX := Lib.hid (hx.below hA (Nat.le_refl _))
    have HY := Lib.hid (hy.below hA (Nat.le_refl _))
    have hB1 := hb1.trans (hA.mono hb1.size)
    clear hx hy hb1 hA
    go_wp2_with fail
    refine (subtract_q HX.out HY.out).mono ?_
    rintro e w3 ⟨v3, rfl, hb3, hv3, _⟩
    have hB2 := hB1.trans (hb3.mono hB1.size)
    go_wp2_with fail
    refine (sign_q hv3).mono ?_
    rintro e w4 ⟨rfl, hb4⟩
    have hB3 := hB2.trans (hb4.mono hB2.size)
    rw [Fr.cmpQ_sub]
    go_wp2
    go_ret2
    exact ⟨rfl, hB3⟩
  · rw [if_neg h]
    have CB := fun W hW => Lib.hid (both_bad s t W (hst.next hW) hs ht h)
    have hne : (two s.data.toList t.data.toList != 0) = true := by simpa using h
    clear hst h
    generalize two s.data.toList t.data.toList = c at *
    go_enter Tryz.func33, Tryz.ntmps33
    go_wp2_with fail
    refine ((CB _ (by first | exact Below.refl _ _ | exact (Below.refl _ _).alloc (Nat.le_refl _) _ | exact ((Below.refl _ _).alloc (Nat.le_refl _) _).alloc (by simp) _)).out).mono ?_
    rintro e w1 ⟨rfl, hb1⟩
    go_wp2
    go_ret2
    exact ⟨rfl, (hb1.alloc hb1.size _).alloc (by simp; have := hb1.size; omega) _⟩

theorem fWhole_any (n : Int) (w : World) (hst : St w) (h0 : -9223372036854775808 ≤ n) (h1 : n ≤ 9223372036854775807) :
    Calls Tryz.prog 23 #[.int .i64 n] w fun e w' => e = .returned (.string ⟨(Fr.itxt n).toArray⟩) ∧ Below w.heap.size w w' := by
  have CI := Lib.hid (Tryz.strconv_Itoa n h0 h1 w hst.pow10)
  rw [Fr.itoa_text] at CI
  clear hst
  generalize Fr.itxt n = l at *
  go_enter Tryz.func23, Tryz.ntmps23
  go_wp2_with (go_at_call 61; refine (CI.out).mono ?_; rintro e w1 ⟨rfl, k, os, hw1⟩; have hb1 : Below w.heap.size w w1 := (by rw [hw1]; exact below_more w k os); clear hw1)
  go_ret
  exact ⟨rfl, hb1⟩

end Go.Proofs.YtfphnoihkcnleaaGreatDoor
