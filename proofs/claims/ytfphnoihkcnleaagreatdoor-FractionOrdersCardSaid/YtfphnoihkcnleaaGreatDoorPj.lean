/- The contracts of Check, Sign, Neg, Floor and Ceil of package fraction. -/
import Derived.Test.YtfphnoihkcnleaaGreatDoorPi
namespace Go.Proofs.YtfphnoihkcnleaaGreatDoor
open Go.RowKit

theorem RatQ.form {w : World} {x : Value} {q : Rat} {p : Nat} (h : RatQ w x q p) : ∃ b ua ul uc va vl vc, x = .agg #[.bool b, .slice ua ul uc, .slice va vl vc] := by
  obtain ⟨b, m, n, ⟨u, v, rfl, hu, hv⟩, _⟩ := h
  obtain ⟨ua, ul, uc, rfl⟩ := hu.form
  obtain ⟨va, vl, vc, rfl⟩ := hv.form
  exact ⟨b, ua, ul, uc, va, vl, vc, rfl⟩
theorem frac_q {x : Value} {q : Rat} {p : Nat} {w : World} (h : RatQ w x q p) (hp : p ≤ 300) : Calls Tryz.prog 76 #[x] w (OutPost w (Fr.out q)) := by
  obtain ⟨b, m, n, h1, h2, rfl⟩ := h
  exact frac_any x b m n p w h1 h2 hp
theorem opposite_q {x : Value} {q : Rat} {p : Nat} {w : World} (h : RatQ w x q p) : Calls Tryz.prog 75 #[x] w fun e w' => ∃ y, e = .returned y ∧ Below w.heap.size w w' ∧ RatQ w' y (-q) p := by
  obtain ⟨b, m, n, h1, h2, rfl⟩ := h
  exact (opposite_any x b m n p w h1).mono fun e w' ⟨y, r1, r2, r3⟩ => ⟨y, r1, r2, _, _, _, r3, h2, Fr.num_neg b m n⟩
theorem floor_q {x : Value} {q : Rat} {p : Nat} {w : World} (h : RatQ w x q p) (hp : p ≤ 200) : Calls Tryz.prog 78 #[x] w fun e w' => ∃ y, e = .returned y ∧ Below w.heap.size w w' ∧ RatQ w' y ((q.floor : Int) : Rat) (p + 2) := by
  obtain ⟨b, m, n, h1, h2, rfl⟩ := h
  exact (floor_any x b m n p w h1 h2 hp).mono fun e w' ⟨y, r1, r2, r3, _⟩ => ⟨y, r1, r2, r3⟩
theorem sign_q {x : Value} {q : Rat} {p : Nat} {w : World} (h : RatQ w x q p) : Calls Tryz.prog 52 #[x] w fun e w' => e = .returned (.int .i64 (Fr.sgnQ q)) ∧ Below w.heap.size w w' := by
  obtain ⟨b, m, n, h1, h2, rfl⟩ := h
  rw [Fr.sgnQ_num b m n h2]
  exact sign_any x b m n p w h1

set_option maxRecDepth 100000 in
theorem fCheck_any (s : ByteArray) (w : World) (hst : St w) (hs : s.size ≤ 800) :
    Calls Tryz.prog 19 #[.string s] w fun e w' => e = .returned (.int .i64 (Fr.chk s.data.toList)) ∧ Below w.heap.size w w' := by
  by_cases h : Fr.chk s.data.toList = 0
  · have CP := Lib.hid (parse_good s w hst hs h)
    rw [h]
    clear hst h
    go_enter Tryz.func19, Tryz.ntmps19
    go_wp2_with (go_at_call 51; refine (CP.out).mono ?_; rintro e w1 ⟨x, rfl, hb1, hx, _⟩; obtain ⟨xb, xa, xl, xc, ya, yl, yc, rfl⟩ := hx.form)
    go_ret
    exact ⟨rfl, hb1.alloc hb1.size _⟩
  · have CP := Lib.hid (parse_bad s w hst hs h)
    generalize Fr.chk s.data.toList = c at *
    clear hst h
    go_enter Tryz.func19, Tryz.ntmps19
    go_wp2_with (go_at_call 51; refine (CP.out).mono ?_; rintro e w1 ⟨rfl, hb1⟩)
    go_ret
    exact ⟨rfl, hb1.alloc hb1.size _⟩

/-- What a function with one text returns: the error of the text, or a result. -/
def un (s : List UInt8) (o : List UInt8 × Int) : List UInt8 × Int := if Fr.chk s = 0 then o else ([], Fr.chk s)

set_option maxRecDepth 100000 in
set_option maxHeartbeats 1000000 in
theorem fNeg_any (s : ByteArray) (w : World) (hst : St w) (hs : s.size ≤ 800) :
    Calls Tryz.prog 35 #[.string s] w (OutPost w (un s.data.toList (Fr.out (-(Fr.rat s.data.toList))))) := by
  by_cases h : Fr.chk s.data.toList = 0
  · have CP := Lib.hid (parse_good s w hst hs h)
    have HU := Lib.hid (show un s.data.toList (Fr.out (-(Fr.rat s.data.toList))) = Fr.out (-(Fr.rat s.data.toList)) from if_pos h)
    rw [HU.out]
    clear hst h HU
    generalize Fr.rat s.data.toList = q at *
    go_enter Tryz.func35, Tryz.ntmps35
    go_wp2_with (go_at_call 51; refine (CP.out).mono ?_; rintro e w1 ⟨x, rfl, hb1, hx, _⟩; obtain ⟨xb, xa, xl, xc, ya, yl, yc, rfl⟩ := hx.form)
    have hB1 := hb1.alloc hb1.size (.cells #[.bool xb, .slice xa xl xc, .slice ya yl yc] 72)
    have H1 := hx.below ((Below.refl w1.heap.size w1).alloc (Nat.le_refl _) (.cells #[.bool xb, .slice xa xl xc, .slice ya yl yc] 72)) (Nat.le_refl _)
    refine (opposite_q H1).mono ?_
    rintro e w3 ⟨y2, rfl, hb3, H2⟩
    have hB2 := hB1.trans (hb3.mono (by first | exact hB1.size | (simp; have := hb1.size; omega)))
    go_wp2_with fail
    refine (frac_q H2 (by omega)).mono ?_
    rintro e w4 ⟨rfl, hb4⟩
    have hB3 := hB2.trans (hb4.mono (by first | exact hB2.size | (simp; have := hb1.size; omega)))
    go_wp2
    go_ret2
    exact ⟨rfl, hB3⟩
  · have CP := Lib.hid (parse_bad s w hst hs h)
    have HU := Lib.hid (show un s.data.toList (Fr.out (-(Fr.rat s.data.toList))) = ([], Fr.chk s.data.toList) from if_neg h)
    rw [HU.out]
    have hne : (Fr.chk s.data.toList != 0) = true := by simpa using h
    clear hst h HU
    generalize Fr.chk s.data.toList = c at *
    go_enter Tryz.func35, Tryz.ntmps35
    go_wp2_with (go_at_call 51; refine (CP.out).mono ?_; rintro e w1 ⟨rfl, hb1⟩)
    go_ret2
    exact ⟨rfl, hb1.alloc hb1.size _⟩

set_option maxRecDepth 100000 in
set_option maxHeartbeats 1000000 in
theorem fFloor_any (s : ByteArray) (w : World) (hst : St w) (hs : s.size ≤ 800) :
    Calls Tryz.prog 37 #[.string s] w (OutPost w (un s.data.toList (Fr.out (((Fr.rat s.data.toList).floor : Int) : Rat)))) := by
  by_cases h : Fr.chk s.data.toList = 0
  · have CP := Lib.hid (parse_good s w hst hs h)
    have HU := Lib.hid (show un s.data.toList (Fr.out (((Fr.rat s.data.toList).floor : Int) : Rat)) = Fr.out (((Fr.rat s.data.toList).floor : Int) : Rat) from if_pos h)
    rw [HU.out]
    clear hst h HU
    generalize Fr.rat s.data.toList = q at *
    go_enter Tryz.func37, Tryz.ntmps37
    go_wp2_with (go_at_call 51; refine (CP.out).mono ?_; rintro e w1 ⟨x, rfl, hb1, hx, _⟩; obtain ⟨xb, xa, xl, xc, ya, yl, yc, rfl⟩ := hx.form)
    have hB1 := hb1.alloc hb1.size (.cells #[.bool xb, .slice xa xl xc, .slice ya yl yc] 72)
    have H1 := hx.below ((Below.refl w1.heap.size w1).alloc (Nat.le_refl _) (.cells #[.bool xb, .slice xa xl xc, .slice ya yl yc] 72)) (Nat.le_refl _)
    refine (floor_q H1 (by omega)).mono ?_
    rintro e w3 ⟨y2, rfl, hb3, H2⟩
    have hB2 := hB1.trans (hb3.mono (by first | exact hB1.size | (simp; have := hb1.size; omega)))
    go_wp2_with fail
    refine (frac_q H2 (by omega)).mono ?_
    rintro e w4 ⟨rfl, hb4⟩
    have hB3 := hB2.trans (hb4.mono (by first | exact hB2.size | (simp; have := hb1.size; omega)))
    go_wp2
    go_ret2
    exact ⟨rfl, hB3⟩
  · have CP := Lib.hid (parse_bad s w hst hs h)
    have HU := Lib.hid (show un s.data.toList (Fr.out (((Fr.rat s.data.toList).floor : Int) : Rat)) = ([], Fr.chk s.data.toList) from if_neg h)
    rw [HU.out]
    have hne : (Fr.chk s.data.toList != 0) = true := by simpa using h
    clear hst h HU
    generalize Fr.chk s.data.toList = c at *
    go_enter Tryz.func37, Tryz.ntmps37
    go_wp2_with (go_at_call 51; refine (CP.out).mono ?_; rintro e w1 ⟨rfl, hb1⟩)
    go_ret2
    exact ⟨rfl, hb1.alloc hb1.size _⟩

set_option maxRecDepth 100000 in
set_option maxHeartbeats 1000000 in
theorem fCeil_any (s : ByteArray) (w : World) (hst : St w) (hs : s.size ≤ 800) :
    Calls Tryz.prog 39 #[.string s] w (OutPost w (un s.data.toList (Fr.out (-(((-(Fr.rat s.data.toList)).floor : Int) : Rat))))) := by
  by_cases h : Fr.chk s.data.toList = 0
  · have CP := Lib.hid (parse_good s w hst hs h)
    have HU := Lib.hid (show un s.data.toList (Fr.out (-(((-(Fr.rat s.data.toList)).floor : Int) : Rat))) = Fr.out (-(((-(Fr.rat s.data.toList)).floor : Int) : Rat)) from if_pos h)
    rw [HU.out]
    clear hst h HU
    generalize Fr.rat s.data.toList = q at *
    go_enter Tryz.func39, Tryz.ntmps39
    go_wp2_with (go_at_call 51; refine (CP.out).mono ?_; rintro e w1 ⟨x, rfl, hb1, hx, _⟩; obtain ⟨xb, xa, xl, xc, ya, yl, yc, rfl⟩ := hx.form)
    have hB1 := hb1.alloc hb1.size (.cells #[.bool xb, .slice xa xl xc, .slice ya yl yc] 72)
    have H1 := hx.below ((Below.refl w1.heap.size w1).alloc (Nat.le_refl _) (.cells #[.bool xb, .slice xa xl xc, .slice ya yl yc] 72)) (Nat.le_refl _)
    refine (opposite_q H1).mono ?_
    rintro e w3 ⟨y2, rfl, hb3, H2⟩
    have hB2 := hB1.trans (hb3.mono (by first | exact hB1.size | (simp; have := hb1.size; omega)))
    go_wp2_with fail
    refine (floor_q H2 (by omega)).mono ?_
    rintro e w4 ⟨y3, rfl, hb4, H3⟩
    have hB3 := hB2.trans (hb4.mono (by first | exact hB2.size | (simp; have := hb1.size; omega)))
    go_wp2_with fail
    refine (opposite_q H3).mono ?_
    rintro e w5 ⟨y4, rfl, hb5, H4⟩
    have hB4 := hB3.trans (hb5.mono (by first | exact hB3.size | (simp; have := hb1.size; omega)))
    go_wp2_with fail
    refine (frac_q H4 (by omega)).mono ?_
    rintro e w6 ⟨rfl, hb6⟩
    have hB5 := hB4.trans (hb6.mono (by first | exact hB4.size | (simp; have := hb1.size; omega)))
    go_wp2
    go_ret2
    exact ⟨rfl, hB5⟩
  · have CP := Lib.hid (parse_bad s w hst hs h)
    have HU := Lib.hid (show un s.data.toList (Fr.out (-(((-(Fr.rat s.data.toList)).floor : Int) : Rat))) = ([], Fr.chk s.data.toList) from if_neg h)
    rw [HU.out]
    have hne : (Fr.chk s.data.toList != 0) = true := by simpa using h
    clear hst h HU
    generalize Fr.chk s.data.toList = c at *
    go_enter Tryz.func39, Tryz.ntmps39
    go_wp2_with (go_at_call 51; refine (CP.out).mono ?_; rintro e w1 ⟨rfl, hb1⟩)
    go_ret2
    exact ⟨rfl, hb1.alloc hb1.size _⟩

end Go.Proofs.YtfphnoihkcnleaaGreatDoor
