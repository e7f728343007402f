/- The contract of between of package enclosure, with the functions of Add, Sub, Div, Square. -/
import Derived.Test.YtldclpdmcopgnaaGreatDoorEi
namespace Go.Proofs.YtldclpdmcopgnaaGreatDoor
open Go.RowKit

/-- What between returns: both ends, or the first error. -/
def btwP (x y : ByteArray) (c d : Int) : ByteArray × ByteArray := if c = 0 then (if d = 0 then (x, y) else (⟨#[]⟩, ⟨#[]⟩)) else (⟨#[]⟩, ⟨#[]⟩)
def btwE (c d : Int) : Int := if c = 0 then d else c

set_option maxRecDepth 100000 in
set_option maxHeartbeats 1000000 in
theorem betweenAdd_any (cf cg : Array Value) (x y : ByteArray) (c d : Int) (w : World)
    (CF : ∀ W, Below w.heap.size w W → Calls Tryz.prog 64 cf W fun e w' => e = .returned (.tuple #[.string x, .int .i64 c]) ∧ Below W.heap.size W w')
    (CG : ∀ W, Below w.heap.size w W → Calls Tryz.prog 65 cg W fun e w' => e = .returned (.tuple #[.string y, .int .i64 d]) ∧ Below W.heap.size W w') :
    Calls Tryz.prog 63 #[.func (.func 64) #[] cf, .func (.func 65) #[] cg] w fun e w' => e = .returned (.tuple #[.agg #[.string (btwP x y c d).1, .string (btwP x y c d).2], .int .i64 (btwE c d)]) ∧ Below w.heap.size w w' := by
  have hB0 : Below w.heap.size w (w.alloc (.cells #[.string ⟨#[]⟩, .string ⟨#[]⟩] 24)) := (Below.refl _ _).alloc (Nat.le_refl _) _
  have HP := Lib.hid (pair_new w ⟨#[]⟩ ⟨#[]⟩ 24)
  have C1 := Lib.hid CF
  have C2 := Lib.hid CG
  clear CF CG
  unfold btwP btwE
  by_cases hc : c = 0
  · subst hc
    rw [if_pos rfl, if_pos rfl]
    by_cases hd : d = 0
    · subst hd
      rw [if_pos rfl]
      go_enter Tryz.func63, Tryz.ntmps63
      go_wp2_with fail
      refine (C1.out _ hB0).mono ?_
      rintro e w1 ⟨rfl, hb1⟩
      have HP1 := Lib.hid (HP.out.below hb1)
      have hB1 := hB0.trans (hb1.mono (by simp))
      go_wp2_with fail
      refine (C2.out _ hB1).mono ?_
      rintro e w2 ⟨rfl, hb2⟩
      obtain ⟨p0, p1, p2, p3, p4⟩ := HP1.out.below hb2
      have hB2 := hB1.trans (hb2.mono hB1.size)
      clear HP HP1 hB0 hB1 hb1 hb2 C1 C2
      go_wp2
      have hfin := (hB2.setCell (p := ⟨w.heap.size, 0, none⟩) (by simp) (.string x)).setCell (p := ⟨w.heap.size, 1, none⟩) (by simp) (.string y)
      exact bodyPost_ret (v := .tuple #[.agg #[.string x, .string y], .int .i64 0]) (by simp [results, Tryz.results63, go_sem, p1, p2]) rfl ⟨rfl, hfin⟩
    · rw [if_neg hd]
      have hne : (d != 0) = true := by simpa using hd
      clear hd
      go_enter Tryz.func63, Tryz.ntmps63
      go_wp2_with fail
      refine (C1.out _ hB0).mono ?_
      rintro e w1 ⟨rfl, hb1⟩
      have HP1 := Lib.hid (HP.out.below hb1)
      have hB1 := hB0.trans (hb1.mono (by simp))
      go_wp2_with fail
      refine (C2.out _ hB1).mono ?_
      rintro e w2 ⟨rfl, hb2⟩
      obtain ⟨p0, p1, p2, p3, p4⟩ := HP1.out.below hb2
      have hB2 := hB1.trans (hb2.mono hB1.size)
      clear HP HP1 hB0 hB1 hb1 hb2 C1 C2
      go_wp2
      have hfin := (hB2.setCell (p := ⟨w.heap.size, 0, none⟩) (by simp) (.string ⟨#[]⟩)).setCell (p := ⟨w.heap.size, 1, none⟩) (by simp) (.string ⟨#[]⟩)
      exact bodyPost_ret (v := .tuple #[.agg #[.string ⟨#[]⟩, .string ⟨#[]⟩], .int .i64 d]) (by simp [results, Tryz.results63, go_sem, p1, p2]) rfl ⟨rfl, hfin⟩
  · rw [if_neg hc, if_neg hc]
    have hne : (c != 0) = true := by simpa using hc
    clear hc
    go_enter Tryz.func63, Tryz.ntmps63
    go_wp2_with fail
    refine (C1.out _ hB0).mono ?_
    rintro e w1 ⟨rfl, hb1⟩
    obtain ⟨p0, p1, p2, p3, p4⟩ := HP.out.below hb1
    have hB1 := hB0.trans (hb1.mono (by simp))
    clear HP hB0 hb1 C1 C2
    go_wp2
    have hfin := (hB1.setCell (p := ⟨w.heap.size, 0, none⟩) (by simp) (.string ⟨#[]⟩)).setCell (p := ⟨w.heap.size, 1, none⟩) (by simp) (.string ⟨#[]⟩)
    exact bodyPost_ret (v := .tuple #[.agg #[.string ⟨#[]⟩, .string ⟨#[]⟩], .int .i64 c]) (by simp [results, Tryz.results63, go_sem, p1, p2]) rfl ⟨rfl, hfin⟩

set_option maxRecDepth 100000 in
set_option maxHeartbeats 1000000 in
theorem betweenSub_any (cf cg : Array Value) (x y : ByteArray) (c d : Int) (w : World)
    (CF : ∀ W, Below w.heap.size w W → Calls Tryz.prog 68 cf W fun e w' => e = .returned (.tuple #[.string x, .int .i64 c]) ∧ Below W.heap.size W w')
    (CG : ∀ W, Below w.heap.size w W → Calls Tryz.prog 69 cg W fun e w' => e = .returned (.tuple #[.string y, .int .i64 d]) ∧ Below W.heap.size W w') :
    Calls Tryz.prog 63 #[.func (.func 68) #[] cf, .func (.func 69) #[] cg] w fun e w' => e = .returned (.tuple #[.agg #[.string (btwP x y c d).1, .string (btwP x y c d).2], .int .i64 (btwE c d)]) ∧ Below w.heap.size w w' := by
  have hB0 : Below w.heap.size w (w.alloc (.cells #[.string ⟨#[]⟩, .string ⟨#[]⟩] 24)) := (Below.refl _ _).alloc (Nat.le_refl _) _
  have HP := Lib.hid (pair_new w ⟨#[]⟩ ⟨#[]⟩ 24)
  have C1 := Lib.hid CF
  have C2 := Lib.hid CG
  clear CF CG
  unfold btwP btwE
  by_cases hc : c = 0
  · subst hc
    rw [if_pos rfl, if_pos rfl]
    by_cases hd : d = 0
    · subst hd
      rw [if_pos rfl]
      go_enter Tryz.func63, Tryz.ntmps63
      go_wp2_with fail
      refine (C1.out _ hB0).mono ?_
      rintro e w1 ⟨rfl, hb1⟩
      have HP1 := Lib.hid (HP.out.below hb1)
      have hB1 := hB0.trans (hb1.mono (by simp))
      go_wp2_with fail
      refine (C2.out _ hB1).mono ?_
      rintro e w2 ⟨rfl, hb2⟩
      obtain ⟨p0, p1, p2, p3, p4⟩ := HP1.out.below hb2
      have hB2 := hB1.trans (hb2.mono hB1.size)
      clear HP HP1 hB0 hB1 hb1 hb2 C1 C2
      go_wp2
      have hfin := (hB2.setCell (p := ⟨w.heap.size, 0, none⟩) (by simp) (.string x)).setCell (p := ⟨w.heap.size, 1, none⟩) (by simp) (.string y)
      exact bodyPost_ret (v := .tuple #[.agg #[.string x, .string y], .int .i64 0]) (by simp [results, Tryz.results63, go_sem, p1, p2]) rfl ⟨rfl, hfin⟩
    · rw [if_neg hd]
      have hne : (d != 0) = true := by simpa using hd
      clear hd
      go_enter Tryz.func63, Tryz.ntmps63
      go_wp2_with fail
      refine (C1.out _ hB0).mono ?_
      rintro e w1 ⟨rfl, hb1⟩
      have HP1 := Lib.hid (HP.out.below hb1)
      have hB1 := hB0.trans (hb1.mono (by simp))
      go_wp2_with fail
      refine (C2.out _ hB1).mono ?_
      rintro e w2 ⟨rfl, hb2⟩
      obtain ⟨p0, p1, p2, p3, p4⟩ := HP1.out.below hb2
      have hB2 := hB1.trans (hb2.mono hB1.size)
      clear HP HP1 hB0 hB1 hb1 hb2 C1 C2
      go_wp2
      have hfin := (hB2.setCell (p := ⟨w.heap.size, 0, none⟩) (by simp) (.string ⟨#[]⟩)).setCell (p := ⟨w.heap.size, 1, none⟩) (by simp) (.string ⟨#[]⟩)
      exact bodyPost_ret (v := .tuple #[.agg #[.string ⟨#[]⟩, .string ⟨#[]⟩], .int .i64 d]) (by simp [results, Tryz.results63, go_sem, p1, p2]) rfl ⟨rfl, hfin⟩
  · rw [if_neg hc, if_neg hc]
    have hne : (c != 0) = true := by simpa using hc
    clear hc
    go_enter Tryz.func63, Tryz.ntmps63
    go_wp2_with fail
    refine (C1.out _ hB0).mono ?_
    rintro e w1 ⟨rfl, hb1⟩
    obtain ⟨p0, p1, p2, p3, p4⟩ := HP.out.below hb1
    have hB1 := hB0.trans (hb1.mono (by simp))
    clear HP hB0 hb1 C1 C2
    go_wp2
    have hfin := (hB1.setCell (p := ⟨w.heap.size, 0, none⟩) (by simp) (.string ⟨#[]⟩)).setCell (p := ⟨w.heap.size, 1, none⟩) (by simp) (.string ⟨#[]⟩)
    exact bodyPost_ret (v := .tuple #[.agg #[.string ⟨#[]⟩, .string ⟨#[]⟩], .int .i64 c]) (by simp [results, Tryz.results63, go_sem, p1, p2]) rfl ⟨rfl, hfin⟩

set_option maxRecDepth 100000 in
set_option maxHeartbeats 1000000 in
theorem betweenDiv_any (cf cg : Array Value) (x y : ByteArray) (c d : Int) (w : World)
    (CF : ∀ W, Below w.heap.size w W → Calls Tryz.prog 74 cf W fun e w' => e = .returned (.tuple #[.string x, .int .i64 c]) ∧ Below W.heap.size W w')
    (CG : ∀ W, Below w.heap.size w W → Calls Tryz.prog 75 cg W fun e w' => e = .returned (.tuple #[.string y, .int .i64 d]) ∧ Below W.heap.size W w') :
    Calls Tryz.prog 63 #[.func (.func 74) #[] cf, .func (.func 75) #[] cg] w fun e w' => e = .returned (.tuple #[.agg #[.string (btwP x y c d).1, .string (btwP x y c d).2], .int .i64 (btwE c d)]) ∧ Below w.heap.size w w' := by
  have hB0 : Below w.heap.size w (w.alloc (.cells #[.string ⟨#[]⟩, .string ⟨#[]⟩] 24)) := (Below.refl _ _).alloc (Nat.le_refl _) _
  have HP := Lib.hid (pair_new w ⟨#[]⟩ ⟨#[]⟩ 24)
  have C1 := Lib.hid CF
  have C2 := Lib.hid CG
  clear CF CG
  unfold btwP btwE
  by_cases hc : c = 0
  · subst hc
    rw [if_pos rfl, if_pos rfl]
    by_cases hd : d = 0
    · subst hd
      rw [if_pos rfl]
      go_enter Tryz.func63, Tryz.ntmps63
      go_wp2_with fail
      refine (C1.out _ hB0).mono ?_
      rintro e w1 ⟨rfl, hb1⟩
      have HP1 := Lib.hid (HP.out.below hb1)
      have hB1 := hB0.trans (hb1.mono (by simp))
      go_wp2_with fail
      refine (C2.out _ hB1).mono ?_
      rintro e w2 ⟨rfl, hb2⟩
      obtain ⟨p0, p1, p2, p3, p4⟩ := HP1.out.below hb2
      have hB2 := hB1.trans (hb2.mono hB1.size)
      clear HP HP1 hB0 hB1 hb1 hb2 C1 C2
      go_wp2
      have hfin := (hB2.setCell (p := ⟨w.heap.size, 0, none⟩) (by simp) (.string x)).setCell (p := ⟨w.heap.size, 1, none⟩) (by simp) (.string y)
      exact bodyPost_ret (v := .tuple #[.agg #[.string x, .string y], .int .i64 0]) (by simp [results, Tryz.results63, go_sem, p1, p2]) rfl ⟨rfl, hfin⟩
    · rw [if_neg hd]
      have hne : (d != 0) = true := by simpa using hd
      clear hd
      go_enter Tryz.func63, Tryz.ntmps63
      go_wp2_with fail
      refine (C1.out _ hB0).mono ?_
      rintro e w1 ⟨rfl, hb1⟩
      have HP1 := Lib.hid (HP.out.below hb1)
      have hB1 := hB0.trans (hb1.mono (by simp))
      go_wp2_with fail
      refine (C2.out _ hB1).mono ?_
      rintro e w2 ⟨rfl, hb2⟩
      obtain ⟨p0, p1, p2, p3, p4⟩ := HP1.out.below hb2
      have hB2 := hB1.trans (hb2.mono hB1.size)
      clear HP HP1 hB0 hB1 hb1 hb2 C1 C2
      go_wp2
      have hfin := (hB2.setCell (p := ⟨w.heap.size, 0, none⟩) (by simp) (.string ⟨#[]⟩)).setCell (p := ⟨w.heap.size, 1, none⟩) (by simp) (.string ⟨#[]⟩)
      exact bodyPost_ret (v := .tuple #[.agg #[.string ⟨#[]⟩, .string ⟨#[]⟩], .int .i64 d]) (by simp [results, Tryz.results63, go_sem, p1, p2]) rfl ⟨rfl, hfin⟩
  · rw [if_neg hc, if_neg hc]
    have hne : (c != 0) = true := by simpa using hc
    clear hc
    go_enter Tryz.func63, Tryz.ntmps63
    go_wp2_with fail
    refine (C1.out _ hB0).mono ?_
    rintro e w1 ⟨rfl, hb1⟩
    obtain ⟨p0, p1, p2, p3, p4⟩ := HP.out.below hb1
    have hB1 := hB0.trans (hb1.mono (by simp))
    clear HP hB0 hb1 C1 C2
    go_wp2
    have hfin := (hB1.setCell (p := ⟨w.heap.size, 0, none⟩) (by simp) (.string ⟨#[]⟩)).setCell (p := ⟨w.heap.size, 1, none⟩) (by simp) (.string ⟨#[]⟩)
    exact bodyPost_ret (v := .tuple #[.agg #[.string ⟨#[]⟩, .string ⟨#[]⟩], .int .i64 c]) (by simp [results, Tryz.results63, go_sem, p1, p2]) rfl ⟨rfl, hfin⟩

set_option maxRecDepth 100000 in
set_option maxHeartbeats 1000000 in
theorem betweenSquare_any (cf cg : Array Value) (x y : ByteArray) (c d : Int) (w : World)
    (CF : ∀ W, Below w.heap.size w W → Calls Tryz.prog 77 cf W fun e w' => e = .returned (.tuple #[.string x, .int .i64 c]) ∧ Below W.heap.size W w')
    (CG : ∀ W, Below w.heap.size w W → Calls Tryz.prog 78 cg W fun e w' => e = .returned (.tuple #[.string y, .int .i64 d]) ∧ Below W.heap.size W w') :
    Calls Tryz.prog 63 #[.func (.func 77) #[] cf, .func (.func 78) #[] cg] w fun e w' => e = .returned (.tuple #[.agg #[.string (btwP x y c d).1, .string (btwP x y c d).2], .int .i64 (btwE c d)]) ∧ Below w.heap.size w w' := by
  have hB0 : Below w.heap.size w (w.alloc (.cells #[.string ⟨#[]⟩, .string ⟨#[]⟩] 24)) := (Below.refl _ _).alloc (Nat.le_refl _) _
  have HP := Lib.hid (pair_new w ⟨#[]⟩ ⟨#[]⟩ 24)
  have C1 := Lib.hid CF
  have C2 := Lib.hid CG
  clear CF CG
  unfold btwP btwE
  by_cases hc : c = 0
  · subst hc
    rw [if_pos rfl, if_pos rfl]
    by_cases hd : d = 0
    · subst hd
      rw [if_pos rfl]
      go_enter Tryz.func63, Tryz.ntmps63
      go_wp2_with fail
      refine (C1.out _ hB0).mono ?_
      rintro e w1 ⟨rfl, hb1⟩
      have HP1 := Lib.hid (HP.out.below hb1)
      have hB1 := hB0.trans (hb1.mono (by simp))
      go_wp2_with fail
      refine (C2.out _ hB1).mono ?_
      rintro e w2 ⟨rfl, hb2⟩
      obtain ⟨p0, p1, p2, p3, p4⟩ := HP1.out.below hb2
      have hB2 := hB1.trans (hb2.mono hB1.size)
      clear HP HP1 hB0 hB1 hb1 hb2 C1 C2
      go_wp2
      have hfin := (hB2.setCell (p := ⟨w.heap.size, 0, none⟩) (by simp) (.string x)).setCell (p := ⟨w.heap.size, 1, none⟩) (by simp) (.string y)
      exact bodyPost_ret (v := .tuple #[.agg #[.string x, .string y], .int .i64 0]) (by simp [results, Tryz.results63, go_sem, p1, p2]) rfl ⟨rfl, hfin⟩
    · rw [if_neg hd]
      have hne : (d != 0) = true := by simpa using hd
      clear hd
      go_enter Tryz.func63, Tryz.ntmps63
      go_wp2_with fail
      refine (C1.out _ hB0).mono ?_
      rintro e w1 ⟨rfl, hb1⟩
      have HP1 := Lib.hid (HP.out.below hb1)
      have hB1 := hB0.trans (hb1.mono (by simp))
      go_wp2_with fail
      refine (C2.out _ hB1).mono ?_
      rintro e w2 ⟨rfl, hb2⟩
      obtain ⟨p0, p1, p2, p3, p4⟩ := HP1.out.below hb2
      have hB2 := hB1.trans (hb2.mono hB1.size)
      clear HP HP1 hB0 hB1 hb1 hb2 C1 C2
      go_wp2
      have hfin := (hB2.setCell (p := ⟨w.heap.size, 0, none⟩) (by simp) (.string ⟨#[]⟩)).setCell (p := ⟨w.heap.size, 1, none⟩) (by simp) (.string ⟨#[]⟩)
      exact bodyPost_ret (v := .tuple #[.agg #[.string ⟨#[]⟩, .string ⟨#[]⟩], .int .i64 d]) (by simp [results, Tryz.results63, go_sem, p1, p2]) rfl ⟨rfl, hfin⟩
  · rw [if_neg hc, if_neg hc]
    have hne : (c != 0) = true := by simpa using hc
    clear hc
    go_enter Tryz.func63, Tryz.ntmps63
    go_wp2_with fail
    refine (C1.out _ hB0).mono ?_
    rintro e w1 ⟨rfl, hb1⟩
    obtain ⟨p0, p1, p2, p3, p4⟩ := HP.out.below hb1
    have hB1 := hB0.trans (hb1.mono (by simp))
    clear HP hB0 hb1 C1 C2
    go_wp2
    have hfin := (hB1.setCell (p := ⟨w.heap.size, 0, none⟩) (by simp) (.string ⟨#[]⟩)).setCell (p := ⟨w.heap.size, 1, none⟩) (by simp) (.string ⟨#[]⟩)
    exact bodyPost_ret (v := .tuple #[.agg #[.string ⟨#[]⟩, .string ⟨#[]⟩], .int .i64 c]) (by simp [results, Tryz.results63, go_sem, p1, p2]) rfl ⟨rfl, hfin⟩

end Go.Proofs.YtldclpdmcopgnaaGreatDoor

