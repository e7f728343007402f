/- The reference of package hazard: the errors of a change, Table, Between. -/
import Derived.Test.YtekeedccgnbkkaaGreatDoorHRc
namespace Go.Proofs.YtekeedccgnbkkaaGreatDoor
open Go.RowKit Go.Shelf

set_option maxHeartbeats 4000000 in
set_option maxRecDepth 100000 in
theorem r8Given_any (n : Int) (l : List (Nat × Nat)) (sv : Value) (a b : Int) (w : World) (hw : Hz.W64 l) (hs : SeesO w sv l) :
    Calls Tryz.prog 26 #[.int .i64 n, sv, .int .i64 a, .int .i64 b] w fun e w' => e = .returned (.int .i64 (Hz.chg n l a b)) ∧ Below w.heap.size w w' := by
  have CK := Lib.hid (rhCheck_any n l sv w hw hs)
  by_cases hk : Hz.chk n l = 0
  · obtain ⟨m, rfl, hm, -, -⟩ := Hz.chk_ok (fun p hp => (hw p hp).2) hk
    have CS := fun W => Lib.hid (rSize_any m W (by omega) (by omega))
    rw [Int.toNat_natCast] at CS
    have HG : Hid (Hz.chg m l a b = if a < 0 ∨ ((2 ^ m : Nat) : Int) ≤ a ∨ b < 0 ∨ ((2 ^ m : Nat) : Int) ≤ b then 2 else 0) := Lib.hid (by
      unfold Hz.chg
      rw [if_neg (by simp [hk]), Int.toNat_natCast]
      simp)
    rw [hk] at CK
    generalize Hz.chg m l a b = r at *
    generalize ((2 ^ m : Nat) : Int) = N at *
    clear hw hs hk
    go_enter Tryz.func26, Tryz.ntmps26
    go_wp2_with (first | (go_at_call 14; (with_reducible refine (CK.out).mono ?_); rintro e w1 ⟨rfl, hb⟩; have HB := Lib.hid hb; clear hb) | (go_at_call 44; (with_reducible refine ((CS _).out).mono ?_); rintro e w2 ⟨rfl, rfl⟩))
    all_goals first | omega | (go_ret; refine ⟨?_, HB.out⟩; first | (rw [HG.out, if_pos (by omega)]; done) | (rw [HG.out, if_neg (by omega)]; done) | (rw [HG.out, if_pos (by omega)]; rfl) | (rw [HG.out, if_neg (by omega)]; rfl))
  · have HG : Hid (Hz.chg n l a b = Hz.chk n l) := Lib.hid (by unfold Hz.chg; rw [if_pos hk])
    have hne : (Hz.chk n l != 0) = true := by simp [hk]
    rw [HG.out]
    generalize Hz.chk n l = k at *
    clear hw hs HG
    go_enter Tryz.func26, Tryz.ntmps26
    go_wp2_with (go_at_call 14; (with_reducible refine (CK.out).mono ?_); rintro e w1 ⟨rfl, hb⟩; have HB := Lib.hid hb; clear hb)
    exact bodyPost_ret (v := .int .i64 k) (by simp [results, Tryz.results26, go_sem]) rfl ⟨rfl, HB.out⟩

def Hz.tabV (n : Int) (l : List (Nat × Nat)) : (Int × Nat) × Int := if Hz.chk n l = 0 then ((n, Hz.made n.toNat l), 0) else ((0, 0), Hz.chk n l)

set_option maxHeartbeats 4000000 in
set_option maxRecDepth 100000 in
theorem r8Table_any (n : Int) (l : List (Nat × Nat)) (sv : Value) (w : World) (hw : Hz.W64 l) (hs : SeesO w sv l) :
    Calls Tryz.prog 8 #[.int .i64 n, sv] w fun e w' => e = .returned (.tuple #[.agg #[.int .i64 (Hz.tabV n l).1.1, .int .u64 ((Hz.tabV n l).1.2 : Nat)], .int .i64 (Hz.tabV n l).2]) ∧ Below w.heap.size w w' := by
  have CK := fun W h => Lib.hid (rhCheck_any n l sv W hw h)
  have HSE := Lib.hid hs
  obtain ⟨PT, LT, zT⟩ : TabI (w.alloc (.cells #[.int .i64 0, .int .u64 0] 29)) w.heap.size 0 0 ∧ Below w.heap.size w (w.alloc (.cells #[.int .i64 0, .int .u64 0] 29)) ∧ (w.alloc (.cells #[.int .i64 0, .int .u64 0] 29)).heap.size = w.heap.size + 1 := tab1_new w 0 0 29
  have HLT := Lib.hid LT
  clear LT
  by_cases hk : Hz.chk n l = 0
  · have hv : Hz.tabV n l = ((n, Hz.made n.toNat l), 0) := if_pos hk
    rw [hv]
    obtain ⟨m, rfl, hm, hle, -⟩ := Hz.chk_ok (fun p hp => (hw p hp).2) hk
    rw [hk] at CK
    have CM := fun W h => Lib.hid (r8Made_any m l sv W hm (by omega) hw h)
    simp only [Int.toNat_natCast]
    generalize Hz.made m l = t at *
    clear hv hk hw hs
    go_enter Tryz.func8, Tryz.ntmps8
    go_wp2_with (first | (go_at_call 14; (with_reducible refine ((CK _ (HSE.out.step HLT.out)).out).mono ?_); rintro e w1 ⟨rfl, hb⟩; have T1 := PT.step hb; have HB1 := Lib.hid (below_nxt HLT.out hb); clear hb) | (go_at_call 23; (with_reducible refine ((CM _ (HSE.out.step HB1.out)).out).mono ?_); rintro e w2 ⟨rfl, hb⟩; have T2 := T1.step hb; obtain ⟨s0, s1, s2, s3, s4⟩ := id T2; have HB2 := Lib.hid (below_nxt HB1.out hb); clear hb))
    exact bodyPost_ret (v := .tuple #[.agg #[.int .i64 m, .int .u64 t], .int .i64 0]) (by simp [results, Tryz.results8, go_sem, s1, s2]) rfl ⟨rfl, (HB2.out.setCell (p := ⟨w.heap.size + 0, 0, none⟩) (by show _ ≤ w.heap.size + 0; omega) _).setCell (p := ⟨w.heap.size + 0, 1, none⟩) (by show _ ≤ w.heap.size + 0; omega) _⟩
  · have hv : Hz.tabV n l = ((0, 0), Hz.chk n l) := if_neg hk
    rw [hv]
    have hne : (Hz.chk n l != 0) = true := by simp [hk]
    generalize Hz.chk n l = k at *
    clear hv hk hw hs
    go_enter Tryz.func8, Tryz.ntmps8
    go_wp2_with (go_at_call 14; (with_reducible refine ((CK _ (HSE.out.step HLT.out)).out).mono ?_); rintro e w1 ⟨rfl, hb⟩; have T1 := PT.step hb; obtain ⟨s0, s1, s2, s3, s4⟩ := id T1; have HB1 := Lib.hid (below_nxt HLT.out hb); clear hb)
    exact bodyPost_ret (v := .tuple #[.agg #[.int .i64 0, .int .u64 (0 : Nat)], .int .i64 k]) (by simp [results, Tryz.results8, go_sem, s1, s2]) rfl ⟨rfl, (HB1.out.setCell (p := ⟨w.heap.size + 0, 0, none⟩) (by show _ ≤ w.heap.size + 0; omega) _).setCell (p := ⟨w.heap.size + 0, 1, none⟩) (by show _ ≤ w.heap.size + 0; omega) _⟩

set_option maxHeartbeats 4000000 in
set_option maxRecDepth 100000 in
theorem r8Bet_any (n : Int) (l : List (Nat × Nat)) (sv : Value) (a b : Int) (w : World) (hw : Hz.W64 l) (hs : SeesO w sv l) :
    Calls Tryz.prog 10 #[.int .i64 n, sv, .int .i64 a, .int .i64 b] w fun e w' => e = .returned (.tuple #[.int .i64 ((Hz.betV n l a b).1 : Nat), .int .i64 (Hz.betV n l a b).2]) ∧ Below w.heap.size w w' := by
  have CK := Lib.hid (r8Given_any n l sv a b w hw hs)
  have HSE := Lib.hid hs
  by_cases h : Hz.chg n l a b = 0
  · have hv : Hz.betV n l a b = (Hz.sm n.toNat a.toNat b.toNat l, 0) := if_pos h
    rw [hv]
    rw [h] at CK
    obtain ⟨m, x, y, rfl, rfl, rfl, hm, hx, hy, -, ho⟩ := Hz.chg_ok (fun p hp => (hw p hp).2) h
    simp only [Int.toNat_natCast]
    have hN := Tt.size_le hm
    have CS := fun W h => Lib.hid (rState_any m x y l sv W hm (by omega) (by omega) hw h)
    rw [Hz.sm_st hm hx hy ho]
    generalize Hz.st (Hz.way m x y) l = r at *
    clear hv h hw hs ho hm hx hy
    go_enter Tryz.func10, Tryz.ntmps10
    go_wp2_with (first | (go_at_call 26; (with_reducible refine (CK.out).mono ?_); rintro e w1 ⟨rfl, hb⟩; have HB1 := Lib.hid hb; clear hb) | (go_at_call 27; (with_reducible refine ((CS _ (HSE.out.step HB1.out)).out).mono ?_); rintro e w2 ⟨rfl, hb⟩; have HB2 := Lib.hid (below_nxt HB1.out hb); clear hb))
    exact bodyPost_ret (v := .tuple #[.int .i64 r, .int .i64 0]) (by simp [results, Tryz.results10, go_sem]) rfl ⟨rfl, HB2.out⟩
  · have hv : Hz.betV n l a b = (0, Hz.chg n l a b) := if_neg h
    rw [hv]
    have hne : (Hz.chg n l a b != 0) = true := by simp [h]
    generalize Hz.chg n l a b = k at *
    clear hv h hw hs
    go_enter Tryz.func10, Tryz.ntmps10
    go_wp2_with (go_at_call 26; (with_reducible refine (CK.out).mono ?_); rintro e w1 ⟨rfl, hb⟩; have HB1 := Lib.hid hb; clear hb)
    exact bodyPost_ret (v := .tuple #[.int .i64 0, .int .i64 k]) (by simp [results, Tryz.results10, go_sem]) rfl ⟨rfl, HB1.out⟩
end Go.Proofs.YtekeedccgnbkkaaGreatDoor
