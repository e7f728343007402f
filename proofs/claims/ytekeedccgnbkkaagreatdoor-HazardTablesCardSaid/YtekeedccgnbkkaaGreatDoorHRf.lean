/- The reference of package hazard: Logic. -/
import Derived.Test.YtekeedccgnbkkaaGreatDoorHRe
namespace Go.Proofs.YtekeedccgnbkkaaGreatDoor
open Go.RowKit Go.Shelf

set_option maxHeartbeats 4000000 in
set_option maxRecDepth 100000 in
theorem r8Log_any (n : Int) (l : List (Nat × Nat)) (sv : Value) (a b : Int) (w : World) (hw : Hz.W64 l) (hs : SeesO w sv l) :
    Calls Tryz.prog 12 #[.int .i64 n, sv, .int .i64 a, .int .i64 b] w fun e w' => e = .returned (.tuple #[.bool (Hz.logV n l a b).1, .int .i64 (Hz.logV n l a b).2]) ∧ Below w.heap.size w w' := by
  have CK := Lib.hid (r8Given_any n l sv a b w hw hs)
  have HSE := Lib.hid hs
  by_cases h : Hz.chg n l a b = 0
  · have hv : Hz.logV n l a b = (Hz.logB n.toNat l a.toNat b.toNat, 0) := if_pos h
    rw [hv]
    rw [h] at CK
    obtain ⟨m, x, y, rfl, rfl, rfl, hm, hx, hy, hle, ho⟩ := Hz.chg_ok (fun p hp => (hw p hp).2) h
    simp only [Int.toNat_natCast]
    have hN := Tt.size_le hm
    have CS := fun W h => Lib.hid (rState_any m x y l sv W hm (by omega) (by omega) hw h)
    have CM := fun W h => Lib.hid (r8Made_any m l sv W hm (by omega) hw h)
    have CT := fun W => Lib.hid (rSteady_any m (Hz.made m l) x y W hm (Tt.w64 hm (Hz.made_lt _ _)) (by omega) (by omega))
    have hst := Hz.st_le (Hz.way m x y) l
    rw [Hz.logB_eq hm hx hy ho]
    generalize Hz.stdB m (Hz.made m l) x y = u at *
    generalize Hz.made m l = t at *
    generalize Hz.st (Hz.way m x y) l = r at *
    clear hv h hw hs ho hm hx hy hN hle
    have r012 : r = 0 ∨ r = 1 ∨ r = 2 := by omega
    cases u
    all_goals
      rcases r012 with rfl | rfl | rfl
      all_goals
        go_enter Tryz.func12, Tryz.ntmps12
        go_wp2_with (first
          | (go_at_call 26; (with_reducible refine (CK.out).mono ?_); rintro e w1 ⟨rfl, hb⟩; have HB1 := Lib.hid hb; clear hb)
          | (go_at_call 23; (with_reducible refine ((CM _ (HSE.out.step HB1.out)).out).mono ?_); rintro e w2 ⟨rfl, hb⟩; have HB2 := Lib.hid (below_nxt HB1.out hb); clear hb)
          | (go_at_call 29; (with_reducible refine ((CT _).out).mono ?_); rintro e w3 ⟨rfl, hb⟩; have HB3 := Lib.hid (below_nxt HB2.out hb); clear hb)
          | (go_at_call 27; (with_reducible refine ((CS _ (HSE.out.step HB3.out)).out).mono ?_); rintro e w4 ⟨rfl, hb⟩; have HB4 := Lib.hid (below_nxt HB3.out hb); clear hb))
        first
          | exact bodyPost_ret (v := .tuple #[.bool true, .int .i64 0]) (by simp [results, Tryz.results12, go_sem]) rfl ⟨rfl, HB4.out⟩
          | exact bodyPost_ret (v := .tuple #[.bool false, .int .i64 0]) (by simp [results, Tryz.results12, go_sem]) rfl ⟨rfl, HB4.out⟩
          | exact bodyPost_ret (v := .tuple #[.bool false, .int .i64 0]) (by simp [results, Tryz.results12, go_sem]) rfl ⟨rfl, HB3.out⟩
  · have hv : Hz.logV n l a b = (false, Hz.chg n l a b) := if_neg h
    rw [hv]
    have hne : (Hz.chg n l a b != 0) = true := by simp [h]
    generalize Hz.chg n l a b = k at *
    clear hv h hw hs
    go_enter Tryz.func12, Tryz.ntmps12
    go_wp2_with (go_at_call 26; (with_reducible refine (CK.out).mono ?_); rintro e w1 ⟨rfl, hb⟩; have HB1 := Lib.hid hb; clear hb)
    exact bodyPost_ret (v := .tuple #[.bool false, .int .i64 k]) (by simp [results, Tryz.results12, go_sem]) rfl ⟨rfl, HB1.out⟩
end Go.Proofs.YtekeedccgnbkkaaGreatDoor
