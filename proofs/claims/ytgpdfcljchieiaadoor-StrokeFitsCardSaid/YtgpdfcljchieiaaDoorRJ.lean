/- The call of the statement StrokeFits. -/
import Derived.Test.YtgpdfcljchieiaaDoorRI
namespace Go.Proofs.YtgpdfcljchieiaaDoor
open Go.RowKit
set_option maxHeartbeats 16000000 in
set_option maxRecDepth 100000 in
theorem fits_any (u : Value) (l : List Sk.Str) (n : Int) (ev : Value) (E : List Bool) (w : World) (hst : StQ w) (hu : SeeK w u l) (he : SeeB w ev E) (hnil : ∀ n c, ev = .slice none n c → c = 0) : Calls Tryd.prog 7 #[.agg #[u, .int .i64 n], ev] w fun e w' => e = .returned (.bool true) ∧ Below w.heap.size w w' := by
  have HST := Lib.hid hst
  have HU := Lib.hid hu
  have HE := Lib.hid he
  obtain ⟨ao, cap, rfl, -⟩ := hu
  obtain ⟨eo, ecap, rfl, -⟩ := he
  have F1 := fun W (h : SeeK W (.slice ao l.length cap) l) (g : SeeB W (.slice eo E.length ecap) E) => Lib.hid (rFew_any (.slice ao l.length cap) (.slice eo E.length ecap) l n E W h g)
  have C1 : ∀ W, SeeK W (.slice ao l.length cap) l → SeeB W (.slice eo E.length ecap) E → Hid (Calls Tryd.prog 32 #[.agg #[.slice ao l.length cap, .int .i64 n], .slice eo E.length ecap] W fun e w' => e = .returned (.tuple #[.bool (Sk.fitV l n E).1, .int .i64 (Sk.fitV l n E).2]) ∧ Below W.heap.size W w') := fun W h g => Lib.hid (sFit_any _ _ l n E W h g)
  have C2 : ∀ W, SeeK W (.slice ao l.length cap) l → SeeB W (.slice eo E.length ecap) E → Hid (Calls Tryd.prog 33 #[.agg #[.slice ao l.length cap, .int .i64 n], .slice eo E.length ecap] W fun e w' => e = .returned (.tuple #[.bool (Sk.fitV l n E).1, .int .i64 (Sk.fitV l n E).2]) ∧ Below W.heap.size W w') := fun W h g => Lib.hid (rFit_any _ _ l n E W h g)
  have C3 : ∀ W, SeeK W (.slice ao l.length cap) l → SeeB W (.slice eo E.length ecap) E → Hid (Calls Tryd.prog 34 #[.agg #[.slice ao l.length cap, .int .i64 n], .slice eo E.length ecap] W fun e w' => ∃ ao cap, e = .returned (.tuple #[.slice ao (Sk.appV l n E).1.length cap, .int .i64 (Sk.appV l n E).2]) ∧ SeeB w' (.slice ao (Sk.appV l n E).1.length cap) (Sk.appV l n E).1 ∧ Below W.heap.size W w') := fun W h g => Lib.hid (sApp_form _ _ l n E W h g)
  have C4 : ∀ W, SeeK W (.slice ao l.length cap) l → SeeB W (.slice eo E.length ecap) E → Hid (Calls Tryd.prog 35 #[.agg #[.slice ao l.length cap, .int .i64 n], .slice eo E.length ecap] W fun e w' => ∃ ao cap, e = .returned (.tuple #[.slice ao (Sk.appV l n E).1.length cap, .int .i64 (Sk.appV l n E).2]) ∧ SeeB w' (.slice ao (Sk.appV l n E).1.length cap) (Sk.appV l n E).1 ∧ Below W.heap.size W w') := fun W h g => Lib.hid (rApp_any _ _ l n E W h g hnil)
  have CE := fun W (a b : Value) (M : List Bool) (h : SeeB W a M) (g : SeeB W b M) => Lib.hid (eqB_any a b M M W h g)
  have CEs : ∀ W (a b : Value) (M : List Bool), SeeB W a M → SeeB W b M → Hid (Calls Tryd.prog 36 #[a, b] W fun e w' => e = .returned (.bool true) ∧ Below W.heap.size W w') := fun W a b M h g => Lib.hid (by have := (CE W a b M h g).out; rw [decide_eq_true rfl] at this; exact this)
  obtain ⟨P0, L0, z0⟩ := boxP_new w (.slice ao l.length cap) (.int .i64 n) 39
  have HB0 := Lib.hid L0
  have HX0 := Lib.hid P0
  clear P0 L0 z0 hst hnil CE
  obtain ⟨x0, x1, x2⟩ := HX0.out
  generalize (decide (l.length ≤ 40) && decide (E.length ≤ 40)) = fw at *
  generalize (Sk.fitV l n E).1 = q1 at *
  generalize (Sk.fitV l n E).2 = q2 at *
  generalize (Sk.appV l n E).1 = M at *
  generalize (Sk.appV l n E).2 = q4 at *
  go_enter Tryd.func7, Tryd.ntmps7
  go_wp2_with fail
  refine ((F1 _ (HU.out.step HB0.out) (HE.out.step HB0.out)).out).mono ?_
  rintro e w1 ⟨rfl, hb1⟩
  have HB1 := Lib.hid (below_nxt HB0.out hb1)
  have HX1 := Lib.hid (HX0.out.step hb1)
  clear hb1 x0 x1 x2 HX0 HB0 F1
  obtain ⟨x0, x1, x2⟩ := HX1.out
  cases fw
  · go_wp2_with fail
    refine (awake_any _ (HST.out.step HB1.out)).mono ?_
    rintro e w3 ⟨rfl, hb3⟩
    have HB3 := Lib.hid (below_nxt HB1.out hb3)
    clear hb3
    go_wp2
    go_ret
    exact ⟨rfl, HB3.out⟩
  · go_wp2_with fail
    refine ((C1 _ (HU.out.step HB1.out) (HE.out.step HB1.out)).out).mono ?_
    rintro e w2 ⟨rfl, hb2⟩
    have HB2 := Lib.hid (below_nxt HB1.out hb2)
    have HX2 := Lib.hid (HX1.out.step hb2)
    clear hb2 x0 x1 x2 HX1 HB1 C1
    obtain ⟨x0, x1, x2⟩ := HX2.out
    go_wp2_with fail
    refine ((C2 _ (HU.out.step HB2.out) (HE.out.step HB2.out)).out).mono ?_
    rintro e w3 ⟨rfl, hb3⟩
    have HB3 := Lib.hid (below_nxt HB2.out hb3)
    have HX3 := Lib.hid (HX2.out.step hb3)
    clear hb3 x0 x1 x2 HX2 HB2 C2
    obtain ⟨x0, x1, x2⟩ := HX3.out
    go_wp2_with fail
    refine ((C3 _ (HU.out.step HB3.out) (HE.out.step HB3.out)).out).mono ?_
    rintro e w4 ⟨o1, c1, rfl, hs1, hb4⟩
    have HB4 := Lib.hid (below_nxt HB3.out hb4)
    have HX4 := Lib.hid (HX3.out.step hb4)
    have HS4 := Lib.hid hs1
    clear hb4 hs1 x0 x1 x2 HX3 HB3 C3
    obtain ⟨x0, x1, x2⟩ := HX4.out
    go_wp2_with fail
    refine ((C4 _ (HU.out.step HB4.out) (HE.out.step HB4.out)).out).mono ?_
    rintro e w5 ⟨o2, c2, rfl, hs2, hb5⟩
    have HB5 := Lib.hid (below_nxt HB4.out hb5)
    have HS5 := Lib.hid (HS4.out.step hb5)
    have HT5 := Lib.hid hs2
    clear hb5 hs2 x0 x1 x2 HX4 HB4 HS4 C4
    go_wp2_with fail
    refine ((CEs _ _ _ M HS5.out HT5.out).out).mono ?_
    rintro e w6 ⟨rfl, hb6⟩
    have HB6 := Lib.hid (below_nxt HB5.out hb6)
    clear hb6 HS5 HT5 HB5
    go_wp2_with fail
    refine (awake_any _ (HST.out.step HB6.out)).mono ?_
    rintro e w7 ⟨rfl, hb7⟩
    have HB7 := Lib.hid (below_nxt HB6.out hb7)
    clear hb7
    go_wp2
    go_ret
    exact ⟨rfl, HB7.out⟩
end Go.Proofs.YtgpdfcljchieiaaDoor
