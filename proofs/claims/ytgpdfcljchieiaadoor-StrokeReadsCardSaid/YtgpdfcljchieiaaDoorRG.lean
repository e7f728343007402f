/- The call of the statement StrokeSteps. -/
import Derived.Test.YtgpdfcljchieiaaDoorRF
namespace Go.Proofs.YtgpdfcljchieiaaDoor
open Go.RowKit
set_option maxHeartbeats 16000000 in
set_option maxRecDepth 100000 in
theorem steps_any (u v : Value) (l m : List Sk.Str) (n k t : Int) (w : World) (hst : StQ w) (hu : SeeK w u l) (hv : SeeK w v m) : Calls Tryd.prog 4 #[.agg #[u, .int .i64 n], .agg #[v, .int .i64 k], .int .i64 t] w fun e w' => e = .returned (.bool true) ∧ Below w.heap.size w w' := by
  have HST := Lib.hid hst
  have HU := Lib.hid hu
  have HV := Lib.hid hv
  obtain ⟨ao, cap, rfl, -⟩ := hu
  obtain ⟨bo, bcap, rfl, -⟩ := hv
  have F1 := fun W (h : SeeK W (.slice ao l.length cap) l) => Lib.hid (rFew_any (.slice ao l.length cap) (.slice none 0 0) l n [] W h (SeeB.nil W))
  have F2 := fun W (h : SeeK W (.slice bo m.length bcap) m) => Lib.hid (rFew_any (.slice bo m.length bcap) (.slice none 0 0) m k [] W h (SeeB.nil W))
  obtain ⟨P0, L0, z0⟩ := boxP_new w (.slice ao l.length cap) (.int .i64 n) 39
  obtain ⟨P1, L1, z1⟩ := boxP_new (w.alloc (.cells #[.slice ao l.length cap, .int .i64 n] 39)) (.slice bo m.length bcap) (.int .i64 k) 39
  rw [z0] at P1
  have HB0 := Lib.hid (below_nxt L0 L1)
  have HX0 := Lib.hid (P0.step L1)
  have HY0 := Lib.hid P1
  clear P0 P1 L0 L1 z0 z1 hst
  obtain ⟨x0, x1, x2⟩ := HX0.out
  obtain ⟨y0, y1, y2⟩ := HY0.out
  by_cases hl : l.length ≤ 40
  · by_cases hm : m.length ≤ 40
    · have C1 : ∀ W, SeeK W (.slice ao l.length cap) l → Hid (Calls Tryd.prog 19 #[.agg #[.slice ao l.length cap, .int .i64 n], .int .i64 t] W fun e w' => e = .returned (.tuple #[.int .i64 (Sk.hasV l n t).1, .int .i64 (Sk.hasV l n t).2]) ∧ Below W.heap.size W w') := fun W h => Lib.hid (sHas_any (.slice ao l.length cap) l n t W h)
      have C2 : ∀ W, SeeK W (.slice ao l.length cap) l → Hid (Calls Tryd.prog 20 #[.agg #[.slice ao l.length cap, .int .i64 n], .int .i64 t] W fun e w' => e = .returned (.tuple #[.int .i64 (Sk.hasV l n t).1, .int .i64 (Sk.hasV l n t).2]) ∧ Below W.heap.size W w') := fun W h => Lib.hid (rHas_any (.slice ao l.length cap) l n t W h)
      have K1 := fun W (h : SeeK W (.slice ao l.length cap) l) => Lib.hid (sStp_any (.slice ao l.length cap) l n W h)
      have K2 := fun W (h : SeeK W (.slice ao l.length cap) l) => Lib.hid (rStp_any (.slice ao l.length cap) l n W h)
      have K3 := fun W (h : SeeK W (.slice ao l.length cap) l) (g : SeeK W (.slice bo m.length bcap) m) => Lib.hid (sSame_any (.slice ao l.length cap) (.slice bo m.length bcap) l m n k W h g)
      have K4 := fun W (h : SeeK W (.slice ao l.length cap) l) (g : SeeK W (.slice bo m.length bcap) m) => Lib.hid (rSame_any (.slice ao l.length cap) (.slice bo m.length bcap) l m n k W h g)
      have K5 := fun W (h : SeeK W (.slice ao l.length cap) l) => Lib.hid (sSame_any (.slice ao l.length cap) (.slice ao l.length cap) l l n n W h h)
      rw [show Sk.sameV l n l n = true by unfold Sk.sameV; simp] at K5
      rw [decide_eq_true hl] at F1
      rw [decide_eq_true hm] at F2
      change ∀ W, SeeK W (.slice ao l.length cap) l → Hid (Calls Tryd.prog 18 _ W fun e w' => e = .returned (.bool true) ∧ Below W.heap.size W w') at F1
      change ∀ W, SeeK W (.slice bo m.length bcap) m → Hid (Calls Tryd.prog 18 _ W fun e w' => e = .returned (.bool true) ∧ Below W.heap.size W w') at F2
      generalize (Sk.hasV l n t).1 = qa at *
      generalize (Sk.hasV l n t).2 = qe at *
      generalize Sk.chkP l n = cc at *
      generalize Sk.sameV l n m k = sm at *
      clear hl hm
      go_enter Tryd.func4, Tryd.ntmps4
      go_wp2_with fail
      refine ((F1 _ (HU.out.step HB0.out)).out).mono ?_
      rintro e w1 ⟨rfl, hb1⟩
      have HB1 := Lib.hid (below_nxt HB0.out hb1)
      have HX1 := Lib.hid (HX0.out.step hb1)
      have HY1 := Lib.hid (HY0.out.step hb1)
      clear hb1 x0 x1 x2 y0 y1 y2 HX0 HY0 HB0
      obtain ⟨x0, x1, x2⟩ := HX1.out
      obtain ⟨y0, y1, y2⟩ := HY1.out
      go_wp2_with fail
      refine ((F2 _ (HV.out.step HB1.out)).out).mono ?_
      rintro e w2 ⟨rfl, hb2⟩
      have HB2 := Lib.hid (below_nxt HB1.out hb2)
      have HX2 := Lib.hid (HX1.out.step hb2)
      have HY2 := Lib.hid (HY1.out.step hb2)
      clear hb2 x0 x1 x2 y0 y1 y2 HX1 HY1 HB1
      obtain ⟨x0, x1, x2⟩ := HX2.out
      obtain ⟨y0, y1, y2⟩ := HY2.out
      go_wp2_with fail
      refine ((C1 _ (HU.out.step HB2.out)).out).mono ?_
      rintro e w3 ⟨rfl, hb3⟩
      have HB3 := Lib.hid (below_nxt HB2.out hb3)
      have HX3 := Lib.hid (HX2.out.step hb3)
      have HY3 := Lib.hid (HY2.out.step hb3)
      clear hb3 x0 x1 x2 y0 y1 y2 HX2 HY2 HB2
      obtain ⟨x0, x1, x2⟩ := HX3.out
      obtain ⟨y0, y1, y2⟩ := HY3.out
      go_wp2_with fail
      refine ((C2 _ (HU.out.step HB3.out)).out).mono ?_
      rintro e w4 ⟨rfl, hb4⟩
      have HB4 := Lib.hid (below_nxt HB3.out hb4)
      have HX4 := Lib.hid (HX3.out.step hb4)
      have HY4 := Lib.hid (HY3.out.step hb4)
      clear hb4 x0 x1 x2 y0 y1 y2 HX3 HY3 HB3
      obtain ⟨x0, x1, x2⟩ := HX4.out
      obtain ⟨y0, y1, y2⟩ := HY4.out
      have HB := Lib.hid (below_nxt HB4.out (Below.refl w4.heap.size w4).drew)
      have SG := Lib.hid (HST.out.step HB.out)
      have SU := Lib.hid (HU.out.step HB.out)
      have SV := Lib.hid (HV.out.step HB.out)
      have P := HX4.out.step (Below.refl w4.heap.size w4).drew
      have PA := HY4.out.step (Below.refl w4.heap.size w4).drew
      obtain ⟨-, P1, P2⟩ := id P
      obtain ⟨-, P3, P4⟩ := id PA
      clear HB4 HX4 HY4 x0 x1 x2 y0 y1 y2 C1 C2 F1 F2
      go_wp2
      go_region_held3 (fun W => W.cell? ⟨w.heap.size, 0, none⟩ = some (.slice ao l.length cap) ∧ W.cell? ⟨w.heap.size, 1, none⟩ = some (.int .i64 n) ∧ W.cell? ⟨w.heap.size + 1, 0, none⟩ = some (.slice bo m.length bcap) ∧ W.cell? ⟨w.heap.size + 1, 1, none⟩ = some (.int .i64 k))
        (first | (refine ⟨?_, ?_, ?_, ?_⟩ <;> with_reducible assumption) | (go_split_ands; refine ⟨?_, ?_, ?_, ?_⟩ <;> with_reducible assumption))
        (first
          | (go_at_call 17; (with_reducible refine (awake_any _ SG.out).mono ?_); rintro e wn ⟨rfl, hb⟩; have HBq := Lib.hid (below_nxt HB.out hb); have SGq := Lib.hid (SG.out.step hb); have SUq := Lib.hid (SU.out.step hb); have SVq := Lib.hid (SV.out.step hb); have Pq := P.step hb; have PAq := PA.step hb; clear HB SG SU SV P PA P1 P2 P3 P4; have HB := HBq; have SG := SGq; have SU := SUq; have SV := SVq; have P := Pq; have PA := PAq; clear HBq SGq SUq SVq Pq PAq; clear hb; obtain ⟨-, P1, P2⟩ := id P; obtain ⟨-, P3, P4⟩ := id PA)
          | (go_at_call 21; (with_reducible refine ((K1 _ SU.out).out).mono ?_); rintro e wn ⟨rfl, hb⟩; have HBq := Lib.hid (below_nxt HB.out hb); have SGq := Lib.hid (SG.out.step hb); have SUq := Lib.hid (SU.out.step hb); have SVq := Lib.hid (SV.out.step hb); have Pq := P.step hb; have PAq := PA.step hb; clear HB SG SU SV P PA P1 P2 P3 P4; have HB := HBq; have SG := SGq; have SU := SUq; have SV := SVq; have P := Pq; have PA := PAq; clear HBq SGq SUq SVq Pq PAq; clear hb; obtain ⟨-, P1, P2⟩ := id P; obtain ⟨-, P3, P4⟩ := id PA)
          | (go_at_call 22; (with_reducible refine ((K2 _ SU.out).out).mono ?_); rintro e wn ⟨rfl, hb⟩; have HBq := Lib.hid (below_nxt HB.out hb); have SGq := Lib.hid (SG.out.step hb); have SUq := Lib.hid (SU.out.step hb); have SVq := Lib.hid (SV.out.step hb); have Pq := P.step hb; have PAq := PA.step hb; clear HB SG SU SV P PA P1 P2 P3 P4; have HB := HBq; have SG := SGq; have SU := SUq; have SV := SVq; have P := Pq; have PA := PAq; clear HBq SGq SUq SVq Pq PAq; clear hb; obtain ⟨-, P1, P2⟩ := id P; obtain ⟨-, P3, P4⟩ := id PA)
          | (go_at_call 23; (with_reducible refine ((K3 _ SU.out SV.out).out).mono ?_); rintro e wn ⟨rfl, hb⟩; have HBq := Lib.hid (below_nxt HB.out hb); have SGq := Lib.hid (SG.out.step hb); have SUq := Lib.hid (SU.out.step hb); have SVq := Lib.hid (SV.out.step hb); have Pq := P.step hb; have PAq := PA.step hb; clear HB SG SU SV P PA P1 P2 P3 P4; have HB := HBq; have SG := SGq; have SU := SUq; have SV := SVq; have P := Pq; have PA := PAq; clear HBq SGq SUq SVq Pq PAq; clear hb; obtain ⟨-, P1, P2⟩ := id P; obtain ⟨-, P3, P4⟩ := id PA)
          | (go_at_call 23; (with_reducible refine ((K5 _ SU.out).out).mono ?_); rintro e wn ⟨rfl, hb⟩; have HBq := Lib.hid (below_nxt HB.out hb); have SGq := Lib.hid (SG.out.step hb); have SUq := Lib.hid (SU.out.step hb); have SVq := Lib.hid (SV.out.step hb); have Pq := P.step hb; have PAq := PA.step hb; clear HB SG SU SV P PA P1 P2 P3 P4; have HB := HBq; have SG := SGq; have SU := SUq; have SV := SVq; have P := Pq; have PA := PAq; clear HBq SGq SUq SVq Pq PAq; clear hb; obtain ⟨-, P1, P2⟩ := id P; obtain ⟨-, P3, P4⟩ := id PA)
          | (go_at_call 24; (with_reducible refine ((K4 _ SU.out SV.out).out).mono ?_); rintro e wn ⟨rfl, hb⟩; have HBq := Lib.hid (below_nxt HB.out hb); have SGq := Lib.hid (SG.out.step hb); have SUq := Lib.hid (SU.out.step hb); have SVq := Lib.hid (SV.out.step hb); have Pq := P.step hb; have PAq := PA.step hb; clear HB SG SU SV P PA P1 P2 P3 P4; have HB := HBq; have SG := SGq; have SU := SUq; have SV := SVq; have P := Pq; have PA := PAq; clear HBq SGq SUq SVq Pq PAq; clear hb; obtain ⟨-, P1, P2⟩ := id P; obtain ⟨-, P3, P4⟩ := id PA))
      all_goals (go_wp2; go_ret; exact ⟨rfl, HB.out⟩)
    · rw [decide_eq_true hl] at F1
      rw [decide_eq_false hm] at F2
      change ∀ W, SeeK W (.slice ao l.length cap) l → Hid (Calls Tryd.prog 18 _ W fun e w' => e = .returned (.bool true) ∧ Below W.heap.size W w') at F1
      change ∀ W, SeeK W (.slice bo m.length bcap) m → Hid (Calls Tryd.prog 18 _ W fun e w' => e = .returned (.bool false) ∧ Below W.heap.size W w') at F2
      clear hl hm
      go_enter Tryd.func4, Tryd.ntmps4
      go_wp2_with fail
      refine ((F1 _ (HU.out.step HB0.out)).out).mono ?_
      rintro e w1 ⟨rfl, hb1⟩
      have HB1 := Lib.hid (below_nxt HB0.out hb1)
      have HX1 := Lib.hid (HX0.out.step hb1)
      have HY1 := Lib.hid (HY0.out.step hb1)
      clear hb1 x0 x1 x2 y0 y1 y2 HX0 HY0 HB0
      obtain ⟨x0, x1, x2⟩ := HX1.out
      obtain ⟨y0, y1, y2⟩ := HY1.out
      go_wp2_with fail
      refine ((F2 _ (HV.out.step HB1.out)).out).mono ?_
      rintro e w2 ⟨rfl, hb2⟩
      have HB2 := Lib.hid (below_nxt HB1.out hb2)
      have HX2 := Lib.hid (HX1.out.step hb2)
      have HY2 := Lib.hid (HY1.out.step hb2)
      clear hb2 x0 x1 x2 y0 y1 y2 HX1 HY1 HB1
      obtain ⟨x0, x1, x2⟩ := HX2.out
      obtain ⟨y0, y1, y2⟩ := HY2.out
      go_wp2_with fail
      refine (awake_any _ (HST.out.step HB2.out)).mono ?_
      rintro e w3 ⟨rfl, hb3⟩
      have HB3 := Lib.hid (below_nxt HB2.out hb3)
      clear hb3
      go_wp2
      go_ret
      exact ⟨rfl, HB3.out⟩
  · rw [decide_eq_false hl] at F1
    change ∀ W, SeeK W (.slice ao l.length cap) l → Hid (Calls Tryd.prog 18 _ W fun e w' => e = .returned (.bool false) ∧ Below W.heap.size W w') at F1
    clear hl F2
    go_enter Tryd.func4, Tryd.ntmps4
    go_wp2_with fail
    refine ((F1 _ (HU.out.step HB0.out)).out).mono ?_
    rintro e w1 ⟨rfl, hb1⟩
    have HB1 := Lib.hid (below_nxt HB0.out hb1)
    have HX1 := Lib.hid (HX0.out.step hb1)
    have HY1 := Lib.hid (HY0.out.step hb1)
    clear hb1 x0 x1 x2 y0 y1 y2 HX0 HY0 HB0
    obtain ⟨x0, x1, x2⟩ := HX1.out
    obtain ⟨y0, y1, y2⟩ := HY1.out
    go_wp2_with fail
    refine (awake_any _ (HST.out.step HB1.out)).mono ?_
    rintro e w3 ⟨rfl, hb3⟩
    have HB3 := Lib.hid (below_nxt HB1.out hb3)
    clear hb3
    go_wp2
    go_ret
    exact ⟨rfl, HB3.out⟩
theorem stepsC (u : Value) (l : List Sk.Str) (n : Int) (v : Value) (m : List Sk.Str) (k t : Int) (w : World) (hst : StQ w) (hu : SeeK w u l) (hv : SeeK w v m) : Calls Tryd.prog 4 #[.agg #[u, .int .i64 n], .agg #[v, .int .i64 k], .int .i64 t] w fun e w' => e = .returned (.bool true) ∧ Below w.heap.size w w' := steps_any u v l m n k t w hst hu hv
end Go.Proofs.YtgpdfcljchieiaaDoor
