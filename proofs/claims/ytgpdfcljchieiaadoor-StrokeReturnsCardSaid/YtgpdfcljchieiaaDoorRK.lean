/- The call of the statement StrokeMoves. -/
import Derived.Test.YtgpdfcljchieiaaDoorRI
namespace Sk
theorem put1_get (E : List Bool) (x : Str) (j : Nat) (hj : j < E.length) : (put1 E x).getD j false = if x.1.toNat = j then x.2 else E.getD j false := by
  unfold put1
  rw [List.getD_eq_getElem?_getD, List.getD_eq_getElem?_getD, List.getElem?_set]
  by_cases h : x.1.toNat = j
  · rw [if_pos h, if_pos h, h, if_pos hj]; rfl
  · rw [if_neg h, if_neg h]
/-- An end behind a step: of the actuators that go, where they go; of the others, as before. -/
theorem aft_get : ∀ {l : List Str} (E : List Bool) (j : Nat), j < E.length → (∀ i, i < l.length → 0 ≤ (l.getD i d0).1) → (∀ i, i + 1 < l.length → (l.getD i d0).1 < (l.getD (i + 1) d0).1) →
    (aft l E).getD j false = if wayV l (j : Int) = 0 then E.getD j false else decide (wayV l (j : Int) = 1)
  | [], E, j, _, _, _ => rfl
  | x :: l, E, j, hj, h0, h1 => by
    have hx0 : 0 ≤ x.1 := h0 0 (by simp)
    have ih := aft_get (l := l) (put1 E x) j (by simpa [put1] using hj) (fun i hi => h0 (i + 1) (by simpa using hi)) (fun i hi => h1 (i + 1) (by simpa using hi))
    have ea : aft (x :: l) E = aft l (put1 E x) := rfl
    have hinc : ∀ i, i < l.length → x.1 < (l.getD i d0).1 := by
      intro i
      induction i with
      | zero => intro hi; exact h1 0 (by simpa using hi)
      | succ i ihh => intro hi; exact Int.lt_trans (ihh (by omega)) (h1 (i + 1) (by simpa using hi))
    rw [ea, ih]
    by_cases hxj : x.1 = (j : Int)
    · have hw : wayV (x :: l) (j : Int) = if x.2 then 1 else -1 := if_pos hxj
      have hw0 : wayV l (j : Int) = 0 := way_no (fun a ha => by have := hinc a ha; omega)
      rw [hw, hw0, if_pos rfl, put1_get E x j hj, if_pos (show x.1.toNat = j by omega)]
      cases x.2 <;> simp
    · have hw : wayV (x :: l) (j : Int) = wayV l (j : Int) := if_neg hxj
      rw [hw, put1_get E x j hj, if_neg (show ¬ x.1.toNat = j by omega)]
/-- A step that fits turns the actuators that go. -/
theorem sui_way {l : List Str} {E : List Bool} {j : Nat} (hs : sui l E = true) : (wayV l (j : Int) = 1 → E.getD j false = false) ∧ (wayV l (j : Int) = -1 → E.getD j false = true) ∧ (wayV l (j : Int) = 0 ∨ wayV l (j : Int) = 1 ∨ wayV l (j : Int) = -1) := by
  have h := sui_iff.1 hs
  clear hs
  induction l with
  | nil => exact ⟨fun h => (by cases h), fun h => (by cases h), Or.inl rfl⟩
  | cons x l ih =>
    have ihh := ih (fun i hi => h (i + 1) (by simpa using hi))
    by_cases hxj : x.1 = (j : Int)
    · have hw : wayV (x :: l) (j : Int) = if x.2 then 1 else -1 := if_pos hxj
      have h0 : sui1 E x = true := h 0 (by simp)
      unfold sui1 at h0
      rw [Bool.and_eq_true] at h0
      have h2 := h0.2
      rw [show x.1.toNat = j by omega] at h2
      rw [hw]
      revert h2
      generalize E.getD j false = b
      cases x.2 <;> cases b <;> simp
    · have hw : wayV (x :: l) (j : Int) = wayV l (j : Int) := if_neg hxj
      rw [hw]; exact ihh
end Sk
namespace Go.Proofs.YtgpdfcljchieiaaDoor
open Go.RowKit
set_option maxHeartbeats 16000000 in
set_option maxRecDepth 100000 in
theorem moves_any (u : Value) (l : List Sk.Str) (n : Int) (ev : Value) (E : List Bool) (w : World) (hst : StQ w) (hu : SeeK w u l) (he : SeeB w ev E) : Calls Tryd.prog 10 #[.agg #[u, .int .i64 n], ev] w fun e w' => e = .returned (.bool true) ∧ Below w.heap.size w w' := by
  have HST := Lib.hid hst
  have HU := Lib.hid hu
  have HE := Lib.hid he
  obtain ⟨ao, cap, rfl, -⟩ := hu
  obtain ⟨eo, ecap, rfl, hecap1, hecap2, hCE⟩ := he
  have HCE := Lib.hid hCE
  have F1 := fun W (h : SeeK W (.slice ao l.length cap) l) (g : SeeB W (.slice eo E.length ecap) E) => Lib.hid (rFew_any (.slice ao l.length cap) (.slice eo E.length ecap) l n E W h g)
  have F2 := fun W (h : SeeK W (.slice ao l.length cap) l) => Lib.hid (rStp_any (.slice ao l.length cap) l n W h)
  obtain ⟨P0, L0, z0⟩ := boxP_new w (.slice ao l.length cap) (.int .i64 n) 39
  have HB0 := Lib.hid L0
  have HX0 := Lib.hid P0
  clear P0 L0 z0 hst hCE
  obtain ⟨x0, x1, x2⟩ := HX0.out
  generalize (decide (l.length ≤ 40) && decide (E.length ≤ 40)) = fw at *
  cases fw
  · clear F2
    go_enter Tryd.func10, Tryd.ntmps10
    go_wp2_with fail
    refine ((F1 _ (HU.out.step HB0.out) (HE.out.step HB0.out)).out).mono ?_
    rintro e w1 ⟨rfl, hb1⟩
    have HB1 := Lib.hid (below_nxt HB0.out hb1)
    have HX1 := Lib.hid (HX0.out.step hb1)
    clear hb1 x0 x1 x2 HX0 HB0
    obtain ⟨x0, x1, x2⟩ := HX1.out
    go_wp2_with fail
    refine (awake_any _ (HST.out.step HB1.out)).mono ?_
    rintro e wz ⟨rfl, hbz⟩
    have HBz := Lib.hid (below_nxt HB1.out hbz)
    clear hbz
    go_wp2
    go_ret
    exact ⟨rfl, HBz.out⟩
  by_cases hch : Sk.chkP l n = 0
  · rw [hch] at F2
    obtain ⟨hR, hn1, hn2⟩ := Sk.chkP_ok hch
    by_cases h6 : 6 < E.length
    · have h6' : decide (6 < (E.length : Int)) = true := decide_eq_true (by omega)
      clear hR hch h6
      go_enter Tryd.func10, Tryd.ntmps10
      go_wp2_with fail
      refine ((F1 _ (HU.out.step HB0.out) (HE.out.step HB0.out)).out).mono ?_
      rintro e w1 ⟨rfl, hb1⟩
      have HB1 := Lib.hid (below_nxt HB0.out hb1)
      have HX1 := Lib.hid (HX0.out.step hb1)
      clear hb1 x0 x1 x2 HX0 HB0
      obtain ⟨x0, x1, x2⟩ := HX1.out
      go_wp2_with fail
      refine ((F2 _ (HU.out.step HB1.out)).out).mono ?_
      rintro e w2 ⟨rfl, hb2⟩
      have HB2 := Lib.hid (below_nxt HB1.out hb2)
      have HX2 := Lib.hid (HX1.out.step hb2)
      clear hb2 x0 x1 x2 HX1 HB1
      obtain ⟨x0, x1, x2⟩ := HX2.out
      go_wp2_with fail
      refine (awake_any _ (HST.out.step HB2.out)).mono ?_
      rintro e wz ⟨rfl, hbz⟩
      have HBz := Lib.hid (below_nxt HB2.out hbz)
      clear hbz
      go_wp2
      go_ret
      exact ⟨rfl, HBz.out⟩
    · have h6' : decide (6 < (E.length : Int)) = false := decide_eq_false (by omega)
      have F3 := fun W (h : SeeK W (.slice ao l.length cap) l) (g : SeeB W (.slice eo E.length ecap) E) => Lib.hid (rSui_any (.slice ao l.length cap) (.slice eo E.length ecap) l n E W h g hR)
      cases hsu : Sk.sui l E <;> rw [hsu] at F3
      · clear hR hch h6 hsu
        go_enter Tryd.func10, Tryd.ntmps10
        go_wp2_with fail
        refine ((F1 _ (HU.out.step HB0.out) (HE.out.step HB0.out)).out).mono ?_
        rintro e w1 ⟨rfl, hb1⟩
        have HB1 := Lib.hid (below_nxt HB0.out hb1)
        have HX1 := Lib.hid (HX0.out.step hb1)
        clear hb1 x0 x1 x2 HX0 HB0
        obtain ⟨x0, x1, x2⟩ := HX1.out
        go_wp2_with fail
        refine ((F2 _ (HU.out.step HB1.out)).out).mono ?_
        rintro e w2 ⟨rfl, hb2⟩
        have HB2 := Lib.hid (below_nxt HB1.out hb2)
        have HX2 := Lib.hid (HX1.out.step hb2)
        clear hb2 x0 x1 x2 HX1 HB1
        obtain ⟨x0, x1, x2⟩ := HX2.out
        go_wp2_with fail
        refine ((F3 _ (HU.out.step HB2.out) (HE.out.step HB2.out)).out).mono ?_
        rintro e w3 ⟨rfl, hb3⟩
        have HB3 := Lib.hid (below_nxt HB2.out hb3)
        have HX3 := Lib.hid (HX2.out.step hb3)
        clear hb3 x0 x1 x2 HX2 HB2
        obtain ⟨x0, x1, x2⟩ := HX3.out
        go_wp2_with fail
        refine (awake_any _ (HST.out.step HB3.out)).mono ?_
        rintro e wz ⟨rfl, hbz⟩
        have HBz := Lib.hid (below_nxt HB3.out hbz)
        clear hbz
        go_wp2
        go_ret
        exact ⟨rfl, HBz.out⟩
      · have hap : Sk.appV l n E = (Sk.aft l E, 0) := by unfold Sk.appV; rw [if_pos hch, if_neg h6, if_pos hsu]
        have C1 : ∀ W, SeeK W (.slice ao l.length cap) l → SeeB W (.slice eo E.length ecap) E → Hid (Calls Tryd.prog 34 #[.agg #[.slice ao l.length cap, .int .i64 n], .slice eo E.length ecap] W fun e w' => ∃ ao cap, e = .returned (.tuple #[.slice ao E.length cap, .int .i64 0]) ∧ SeeB w' (.slice ao E.length cap) (Sk.aft l E) ∧ Below W.heap.size W w') := fun W h g => Lib.hid (by
          have h := sApp_form _ _ l n E W h g
          rw [hap] at h
          unfold AppR at h
          rw [Sk.aft_len] at h
          exact h)
        have CH : ∀ (j : Nat), j < E.length → ∀ W, SeeK W (.slice ao l.length cap) l → Hid (Calls Tryd.prog 19 #[.agg #[.slice ao l.length cap, .int .i64 n], .int .i64 (j : Int)] W fun e w' => e = .returned (.tuple #[.int .i64 (Sk.wayV l (j : Int)), .int .i64 0]) ∧ Below W.heap.size W w') := fun j hj W h => Lib.hid (by
          have h := sHas_any _ l n (j : Int) W h
          have hv : Sk.hasV l n (j : Int) = (Sk.wayV l (j : Int), 0) := by unfold Sk.hasV; rw [if_pos hch, if_pos ((Sk.chkS_eq _).2 (by omega))]
          rw [hv] at h
          exact h)
        have HG := Lib.hid (fun j (hj : j < E.length) => Sk.aft_get E j hj (fun i hi => (hR.act i hi).1) hR.ord)
        have HW := Lib.hid (fun j => Sk.sui_way (j := j) hsu)
        have HMl := Lib.hid (Sk.aft_len l E)
        have hE6 : E.length ≤ 6 := by omega
        clear hR hch h6 hsu hap
        generalize Sk.aft l E = M at *
        have hel : ((M.length : Int) != (E.length : Int)) = false := by rw [HMl.out]; simp
        go_enter Tryd.func10, Tryd.ntmps10
        go_wp2_with fail
        refine ((F1 _ (HU.out.step HB0.out) (HE.out.step HB0.out)).out).mono ?_
        rintro e w1 ⟨rfl, hb1⟩
        have HB1 := Lib.hid (below_nxt HB0.out hb1)
        have HX1 := Lib.hid (HX0.out.step hb1)
        clear hb1 x0 x1 x2 HX0 HB0
        obtain ⟨x0, x1, x2⟩ := HX1.out
        go_wp2_with fail
        refine ((F2 _ (HU.out.step HB1.out)).out).mono ?_
        rintro e w2 ⟨rfl, hb2⟩
        have HB2 := Lib.hid (below_nxt HB1.out hb2)
        have HX2 := Lib.hid (HX1.out.step hb2)
        clear hb2 x0 x1 x2 HX1 HB1
        obtain ⟨x0, x1, x2⟩ := HX2.out
        go_wp2_with fail
        refine ((F3 _ (HU.out.step HB2.out) (HE.out.step HB2.out)).out).mono ?_
        rintro e w3 ⟨rfl, hb3⟩
        have HB3 := Lib.hid (below_nxt HB2.out hb3)
        have HX3 := Lib.hid (HX2.out.step hb3)
        clear hb3 x0 x1 x2 HX2 HB2
        obtain ⟨x0, x1, x2⟩ := HX3.out
        go_wp2_with fail
        refine ((C1 _ (HU.out.step HB3.out) (HE.out.step HB3.out)).out).mono ?_
        rintro e w4 ⟨mo, mcap, rfl, hm4, hb4⟩
        have HB4 := Lib.hid (below_nxt HB3.out hb4)
        have HX4 := Lib.hid (HX3.out.step hb4)
        obtain ⟨mo', mcap', hme, hmc1, hmc2, hCM⟩ := hm4
        obtain ⟨rfl, -, rfl⟩ := Value.slice.inj hme
        have HCM := Lib.hid hCM
        clear hb4 x0 x1 x2 HX3 HB3 C1 F1 F2 F3 hCM
        obtain ⟨x0, x1, x2⟩ := HX4.out
        go_wp2
        clear x0 x1 x2
        go_loopw [49] (fun s49 wr => ∃ i : Nat, i ≤ E.length ∧ s49 = .int .i64 (i : Int) ∧ Hid (Below w4.heap.size w4 wr) ∧ Hid (Below w.heap.size w wr) ∧ Hid (BoxP wr w.heap.size (.slice ao l.length cap) (.int .i64 n))) (fun s49 _ => E.length - (intOf s49).toNat)
        case atStart => exact ⟨0, Nat.zero_le _, rfl, Lib.hid (Below.refl _ _), HB4, HX4⟩
        case round =>
          clear HX4 HB4
          obtain ⟨i, hi, rfl, HBM, HBW, HX⟩ := hrel
          obtain ⟨x0, x1, x2⟩ := HX.out
          by_cases hil : i < E.length
          · obtain ⟨ge, oe, rfl, hge, d1⟩ := HCE.out.at HBW.out hil
            have CHi := fun W (h : SeeK W (.slice ao l.length cap) l) => CH i hil W h
            have hG := HG.out i hil
            obtain ⟨w1', w2', w3'⟩ := HW.out i
            clear HG HW CH
            generalize E.getD i false = b at *
            go_wp2_with fail
            refine ((CHi _ (HU.out.step HBW.out)).out).mono ?_
            rintro e w5 ⟨rfl, hb5⟩
            have HBM5 := Lib.hid (below_nxt HBM.out hb5)
            have HB5 := Lib.hid (below_nxt HBW.out hb5)
            have HX5 := Lib.hid (HX.out.step hb5)
            have him : i < M.length := by rw [HMl.out]; exact hil
            obtain ⟨gm, om, rfl, hgm, c1⟩ := HCM.out.at HBM5.out him
            have himz : (i : Int) < (E.length : Int) := by omega
            clear hb5 CHi x0 x1 x2 HX HBM HBW HCM d1
            generalize M.getD i false = m at *
            generalize Sk.wayV l (i : Int) = wy at *
            rcases w3' with rfl | rfl | rfl
            · rw [if_pos rfl] at hG
              subst hG
              clear w1' w2'
              cases m
              · go_wp2
                exact ⟨⟨i + 1, by omega, by first | rfl | go_num, HBM5, HB5, HX5⟩, by simp [intOf]; omega⟩
              · go_wp2
                exact ⟨⟨i + 1, by omega, by first | rfl | go_num, HBM5, HB5, HX5⟩, by simp [intOf]; omega⟩
            · have hb := w1' rfl
              rw [if_neg (by decide)] at hG
              simp at hG
              subst hG hb
              clear w1' w2'
              go_wp2
              exact ⟨⟨i + 1, by omega, by first | rfl | go_num, HBM5, HB5, HX5⟩, by simp [intOf]; omega⟩
            · have hb := w2' rfl
              rw [if_neg (by decide)] at hG
              simp at hG
              subst hG hb
              clear w1' w2'
              go_wp2
              exact ⟨⟨i + 1, by omega, by first | rfl | go_num, HBM5, HB5, HX5⟩, by simp [intOf]; omega⟩
          · obtain rfl : i = E.length := by omega
            go_wp2_with fail
            refine (awake_any _ (HST.out.step HBW.out)).mono ?_
            rintro e wz ⟨rfl, hbz⟩
            have HBz := Lib.hid (below_nxt HBW.out hbz)
            clear hbz
            go_wp2
            go_ret
            exact ⟨rfl, HBz.out⟩
  · generalize Sk.chkP l n = c at *
    have hcn : (c != 0) = true := by simpa using hch
    clear hch
    go_enter Tryd.func10, Tryd.ntmps10
    go_wp2_with fail
    refine ((F1 _ (HU.out.step HB0.out) (HE.out.step HB0.out)).out).mono ?_
    rintro e w1 ⟨rfl, hb1⟩
    have HB1 := Lib.hid (below_nxt HB0.out hb1)
    have HX1 := Lib.hid (HX0.out.step hb1)
    clear hb1 x0 x1 x2 HX0 HB0
    obtain ⟨x0, x1, x2⟩ := HX1.out
    go_wp2_with fail
    refine ((F2 _ (HU.out.step HB1.out)).out).mono ?_
    rintro e w2 ⟨rfl, hb2⟩
    have HB2 := Lib.hid (below_nxt HB1.out hb2)
    have HX2 := Lib.hid (HX1.out.step hb2)
    clear hb2 x0 x1 x2 HX1 HB1
    obtain ⟨x0, x1, x2⟩ := HX2.out
    go_wp2_with fail
    refine (awake_any _ (HST.out.step HB2.out)).mono ?_
    rintro e wz ⟨rfl, hbz⟩
    have HBz := Lib.hid (below_nxt HB2.out hbz)
    clear hbz
    go_wp2
    go_ret
    exact ⟨rfl, HBz.out⟩
theorem movesC (u : Value) (l : List Sk.Str) (n : Int) (ev : Value) (E : List Bool) (w : World) (hst : StQ w) (hu : SeeK w u l) (he : SeeB w ev E) (_ : ∀ n c, ev = .slice none n c → c = 0) : Calls Tryd.prog 10 #[.agg #[u, .int .i64 n], ev] w fun e w' => e = .returned (.bool true) ∧ Below w.heap.size w w' := moves_any u l n ev E w hst hu he
end Go.Proofs.YtgpdfcljchieiaaDoor
