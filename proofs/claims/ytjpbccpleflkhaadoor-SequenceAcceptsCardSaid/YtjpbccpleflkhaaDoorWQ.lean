/- Accepts of the reference of layer 14; the call of the statement SequenceAccepts. -/
import Derived.Test.YtjpbccpleflkhaaDoorG17
import Derived.Test.YtjpbccpleflkhaaDoorG19
import Derived.Test.YtjpbccpleflkhaaDoorG14
namespace Go.Proofs.YtjpbccpleflkhaaDoor
open Go.RowKit Go.Shelf
attribute [local go_sem] Oper.semAt_some
set_option maxHeartbeats 8000000 in
set_option maxRecDepth 100000 in
theorem rAcc_any (n : Int) (v u : Value) (L : List Sk.Stp) (P : List Sk.Str) (w : World) (hs : SeeT w v L) (hu : SeeK w u P) (hP : P.length ≤ 100000) : Calls Tryd.prog 35 #[.agg #[.int .i64 n, v], u] w fun e w' => e = .returned (.tuple #[.bool (Sq.accV n L P).1, .int .i64 (Sq.accV n L P).2]) ∧ Below w.heap.size w w' := by
  have HS := Lib.hid hs
  have HU := Lib.hid hu
  obtain ⟨uo, ucap, rfl, -⟩ := hu
  obtain ⟨ao, cap, rfl, -⟩ := hs
  have CC := fun V (h : SeeT V (.slice ao L.length cap) L) => Lib.hid (rChk_any n (.slice ao L.length cap) L V h)
  obtain ⟨P0, L0, z0⟩ := boxP_new w (.int .i64 n) (.slice ao L.length cap) 32
  have HL0 := Lib.hid L0
  have HP0 := Lib.hid P0
  obtain ⟨p0, p1, p2⟩ := P0
  clear L0 z0
  by_cases hc : Sq.chk n L = 0
  · have hR := Sq.chk_ok hc
    have hv : Sq.accV n L P = (Sq.acc L P, 0) := by unfold Sq.accV; rw [if_pos hc]
    rw [hv]
    rw [hc] at CC
    have CM := fun V (h : SeeT V (.slice ao L.length cap) L) (h2 : SeeK V (.slice uo P.length ucap) P) => Lib.hid (rTks_any n (.slice ao L.length cap) (.slice uo P.length ucap) L P V h h2 hR hP)
    clear hc hR hv
    generalize Sq.acc L P = q at *
    go_enter Tryd.func35, Tryd.ntmps35
    go_wp2_with fail
    refine ((CC _ (HS.out.step HL0.out)).out).mono ?_
    rintro e w1 ⟨rfl, hb1⟩
    have HB1 := Lib.hid (below_nxt HL0.out hb1)
    have HP1 := Lib.hid (HP0.out.step hb1)
    obtain ⟨q0, q1, q2⟩ := HP1.out
    clear hb1 p0 p1 p2
    go_wp2_with fail
    refine ((CM _ (HS.out.step HB1.out) (HU.out.step HB1.out)).out).mono ?_
    rintro e w2 ⟨rfl, hb2⟩
    have HB2 := Lib.hid (below_nxt HB1.out hb2)
    clear hb2 q0 q1 q2
    go_wp2
    exact bodyPost_ret (v := .tuple #[.bool q, .int .i64 0]) (by simp [results, Tryd.f35, go_sem]) rfl ⟨rfl, HB2.out⟩
  · have hv : Sq.accV n L P = (false, Sq.chk n L) := by unfold Sq.accV; rw [if_neg hc]
    rw [hv]
    have hct : (Sq.chk n L != 0) = true := by simpa using hc
    clear hv hc
    generalize Sq.chk n L = c at *
    go_enter Tryd.func35, Tryd.ntmps35
    go_wp2_with fail
    refine ((CC _ (HS.out.step HL0.out)).out).mono ?_
    rintro e w1 ⟨rfl, hb1⟩
    have HB1 := Lib.hid (below_nxt HL0.out hb1)
    clear hb1 p0 p1 p2
    go_wp2
    exact bodyPost_ret (v := .tuple #[.bool false, .int .i64 c]) (by simp [results, Tryd.f35, go_sem]) rfl ⟨rfl, HB1.out⟩
set_option maxHeartbeats 16000000 in
set_option maxRecDepth 100000 in
theorem accepts14_any (n : Int) (v : Value) (L : List Sk.Stp) (u : Value) (P : List Sk.Str) (w : World) (hst : StQ w) (hs : SeeT w v L) (hu : SeeK w u P) : Calls Tryd.prog 6 #[.agg #[.int .i64 n, v], u] w fun e w' => e = .returned (.bool true) ∧ Below w.heap.size w w' := by
  have HST := Lib.hid hst
  have HS := Lib.hid hs
  have HU := Lib.hid hu
  obtain ⟨ao, cap, rfl, -⟩ := hs
  obtain ⟨uo, ucap, rfl, -, hucz, -⟩ := hu
  have CF := fun V (h : SeeT V (.slice ao L.length cap) L) => Lib.hid (rFew14_any n (.slice ao L.length cap) L V h)
  obtain ⟨P0, L0, z0⟩ := boxP_new w (.int .i64 n) (.slice ao L.length cap) 32
  have HL0 := Lib.hid L0
  have HP0 := Lib.hid P0
  obtain ⟨p0, p1, p2⟩ := P0
  clear L0 z0 hst
  have hway : Sq.fewV L = false ∨ (Sq.fewV L = true ∧ 1000 < P.length) ∨ (Sq.fewV L = true ∧ P.length ≤ 1000) := by
    cases Sq.fewV L
    · exact .inl rfl
    · by_cases h : P.length ≤ 1000
      · exact .inr (.inr ⟨rfl, h⟩)
      · exact .inr (.inl ⟨rfl, by omega⟩)
  rcases hway with hf | ⟨hf, hlen⟩ | ⟨hf, hlen⟩
  · rw [hf] at CF
    clear hf
    go_enter Tryd.func6, Tryd.ntmps6
    go_wp2_with fail
    refine ((CF _ (HS.out.step HL0.out)).out).mono ?_
    rintro e w1 ⟨rfl, hb1⟩
    have HB1 := Lib.hid (below_nxt HL0.out hb1)
    clear hb1 p0 p1 p2
    go_wp2_with fail
    refine (awake14_any _ (HST.out.step HB1.out)).mono ?_
    rintro e wz ⟨rfl, hbz⟩
    have HBz := Lib.hid (below_nxt HB1.out hbz)
    clear hbz
    go_wp2
    go_ret
    exact ⟨rfl, HBz.out⟩
  · rw [hf] at CF
    clear hf
    have hlz : decide (1000 < (P.length : Int)) = true := decide_eq_true (by omega)
    go_enter Tryd.func6, Tryd.ntmps6
    go_wp2_with fail
    refine ((CF _ (HS.out.step HL0.out)).out).mono ?_
    rintro e w1 ⟨rfl, hb1⟩
    have HB1 := Lib.hid (below_nxt HL0.out hb1)
    clear hb1 p0 p1 p2
    go_wp2_with fail
    refine (awake14_any _ (HST.out.step HB1.out)).mono ?_
    rintro e wz ⟨rfl, hbz⟩
    have HBz := Lib.hid (below_nxt HB1.out hbz)
    clear hbz
    go_wp2
    go_ret
    exact ⟨rfl, HBz.out⟩
  · rw [hf] at CF
    have hlz : decide (1000 < (P.length : Int)) = false := decide_eq_false (by omega)
    obtain ⟨q, e1, hE⟩ : ∃ q e1, Sq.accV n L P = (q, e1) := ⟨_, _, rfl⟩
    have C1 : ∀ V, SeeT V (.slice ao L.length cap) L → SeeK V (.slice uo P.length ucap) P → Hid (Calls Tryd.prog 34 #[.agg #[.int .i64 n, .slice ao L.length cap], .slice uo P.length ucap] V fun e w' => e = .returned (.tuple #[.bool q, .int .i64 e1]) ∧ Below V.heap.size V w') := fun V h h2 => Lib.hid (by have g := qAcc_any n (.slice ao L.length cap) (.slice uo P.length ucap) L P V h h2; rw [hE] at g; exact g)
    have C2 : ∀ V, SeeT V (.slice ao L.length cap) L → SeeK V (.slice uo P.length ucap) P → Hid (Calls Tryd.prog 35 #[.agg #[.int .i64 n, .slice ao L.length cap], .slice uo P.length ucap] V fun e w' => e = .returned (.tuple #[.bool q, .int .i64 e1]) ∧ Below V.heap.size V w') := fun V h h2 => Lib.hid (by have g := rAcc_any n (.slice ao L.length cap) (.slice uo P.length ucap) L P V h h2 (by omega); rw [hE] at g; exact g)
    have hqq : (q == q) = true := by simp
    have hee : (e1 == e1) = true := by simp
    clear hf hE
    go_enter Tryd.func6, Tryd.ntmps6
    go_wp2_with fail
    refine ((CF _ (HS.out.step HL0.out)).out).mono ?_
    rintro e w1 ⟨rfl, hb1⟩
    have HB1 := Lib.hid (below_nxt HL0.out hb1)
    have HP1 := Lib.hid (HP0.out.step hb1)
    clear hb1 p0 p1 p2
    obtain ⟨p0, p1, p2⟩ := HP1.out
    go_wp2_with fail
    refine ((C1 _ (HS.out.step HB1.out) (HU.out.step HB1.out)).out).mono ?_
    rintro e w2 ⟨rfl, hb2⟩
    have HB2 := Lib.hid (below_nxt HB1.out hb2)
    have HP2 := Lib.hid (HP1.out.step hb2)
    clear hb2 p0 p1 p2
    obtain ⟨p0, p1, p2⟩ := HP2.out
    go_wp2_with fail
    refine ((C2 _ (HS.out.step HB2.out) (HU.out.step HB2.out)).out).mono ?_
    rintro e w3 ⟨rfl, hb3⟩
    have HB3 := Lib.hid (below_nxt HB2.out hb3)
    clear hb3 p0 p1 p2
    go_wp2_with fail
    refine (awake14_any _ (HST.out.step HB3.out)).mono ?_
    rintro e wz ⟨rfl, hbz⟩
    have HBz := Lib.hid (below_nxt HB3.out hbz)
    clear hbz
    go_wp2
    go_ret
    exact ⟨rfl, HBz.out⟩
end Go.Proofs.YtjpbccpleflkhaaDoor
