/- Behind of the reference of layer 14. The steps of the reference of layer 14. Check of the reference of layer 14. Ends of the reference of layer 14. Steps and Moves of the reference of layer 14. right of the statements of layer 14. -/
import Derived.Test.YtjpbccpleflkhaaDoorG13
import Derived.Test.YtjpbccpleflkhaaDoorG08
import Derived.Test.YtjpbccpleflkhaaDoorG07
import Derived.Test.YtjpbccpleflkhaaDoorG11
namespace Go.Proofs.YtjpbccpleflkhaaDoor
open Go.RowKit Go.Shelf
attribute [local go_sem] Oper.semAt_some
theorem made_bools (n : Nat) : (madeCells (Value.bool false).cells n).toList = (List.replicate n false).map fun b => Value.bool b := by
  rw [List.map_replicate]
  exact toList_madeCells_one _ _
/-- make([]bool, n). -/
theorem wpList_make_bools {P : Program} (w : World) {ops : Array Oper} {rest : List Oper} {o : Oper} {a : Act} {Q : Exit → Act → World → Prop}
    (hg : o.guard = none) (l c : Operand) (t : TypeId) (hop : o.op = Op.makeSlice t l c)
    (e : TypeId) (i : TypeInfo) (h1 : P.underlying t = some (.slice e)) (h2 : P.info? e = some i) (h3 : i.zero = some (.bool false)) (h4 : i.size = 1) (h5 : i.bytes = 1)
    (kl kc : IntKind) (L C : Int) (n : Nat) (hl : a.eval l = .int kl L) (hc : a.eval c = .int kc C) (hL : L = (n : Int)) (hC : C = (n : Int)) (hn : n ≤ 1048576)
    (hK : ∀ w', RowB w.heap.size e w' (.slice (some ⟨w.heap.size, 0, none⟩) n n) (List.replicate n false) → Below w.heap.size w w' → wpList P ops Q rest (a.put o.dst (.slice (some ⟨w.heap.size, 0, none⟩) n n)) w') :
    wpList P ops Q (o :: rest) a w := by
  refine wpList_make_full w hg l c t hop w.heap.size e i (.bool false) 1 h1 h2 h3 h4 kl kc L C n hl hc hL hC ?_ (by unfold maxLen; omega) (Nat.le_refl _) ?_
  · rw [h5]; omega
  · intro w' r1 r2
    refine hK w' ?_ ((Below.refl _ _).grown r2 (Nat.le_refl _) (fun _ h => by cases h))
    unfold RowB
    rw [List.length_replicate]
    rw [Nat.mul_one, made_bools] at r1
    exact r1
/-- Ends that are some are no nil slice. -/
theorem SeeB.some {w : World} {v : Value} {E : List Bool} (h : SeeB w v E) (h0 : 0 < E.length) : ∀ n c, v = .slice none n c → c = 0 := by
  rintro n c rfl
  obtain ⟨ao, cap, he, -, -, hC⟩ := h
  obtain ⟨g, off, ha, -⟩ := hC h0
  rw [ha] at he
  cases he
/-- A step that fits follows. -/
def Fit (n : Nat) (L : List Sk.Stp) (k : Nat) : Prop := ∀ j, j < k → Sk.RtL (L.getD j Sk.t0).1 ∧ Sk.sui (L.getD j Sk.t0).1 (Sq.bh n L j) = true
set_option maxHeartbeats 8000000 in
set_option maxRecDepth 100000 in
theorem rBeh_any (n : Nat) (v : Value) (L : List Sk.Stp) (k : Nat) (w : World) (hs : SeeT w v L) (hn1 : 1 ≤ n) (hn6 : n ≤ 6) (hk : k ≤ L.length) (hf : Fit n L k) : Calls Tryd.prog 44 #[.agg #[.int .i64 (n : Int), v], .int .i64 (k : Int)] w fun e w' => ∃ u, e = .returned u ∧ SeeB w' u (Sq.bh n L k) ∧ Below w.heap.size w w' := by
  obtain ⟨i0, hi0, hz0, hz1, hz2⟩ := info_bool
  have hs0 := hs
  obtain ⟨ao, cap, rfl, hcap1, hcap2, hC⟩ := hs
  have HC := Lib.hid hC
  have HF := Lib.hid hf
  clear hC hf hs0
  have HS := Lib.hid (fun i (h : i < L.length) => Sq.bh_succ n h)
  have HLn := Lib.hid (fun i => Sq.bh_len n L i)
  obtain ⟨P0, L0, z0⟩ := boxP_new w (.int .i64 (n : Int)) (.slice ao L.length cap) 32
  have HL0 := Lib.hid L0
  have HP0 := Lib.hid P0
  obtain ⟨p0, p1, p2⟩ := P0
  clear L0 z0
  go_enter Tryd.func44, Tryd.ntmps44
  go_wp2_with (at_make; refine wpList_make_bools _ rfl _ _ 49 rfl 4 i0 Tryd.underlying49 hi0 hz0 hz1 hz2 _ _ _ _ n rfl rfl rfl rfl (by omega) ?_; intro w1 hr1 hb1; have HP1 := Lib.hid (HP0.out.step hb1); have HB1 := Lib.hid (below_nxt HL0.out hb1); have HS1 := Lib.hid hr1.sees; clear hr1 hb1)
  clear p0 p1 p2
  go_loopw [5, 6] (fun s5 s6 wr => ∃ (i : Nat) (ev : Value), i ≤ k ∧ s6 = .int .i64 (i : Int) ∧ ev = s5 ∧ Hid (SeeB wr ev (Sq.bh n L i)) ∧ Hid (BoxP wr w.heap.size (.int .i64 (n : Int)) (.slice ao L.length cap)) ∧ Hid (Below w.heap.size w wr)) (fun _ s6 _ => k - (intOf s6).toNat)
  case atStart => exact ⟨0, _, Nat.zero_le _, rfl, rfl, Lib.hid (by rw [Sq.bh_zero]; simpa using HS1.out), HP1, HB1⟩
  case round =>
    obtain ⟨i, ev, hi, rfl, rfl, HE, HP, HBW⟩ := hrel
    obtain ⟨p0, p1, p2⟩ := HP.out
    have hwi : IntKind.i64.wrap (i : Int) = (i : Int) := IntWalk.i64_in _ (by omega)
    by_cases hil : i < k
    · have hiL : i < L.length := by omega
      obtain ⟨g, off, ak, ck, rfl, hg, c1, c2, hkk⟩ := (HC.out.step HBW.out).at (Below.refl _ _) hiL
      have HSi := Lib.hid (HS.out i hiL)
      obtain ⟨hR, hsu⟩ := HF.out i hil
      have hEl := HLn.out i
      clear HF HS HC
      generalize L.getD i Sk.t0 = y at *
      obtain ⟨l, m⟩ := y
      simp only at c1 c2 hkk HSi hR hsu
      have HK := Lib.hid hkk
      generalize Sq.bh n L i = E at *
      have CA := fun W (h : SeeK W (.slice ak l.length ck) l) (h2 : SeeB W ev E) => Lib.hid (rAft_any (.slice ak l.length ck) ev l m E W h h2 (SeeB.some h2 (by omega)) hR hsu (by omega))
      clear hkk hR hsu hEl
      go_wp2_with fail
      refine ((CA _ HK.out HE.out).out).mono ?_
      rintro e w2 ⟨u, rfl, hse, hb2⟩
      have HP2 := Lib.hid (HP.out.step hb2)
      have HB2 := Lib.hid (below_nxt HBW.out hb2)
      have HE2 := Lib.hid hse
      clear hb2 hse CA c1 c2 p0 p1 p2
      go_wp2
      exact ⟨⟨i + 1, _, by omega, by first | rfl | go_num, rfl, Lib.hid (by rw [HSi.out]; exact HE2.out), HP2, HB2⟩, by simp [intOf]; omega⟩
    · obtain rfl : i = k := by omega
      go_wp2
      go_ret
      exact ⟨_, rfl, HE.out, HBW.out⟩
end Go.Proofs.YtjpbccpleflkhaaDoor

namespace Sq
open Sk
/-- The error of the steps. -/
def stV (n : Nat) (L : List Stp) : Int := if fe (stE n L) L.length = 0 then (if (bh n L L.length).any id then 9 else 0) else fe (stE n L) L.length
theorem stV_at {n : Nat} {L : List Stp} {i : Nat} (hi : i < L.length) (h : ∀ j, j < i → stE n L j = 0) (h2 : stE n L i ≠ 0) : stV n L = stE n L i := by
  unfold stV; rw [fe_stop h h2 hi, if_neg h2]
theorem stV_no {n : Nat} {L : List Stp} (h : ∀ j, j < L.length → stE n L j = 0) : stV n L = if (bh n L L.length).any id then 9 else 0 := by
  unfold stV; rw [fe_all h, if_pos rfl]
theorem any_at {E : List Bool} {i : Nat} (hi : i < E.length) (h : E.getD i false = true) : E.any id = true := by
  rw [List.any_eq_true]
  refine ⟨E.getD i false, ?_, h⟩
  rw [List.getD_eq_getElem?_getD, List.getElem?_eq_getElem hi]
  exact List.getElem_mem hi
theorem any_no {E : List Bool} (h : ∀ i, i < E.length → E.getD i false = false) : E.any id = false := by
  rw [List.any_eq_false]
  intro x hx
  obtain ⟨i, hi, rfl⟩ := List.mem_iff_getElem.1 hx
  have := h i hi
  rw [List.getD_eq_getElem?_getD, List.getElem?_eq_getElem hi] at this
  simpa using this
end Sq
namespace Go.Proofs.YtjpbccpleflkhaaDoor
open Go.RowKit Go.Shelf
attribute [local go_sem] Oper.semAt_some
set_option maxHeartbeats 4000000 in
set_option maxRecDepth 100000 in
theorem rSts_any (n : Nat) (v : Value) (L : List Sk.Stp) (w : World) (hs : SeeT w v L) (hn1 : 1 ≤ n) (hn6 : n ≤ 6) : Calls Tryd.prog 63 #[.agg #[.int .i64 (n : Int), v]] w fun e w' => e = .returned (.int .i64 (Sq.stV n L)) ∧ Below w.heap.size w w' := by
  obtain ⟨i0, hi0, hz0, hz1, hz2⟩ := info_bool
  obtain ⟨ao, cap, rfl, hcap1, hcap2, hC⟩ := hs
  have HC := Lib.hid hC
  clear hC
  have HS := Lib.hid (fun i (h : i < L.length) => Sq.bh_succ n h)
  have HLn := Lib.hid (fun i => Sq.bh_len n L i)
  have HAt := Lib.hid (fun i (hi : i < L.length) h h2 => Sq.stV_at (n := n) hi h h2)
  have HNo := Lib.hid (fun h => Sq.stV_no (n := n) (L := L) h)
  generalize Sq.stV n L = q at *
  obtain ⟨P0, L0, z0⟩ := boxP_new w (.int .i64 (n : Int)) (.slice ao L.length cap) 32
  have HL0 := Lib.hid L0
  have HP0 := Lib.hid P0
  obtain ⟨p0, p1, p2⟩ := P0
  clear L0 z0
  go_enter Tryd.func63, Tryd.ntmps63
  go_wp2_with (at_make; refine wpList_make_bools _ rfl _ _ 49 rfl 4 i0 Tryd.underlying49 hi0 hz0 hz1 hz2 _ _ _ _ n rfl rfl rfl rfl (by omega) ?_; intro w1 hr1 hb1; have HP1 := Lib.hid (HP0.out.step hb1); have HB1 := Lib.hid (below_nxt HL0.out hb1); have HS1 := Lib.hid hr1.sees; clear hr1 hb1)
  clear p0 p1 p2
  go_loopw [3, 4] (fun s3 s4 wr => ∃ (i : Nat) (ev : Value), i ≤ L.length ∧ s4 = .int .i64 (i : Int) ∧ ev = s3 ∧ Hid (∀ j, j < i → Sq.stE n L j = 0) ∧ Hid (SeeB wr ev (Sq.bh n L i)) ∧ Hid (BoxP wr w.heap.size (.int .i64 (n : Int)) (.slice ao L.length cap)) ∧ Hid (Below w.heap.size w wr)) (fun _ s4 _ => L.length - (intOf s4).toNat)
  case atStart => exact ⟨0, _, Nat.zero_le _, rfl, rfl, Lib.hid (fun j h => by omega), Lib.hid (by rw [Sq.bh_zero]; simpa using HS1.out), HP1, HB1⟩
  case round =>
    obtain ⟨i, ev, hi, rfl, rfl, HJ, HE, HP, HBW⟩ := hrel
    obtain ⟨p0, p1, p2⟩ := HP.out
    have hwi : IntKind.i64.wrap (i : Int) = (i : Int) := IntWalk.i64_in _ (by omega)
    by_cases hil : i < L.length
    · obtain ⟨g, off, ak, ck, rfl, hg, c1, c2, hkk⟩ := (HC.out.step HBW.out).at (Below.refl _ _) hil
      have HSi := Lib.hid (HS.out i hil)
      have hEl := HLn.out i
      have HAi := Lib.hid (HAt.out i hil HJ.out)
      have HJ2 : Hid (Sq.stE n L i = 0 → ∀ j, j < i + 1 → Sq.stE n L j = 0) := Lib.hid (fun h j hj => by
        by_cases e : j = i
        · rw [e]; exact h
        · exact HJ.out j (by omega))
      have HSE : Hid (Sq.stE n L i = if Sk.chkP (L.getD i Sk.t0).1 (L.getD i Sk.t0).2 = 0 then (if Sq.low n (L.getD i Sk.t0).1 then (if Sk.sui (L.getD i Sk.t0).1 (Sq.bh n L i) then 0 else 14) else 6) else Sk.chkP (L.getD i Sk.t0).1 (L.getD i Sk.t0).2) := Lib.hid rfl
      clear HS HC HAt HNo HJ
      generalize Sq.stE n L i = se at *
      generalize L.getD i Sk.t0 = y at *
      obtain ⟨l, m⟩ := y
      simp only at c1 c2 hkk HSi HSE
      generalize Sq.bh n L i = E at *
      have L1 := allocB wr (.cells #[.slice ak l.length ck, .int .i64 m] 70)
      have HK := Lib.hid (hkk.step L1)
      have HE1 := Lib.hid (HE.out.step L1)
      have HP1' := Lib.hid (HP.out.step L1)
      have HB2 := Lib.hid (below_nxt HBW.out L1)
      have HX := Lib.hid (boxP_new wr (.slice ak l.length ck) (.int .i64 m) 70).1
      have CK := fun W (h : SeeK W (.slice ak l.length ck) l) => Lib.hid (rStp_any (.slice ak l.length ck) l m W h)
      obtain ⟨x0, x1, x2⟩ := HX.out
      clear hkk L1 HP1 HB1 HS1
      by_cases hck : Sk.chkP l m = 0
      · rw [hck] at CK
        rw [if_pos hck] at HSE
        have hR := (Sk.chkP_ok hck).1
        have hl6 := hR.le6
        clear hck
        go_wp2_with fail
        refine ((CK _ HK.out).out).mono ?_
        rintro e w5 ⟨rfl, hb5⟩
        have HP5 := Lib.hid (HP1'.out.step hb5)
        have HX5 := Lib.hid (HX.out.step hb5)
        have HK5 := Lib.hid (HK.out.step hb5)
        have HE5 := Lib.hid (HE1.out.step hb5)
        have HB5 := Lib.hid (below_nxt HB2.out hb5)
        clear hb5 CK c1 c2 p0 p1 p2 x0 x1 x2 HK HE1 HP1' HB2 HX HP HE HBW
        obtain ⟨p0, p1, p2⟩ := HP5.out
        obtain ⟨x0, x1, x2⟩ := HX5.out
        go_wp2
        go_loopw [7] (fun s7 wq => ∃ k : Nat, k ≤ l.length ∧ s7 = .int .i64 (k : Int) ∧ Hid (∀ j, j < k → (l.getD j Sk.d0).1 < (n : Int)) ∧ Hid (Below w5.heap.size w5 wq)) (fun s7 _ => l.length - (intOf s7).toNat)
        case atStart => exact ⟨0, Nat.zero_le _, rfl, Lib.hid (fun j h => by omega), Lib.hid (Below.refl _ _)⟩
        case round =>
          clear p0 p1 p2 x0 x1 x2
          obtain ⟨k, hk, rfl, HW, HQ⟩ := hrel
          have hwk : IntKind.i64.wrap (k : Int) = (k : Int) := IntWalk.i64_in _ (by omega)
          obtain ⟨p0, p1, p2⟩ := HP5.out.step HQ.out
          obtain ⟨x0, x1, x2⟩ := HX5.out.step HQ.out
          have HBq := Lib.hid (below_nxt HB5.out HQ.out)
          by_cases hkl : k < l.length
          · obtain ⟨ak', ck', he, -, -, hCK⟩ := HK5.out
            cases he
            obtain ⟨gs, offs, rfl, hgs, d1, d2⟩ := hCK.at HQ.out hkl
            have HLo := Lib.hid (fun h => Sq.low_no (n := n) hkl h)
            have HW2 : Hid ((l.getD k Sk.d0).1 < (n : Int) → ∀ j, j < k + 1 → (l.getD j Sk.d0).1 < (n : Int)) := Lib.hid (fun h j hj => by
              by_cases e : j = k
              · rw [e]; exact h
              · exact HW.out j (by omega))
            clear hCK HW
            generalize l.getD k Sk.d0 = z at *
            obtain ⟨za, zo⟩ := z
            simp only at d1 d2 HLo HW2
            by_cases hz : za < (n : Int)
            · have HW3 := Lib.hid (HW2.out hz)
              clear HW2 HLo HSi HSE HJ2 HAi
              go_wp2
              go_quiet (fail)
              go_wp2
              exact ⟨⟨k + 1, by omega, by first | rfl | go_num, HW3, Lib.hid (HQ.out.trans (below_drewN _ _))⟩, by simp [intOf]; omega⟩
            · have hse : se = 6 := by rw [HSE.out, HLo.out hz]; rfl
              have HQ6 := Lib.hid ((HAi.out (by rw [hse]; decide)).trans hse)
              clear HW2 HLo HSi HSE HJ2 HAi hse
              go_wp2
              go_quiet (fail)
              go_wp2
              go_ret
              exact ⟨(by rw [HQ6.out]; rfl), HBq.out.trans (below_drewN _ _)⟩
          · obtain rfl : k = l.length := by omega
            have hlow : Sq.low n l = true := Sq.low_iff.2 HW.out
            have HSE2 : Hid (se = if Sk.sui l E then 0 else 14) := Lib.hid (by rw [HSE.out, hlow]; rfl)
            have HEq := Lib.hid (HE5.out.step HQ.out)
            have HKq := Lib.hid (HK5.out.step HQ.out)
            have CS := fun W (h : SeeK W (.slice ak l.length ck) l) (h2 : SeeB W ev E) => Lib.hid (rSui_any (.slice ak l.length ck) ev l m E W h h2 hR)
            clear hlow HSE HW
            cases hsu : Sk.sui l E with
            | false =>
              rw [hsu] at CS
              have hse : se = 14 := by rw [HSE2.out, hsu]; rfl
              have HQ6 := Lib.hid ((HAi.out (by rw [hse]; decide)).trans hse)
              clear hse hsu HSE2 HJ2 HAi HSi
              go_wp2_with fail
              refine ((CS _ HKq.out HEq.out).out).mono ?_
              rintro e w6 ⟨rfl, hb6⟩
              have HB6 := Lib.hid (below_nxt HBq.out hb6)
              clear hb6 CS p0 p1 p2 x0 x1 x2
              go_wp2
              go_ret
              exact ⟨(by rw [HQ6.out]; rfl), HB6.out⟩
            | true =>
              rw [hsu] at CS
              have HJ3 := Lib.hid (HJ2.out (by rw [HSE2.out, hsu]; rfl))
              have CA := fun W (h : SeeK W (.slice ak l.length ck) l) (h2 : SeeB W ev E) => Lib.hid (rAft_any (.slice ak l.length ck) ev l m E W h h2 (SeeB.some h2 (by omega)) hR hsu (by omega))
              clear hsu HSE2 HJ2 HAi
              go_wp2_with fail
              refine ((CS _ HKq.out HEq.out).out).mono ?_
              rintro e w6 ⟨rfl, hb6⟩
              have HB6 := Lib.hid (below_nxt HBq.out hb6)
              have HB56 := Lib.hid (below_nxt HQ.out hb6)
              clear hb6 CS p0 p1 p2 x0 x1 x2
              obtain ⟨x0, x1, x2⟩ := HX5.out.step HB56.out
              go_wp2_with fail
              refine ((CA _ (HK5.out.step HB56.out) (HE5.out.step HB56.out)).out).mono ?_
              rintro e w7 ⟨u, rfl, hse, hb7⟩
              have HB7 := Lib.hid (below_nxt HB6.out hb7)
              have HP7 := Lib.hid (HP5.out.step (below_nxt HB56.out hb7))
              have HE7 := Lib.hid hse
              clear hb7 hse CA x0 x1 x2
              go_wp2
              exact ⟨⟨i + 1, _, by omega, by first | rfl | go_num, rfl, HJ3, Lib.hid (by rw [HSi.out]; exact HE7.out), HP7, HB7⟩, by simp [intOf]; omega⟩
      · have hq := HAi.out (by rw [HSE.out, if_neg hck]; exact hck)
        rw [HSE.out, if_neg hck] at hq
        have HQ := Lib.hid hq
        have hct : (Sk.chkP l m != 0) = true := by simpa using hck
        clear hck hq HSE HAi HJ2
        generalize Sk.chkP l m = c at *
        go_wp2_with fail
        refine ((CK _ HK.out).out).mono ?_
        rintro e w5 ⟨rfl, hb5⟩
        have HB5 := Lib.hid (below_nxt HB2.out hb5)
        clear hb5 CK c1 c2 p0 p1 p2 x0 x1 x2
        go_wp2
        go_ret
        exact ⟨(by rw [HQ.out]; rfl), HB5.out⟩
    · obtain rfl : i = L.length := by omega
      clear HP1 HB1 HS1
      have HQ0 := Lib.hid (HNo.out HJ.out)
      have hEl := HLn.out L.length
      clear HS HC HAt HNo HJ HLn
      generalize Sq.bh n L L.length = E at *
      obtain ⟨eo, ec, rfl, he1, he2, hCE⟩ := HE.out
      obtain ⟨ge, oe, rfl, hge, hcell⟩ := hCE (by omega)
      have HCE := Lib.hid hcell
      have HEL := Lib.hid hEl
      clear hCE hcell hEl
      go_wp2
      go_loopw [8] (fun s8 wq => ∃ k : Nat, k ≤ n ∧ s8 = .int .i64 (k : Int) ∧ Hid (∀ j, j < k → E.getD j false = false) ∧ Hid (Below wr.heap.size wr wq)) (fun s8 _ => n - (intOf s8).toNat)
      case atStart => exact ⟨0, Nat.zero_le _, rfl, Lib.hid (fun j h => by omega), Lib.hid (Below.refl _ _)⟩
      case round =>
        clear p0 p1 p2
        obtain ⟨k, hk, rfl, HW, HQ⟩ := hrel
        have hwk : IntKind.i64.wrap (k : Int) = (k : Int) := IntWalk.i64_in _ (by omega)
        obtain ⟨p0, p1, p2⟩ := HP.out.step HQ.out
        have HBq := Lib.hid (below_nxt HBW.out HQ.out)
        by_cases hkn : k < n
        · have hke : k < E.length := by rw [HEL.out]; exact hkn
          have hkz : (k : Int) < (E.length : Int) := by omega
          have d1 := (HQ.out.cell (p := ⟨ge, oe + k, none⟩) hge).trans (HCE.out k hke)
          have HAny := Lib.hid (fun h => Sq.any_at hke h)
          have HW2 : Hid (E.getD k false = false → ∀ j, j < k + 1 → E.getD j false = false) := Lib.hid (fun h j hj => by
            by_cases e : j = k
            · rw [e]; exact h
            · exact HW.out j (by omega))
          clear HW
          generalize E.getD k false = b at *
          cases b
          · have HW3 := Lib.hid (HW2.out rfl)
            clear HW2 HAny
            go_wp2
            exact ⟨⟨k + 1, by omega, by first | rfl | go_num, HW3, HQ⟩, by simp [intOf]; omega⟩
          · have HQ9 := Lib.hid (show q = 9 by rw [HQ0.out, HAny.out rfl]; rfl)
            clear HW2 HAny HQ0
            go_wp2
            go_ret
            exact ⟨(by rw [HQ9.out]; rfl), HBq.out⟩
        · obtain rfl : k = n := by omega
          have HQ9 := Lib.hid (show q = 0 by rw [HQ0.out, Sq.any_no (fun j hj => HW.out j (by rw [← HEL.out]; exact hj))]; rfl)
          clear HQ0
          go_wp2
          go_ret
          exact ⟨(by rw [HQ9.out]; rfl), HBq.out⟩
end Go.Proofs.YtjpbccpleflkhaaDoor

namespace Sq
open Sk
theorem chk_st {n : Nat} {L : List Stp} (h : 1 ≤ n ∧ n ≤ 6) (h0 : L.length ≠ 0) (hl : ¬ 64 < L.length) : chk (n : Int) L = if stV n L = 0 then (if (List.range n).all (mvs L) then 0 else 13) else stV n L := by
  unfold chk
  rw [if_pos (by omega), if_neg h0, if_neg hl, Int.toNat_natCast]
  unfold chk2 chk3 stV
  by_cases h4 : fe (stE n L) L.length = 0
  · rw [if_pos h4, if_pos h4]
    cases h5 : (bh n L L.length).any id <;> simp
  · rw [if_neg h4, if_neg h4, if_neg h4]
theorem mvs_eq (L : List Stp) (a : Nat) : mvsV L (a : Int) = mvs L a := by
  cases h : mvs L a with
  | true =>
    unfold mvs at h
    obtain ⟨x, hx, hw⟩ := List.any_eq_true.1 h
    obtain ⟨i, hi, rfl⟩ := List.mem_iff_getElem.1 hx
    refine mvs_at hi ?_
    rw [List.getD_eq_getElem?_getD, List.getElem?_eq_getElem hi]
    exact of_decide_eq_true hw
  | false =>
    unfold mvs at h
    refine mvs_no fun i hi => ?_
    have h2 := List.any_eq_false.1 h _ (List.getElem_mem hi)
    rw [List.getD_eq_getElem?_getD, List.getElem?_eq_getElem hi]
    exact Decidable.byContradiction fun h3 => h2 (decide_eq_true h3)
end Sq
namespace Go.Proofs.YtjpbccpleflkhaaDoor
open Go.RowKit Go.Shelf
attribute [local go_sem] Oper.semAt_some
set_option maxHeartbeats 4000000 in
set_option maxRecDepth 100000 in
theorem rChk_any (n : Int) (v : Value) (L : List Sk.Stp) (w : World) (hs : SeeT w v L) : Calls Tryd.prog 22 #[.agg #[.int .i64 n, v]] w fun e w' => e = .returned (.int .i64 (Sq.chk n L)) ∧ Below w.heap.size w w' := by
  have HS := Lib.hid hs
  obtain ⟨ao, cap, rfl, hcap1, hcap2, -⟩ := hs
  obtain ⟨P0, L0, z0⟩ := boxP_new w (.int .i64 n) (.slice ao L.length cap) 32
  have HL0 := Lib.hid L0
  have HP0 := Lib.hid P0
  obtain ⟨p0, p1, p2⟩ := P0
  clear L0 z0
  by_cases hr : n < 1 ∨ 6 < n
  · rw [Sq.chk_rng hr]
    rcases (show n < 1 ∨ (1 ≤ n ∧ 6 < n) by omega) with h1 | ⟨h1, h2⟩
    all_goals
      clear hr
      go_enter Tryd.func22, Tryd.ntmps22
      go_wp2
      go_ret
      exact ⟨rfl, HL0.out⟩
  have hn1 : 1 ≤ n := by omega
  have hn6 : n ≤ 6 := by omega
  clear hr
  by_cases hl0 : L.length = 0
  · rw [Sq.chk_emp ⟨hn1, hn6⟩ hl0]
    have h0 : ((L.length : Int) == 0) = true := by simpa using hl0
    clear hl0
    go_enter Tryd.func22, Tryd.ntmps22
    go_wp2
    go_ret
    exact ⟨rfl, HL0.out⟩
  by_cases hl64 : 64 < L.length
  · rw [Sq.chk_many ⟨hn1, hn6⟩ hl64]
    have h0 : ((L.length : Int) == 0) = false := by simpa using hl0
    have h64 : decide (64 < (L.length : Int)) = true := decide_eq_true (by omega)
    clear hl0 hl64
    go_enter Tryd.func22, Tryd.ntmps22
    go_wp2
    go_ret
    exact ⟨rfl, HL0.out⟩
  obtain ⟨m, rfl⟩ := Int.eq_ofNat_of_zero_le (show 0 ≤ n by omega)
  rw [Sq.chk_st ⟨by omega, by omega⟩ hl0 hl64]
  have h0 : ((L.length : Int) == 0) = false := by simpa using hl0
  have h64 : decide (64 < (L.length : Int)) = false := decide_eq_false (by omega)
  have CS := fun W (h : SeeT W (.slice ao L.length cap) L) => Lib.hid (rSts_any m (.slice ao L.length cap) L W h (by omega) (by omega))
  have CM := fun (a : Nat) W (h : SeeT W (.slice ao L.length cap) L) => Lib.hid (rMvs_any (m : Int) (.slice ao L.length cap) L (a : Int) W h)
  simp only [Sq.mvs_eq] at CM
  clear hl0 hl64
  by_cases hst : Sq.stV m L = 0
  · rw [if_pos hst]
    rw [hst] at CS
    clear hst
    have HYes : Hid ((∀ j, j < m → Sq.mvs L j = true) → (if (List.range m).all (Sq.mvs L) then (0 : Int) else 13) = 0) := Lib.hid (fun h => by rw [Sq.all_range_of (p := Sq.mvs L) (n := m) h]; rfl)
    have HNo : Hid (∀ i, i < m → Sq.mvs L i = false → (if (List.range m).all (Sq.mvs L) then (0 : Int) else 13) = 13) := Lib.hid (fun i hi h => by rw [Sq.all_range_no (p := Sq.mvs L) hi h]; rfl)
    generalize (if (List.range m).all (Sq.mvs L) then (0 : Int) else 13) = q at *
    go_enter Tryd.func22, Tryd.ntmps22
    go_wp2_with fail
    refine ((CS _ (HS.out.step HL0.out)).out).mono ?_
    rintro e w1 ⟨rfl, hb1⟩
    have HB1 := Lib.hid (below_nxt HL0.out hb1)
    have HP1 := Lib.hid (HP0.out.step hb1)
    clear hb1 p0 p1 p2 CS
    go_wp2
    go_loopw [4] (fun s4 wr => ∃ i : Nat, i ≤ m ∧ s4 = .int .i64 (i : Int) ∧ Hid (∀ j, j < i → Sq.mvs L j = true) ∧ Hid (BoxP wr w.heap.size (.int .i64 (m : Int)) (.slice ao L.length cap)) ∧ Hid (Below w.heap.size w wr)) (fun s4 _ => m - (intOf s4).toNat)
    case atStart => exact ⟨0, Nat.zero_le _, rfl, Lib.hid (fun j h => by omega), HP1, HB1⟩
    case round =>
      obtain ⟨i, hi, rfl, HJ, HP, HBW⟩ := hrel
      obtain ⟨p0, p1, p2⟩ := HP.out
      have hwi : IntKind.i64.wrap (i : Int) = (i : Int) := IntWalk.i64_in _ (by omega)
      clear HP1 HB1
      by_cases him : i < m
      · have HNi := Lib.hid (HNo.out i him)
        have HJ2 : Hid (Sq.mvs L i = true → ∀ j, j < i + 1 → Sq.mvs L j = true) := Lib.hid (fun h j hj => by
          by_cases e : j = i
          · rw [e]; exact h
          · exact HJ.out j (by omega))
        have CMi := CM i
        clear HNo HYes HJ CM
        generalize Sq.mvs L i = b at *
        cases b
        · have HQ := Lib.hid (HNi.out rfl)
          clear HNi HJ2
          go_wp2_with fail
          refine ((CMi _ (HS.out.step HBW.out)).out).mono ?_
          rintro e w2 ⟨rfl, hb2⟩
          have HB2 := Lib.hid (below_nxt HBW.out hb2)
          clear hb2 p0 p1 p2 CMi
          go_wp2
          go_ret
          exact ⟨(by rw [HQ.out]; rfl), HB2.out⟩
        · have HJ3 := Lib.hid (HJ2.out rfl)
          clear HNi HJ2
          go_wp2_with fail
          refine ((CMi _ (HS.out.step HBW.out)).out).mono ?_
          rintro e w2 ⟨rfl, hb2⟩
          have HP2 := Lib.hid (HP.out.step hb2)
          have HB2 := Lib.hid (below_nxt HBW.out hb2)
          clear hb2 p0 p1 p2 CMi
          go_wp2
          exact ⟨⟨i + 1, by omega, by first | rfl | go_num, HJ3, HP2, HB2⟩, by simp [intOf]; omega⟩
      · obtain rfl : i = m := by omega
        have HQ := Lib.hid (HYes.out HJ.out)
        go_wp2
        go_ret
        exact ⟨(by rw [HQ.out]; rfl), HBW.out⟩
  · rw [if_neg hst]
    have hct : (Sq.stV m L != 0) = true := by simpa using hst
    clear hst CM
    generalize Sq.stV m L = c at *
    go_enter Tryd.func22, Tryd.ntmps22
    go_wp2_with fail
    refine ((CS _ (HS.out.step HL0.out)).out).mono ?_
    rintro e w1 ⟨rfl, hb1⟩
    have HB1 := Lib.hid (below_nxt HL0.out hb1)
    clear hb1 p0 p1 p2 CS
    go_wp2
    go_ret
    exact ⟨rfl, HB1.out⟩
end Go.Proofs.YtjpbccpleflkhaaDoor

namespace Go.Proofs.YtjpbccpleflkhaaDoor
open Go.RowKit Go.Shelf
attribute [local go_sem] Oper.semAt_some
/-- The steps of a right sequence fit. -/
theorem fit_of {n : Int} {L : List Sk.Stp} (h : Sq.Rt n L) {k : Nat} (hk : k ≤ L.length) : Fit n.toNat L k := fun j hj => by
  obtain ⟨h1, -, h3⟩ := Sq.stE_ok (h.stp j (by omega))
  exact ⟨(Sk.chkP_ok h1).1, h3⟩
set_option maxHeartbeats 4000000 in
set_option maxRecDepth 100000 in
theorem rEnd_any (n : Int) (v : Value) (L : List Sk.Stp) (k : Int) (w : World) (hs : SeeT w v L) : Calls Tryd.prog 27 #[.agg #[.int .i64 n, v], .int .i64 k] w (EndP (Sq.endV n L k) w) := by
  have HS := Lib.hid hs
  obtain ⟨ao, cap, rfl, hcap1, hcap2, -⟩ := hs
  have CC := fun V (h : SeeT V (.slice ao L.length cap) L) => Lib.hid (rChk_any n (.slice ao L.length cap) L V h)
  obtain ⟨P0, L0, z0⟩ := boxP_new w (.int .i64 n) (.slice ao L.length cap) 32
  have HL0 := Lib.hid L0
  have HP0 := Lib.hid P0
  obtain ⟨p0, p1, p2⟩ := P0
  clear L0 z0
  by_cases hc : Sq.chk n L = 0
  · have hR := Sq.chk_ok hc
    by_cases ha : 0 ≤ k ∧ k ≤ (L.length : Int)
    · obtain ⟨nn, rfl⟩ := Int.eq_ofNat_of_zero_le (show 0 ≤ n by have := hR.n1; omega)
      obtain ⟨kk, rfl⟩ := Int.eq_ofNat_of_zero_le ha.1
      have hv : Sq.endV (nn : Int) L (kk : Int) = (Sq.bh nn L kk, 0) := by unfold Sq.endV; rw [if_pos hc, if_pos ha]; rfl
      rw [hv]
      have hkk : kk ≤ L.length := by omega
      have hf := fit_of hR hkk
      rw [Int.toNat_natCast] at hf
      have hn1 := hR.n1
      have hn6 := hR.n6
      rw [hc] at CC
      have CM := fun V (h : SeeT V (.slice ao L.length cap) L) => Lib.hid (rBeh_any nn (.slice ao L.length cap) L kk V h (by omega) (by omega) hkk hf)
      have hkz : (kk : Int) ≤ (L.length : Int) := by omega
      clear hc hR hv ha hf
      generalize Sq.bh nn L kk = E at *
      go_enter Tryd.func27, Tryd.ntmps27
      go_wp2_with fail
      refine ((CC _ (HS.out.step HL0.out)).out).mono ?_
      rintro e w1 ⟨rfl, hb1⟩
      have HB1 := Lib.hid (below_nxt HL0.out hb1)
      have HP1 := Lib.hid (HP0.out.step hb1)
      have HS1 := Lib.hid (HS.out.step HB1.out)
      obtain ⟨q0, q1, q2⟩ := HP1.out
      clear hb1 p0 p1 p2
      go_wp2_with fail
      refine ((CM _ HS1.out).out).mono ?_
      rintro e w2 ⟨u, rfl, hse, hb2⟩
      have HB2 := Lib.hid (below_nxt HB1.out hb2)
      have HSE := Lib.hid hse
      obtain ⟨a2, c2, rfl, -⟩ := hse
      clear hb2 q0 q1 q2
      go_wp2
      exact bodyPost_ret (v := .tuple #[.slice a2 E.length c2, .int .i64 0]) (by simp [results, Tryd.f27, go_sem]) rfl ⟨a2, c2, rfl, HSE.out, HB2.out⟩
    · have hv : Sq.endV n L k = ([], 2) := by unfold Sq.endV; rw [if_pos hc, if_neg ha]
      rw [hv]
      rw [hc] at CC
      clear hc hR hv
      rcases (show k < 0 ∨ (0 ≤ k ∧ (L.length : Int) < k) by omega) with h1 | ⟨h1, h2⟩
      all_goals
        clear ha
        go_enter Tryd.func27, Tryd.ntmps27
        go_wp2_with fail
        refine ((CC _ (HS.out.step HL0.out)).out).mono ?_
        rintro e w1 ⟨rfl, hb1⟩
        have HB1 := Lib.hid (below_nxt HL0.out hb1)
        have HP1 := Lib.hid (HP0.out.step hb1)
        obtain ⟨q0, q1, q2⟩ := HP1.out
        clear hb1 p0 p1 p2
        go_wp2
        exact bodyPost_ret (v := .tuple #[.slice none 0 0, .int .i64 2]) (by simp [results, Tryd.f27, go_sem]) rfl ⟨none, 0, rfl, SeeB.nil _, HB1.out⟩
  · have hv : Sq.endV n L k = ([], Sq.chk n L) := by unfold Sq.endV; rw [if_neg hc]
    rw [hv]
    have hct : (Sq.chk n L != 0) = true := by simpa using hc
    clear hv hc
    generalize Sq.chk n L = c at *
    go_enter Tryd.func27, Tryd.ntmps27
    go_wp2_with fail
    refine ((CC _ (HS.out.step HL0.out)).out).mono ?_
    rintro e w1 ⟨rfl, hb1⟩
    have HB1 := Lib.hid (below_nxt HL0.out hb1)
    clear hb1 p0 p1 p2
    go_wp2
    exact bodyPost_ret (v := .tuple #[.slice none 0 0, .int .i64 c]) (by simp [results, Tryd.f27, go_sem]) rfl ⟨none, 0, rfl, SeeB.nil _, HB1.out⟩
end Go.Proofs.YtjpbccpleflkhaaDoor

namespace Sq
open Sk
/-- The first i steps in which an actuator moves, by Way. -/
def wmI (L : List Stp) (a : Int) (i : Nat) : List Int := ((List.range i).filter fun k => decide (wayV (L.getD k t0).1 a ≠ 0)).map fun k : Nat => (k : Int)
theorem wmI_succ (L : List Stp) (a : Int) (i : Nat) : wmI L a (i + 1) = if wayV (L.getD i t0).1 a = 0 then wmI L a i else wmI L a i ++ [(i : Int)] := by
  unfold wmI
  rw [List.range_succ, List.filter_append, List.map_append]
  by_cases h : wayV (L.getD i t0).1 a = 0
  · rw [if_pos h, List.filter_cons, if_neg (by show ¬ decide (wayV (L.getD i t0).1 a ≠ 0) = true; rw [h]; decide)]; simp
  · rw [if_neg h, List.filter_cons, if_pos (show decide (wayV (L.getD i t0).1 a ≠ 0) = true from decide_eq_true h)]; simp
theorem wmI_len (L : List Stp) (a : Int) (i : Nat) : (wmI L a i).length ≤ i := by
  unfold wmI
  rw [List.length_map]
  have := List.length_filter_le (fun k => decide (wayV (L.getD k t0).1 a ≠ 0)) (List.range i)
  rwa [List.length_range] at this
theorem wmI_mvI {n : Int} {L : List Stp} (h : Rt n L) {a : Int} (h0 : 0 ≤ a) (ha : a < n) : wmI L a L.length = mvI L a L.length := by
  unfold wmI mvI
  congr 1
  refine List.filter_congr fun k hk => ?_
  obtain ⟨b, rfl⟩ := Int.eq_ofNat_of_zero_le h0
  have h1 := (stE_ok (h.stp k (List.mem_range.1 hk))).1
  unfold mvB
  rw [has_way h1 (by have := h.n6; omega)]
end Sq
namespace Go.Proofs.YtjpbccpleflkhaaDoor
open Go.RowKit Go.Shelf
attribute [local go_sem] Oper.semAt_some
set_option maxHeartbeats 4000000 in
set_option maxRecDepth 100000 in
theorem rStps_any (n : Int) (v : Value) (L : List Sk.Stp) (a : Int) (w : World) (hs : SeeT w v L) (hl : L.length ≤ 64) : Calls Tryd.prog 68 #[.agg #[.int .i64 n, v], .int .i64 a] w (MovP (Sq.wmI L a L.length) w) := by
  obtain ⟨i0, hi0, hz0, hz1, hz2⟩ := info_int
  obtain ⟨ao, cap, rfl, hcap1, hcap2, hC⟩ := hs
  have HC := Lib.hid hC
  obtain ⟨P0, L0, z0⟩ := boxP_new w (.int .i64 n) (.slice ao L.length cap) 32
  have HL := Lib.hid L0
  have HP0 := Lib.hid P0
  obtain ⟨p0, p1, p2⟩ := P0
  have HT := Lib.hid (fun i => Sq.wmI_succ L a i)
  have HLn := Lib.hid (fun i => Sq.wmI_len L a i)
  clear hC L0 z0
  go_enter Tryd.func68, Tryd.ntmps68
  go_wp2
  clear p0 p1 p2
  go_loopw [5, 6] (fun s5 s6 wr => ∃ i : Nat, i ≤ L.length ∧ s6 = .int .i64 (i : Int) ∧ Hid (RowI (w.heap.size + 1) 3 wr s5 (Sq.wmI L a i)) ∧ Hid (BoxP wr w.heap.size (.int .i64 n) (.slice ao L.length cap)) ∧ Hid (Below w.heap.size w wr)) (fun _ s6 _ => L.length - (intOf s6).toNat)
  case atStart => exact ⟨0, Nat.zero_le _, rfl, Lib.hid (RowI.nil _ _ _), HP0, HL⟩
  case round =>
    obtain ⟨i, hi, rfl, HR, HP, HB⟩ := hrel
    obtain ⟨ro, rc, hro⟩ := HR.out.form
    obtain ⟨p0, p1, p2⟩ := HP.out
    have hwi : IntKind.i64.wrap (i : Int) = (i : Int) := IntWalk.i64_in _ (by omega)
    have hiz : (L.length : Int) ≤ 64 := by omega
    by_cases hil : i < L.length
    · subst hro
      obtain ⟨g, off, ak, ck, rfl, hg, c1, c2, hk⟩ := HC.out.at HB.out hil
      have HTi := Lib.hid (HT.out i)
      have HLi := Lib.hid (HLn.out i)
      have HK := Lib.hid hk
      have hgr : g < wr.heap.size := Nat.lt_of_lt_of_le hg HB.out.size
      have CH := fun V (h : SeeK V (.slice ak (L.getD i Sk.t0).1.length ck) (L.getD i Sk.t0).1) => Lib.hid (rWay_any _ _ (L.getD i Sk.t0).2 a V h)
      clear HT HLn hk HP0 HL
      generalize L.getD i Sk.t0 = y at *
      obtain ⟨l, k⟩ := y
      simp only at c1 c2 HK CH HTi
      generalize Sq.wmI L a i = F at *
      generalize Sk.wayV l a = h1 at *
      by_cases hh : h1 = 0
      · subst hh
        have HTn := Lib.hid (show Sq.wmI L a (i + 1) = F by rw [HTi.out]; rfl)
        clear HTi
        go_wp2_with fail
        refine ((CH _ HK.out).out).mono ?_
        rintro e w2 ⟨rfl, hb2⟩
        have HB2 := Lib.hid (below_nxt HB.out hb2)
        have HP2 := Lib.hid (HP.out.step hb2)
        have HR2 := Lib.hid (HR.out.step hb2)
        clear hb2 p0 p1 p2
        go_wp2
        exact ⟨⟨i + 1, by omega, by first | rfl | go_num, by rw [HTn.out]; exact HR2, HP2, HB2⟩, by simp [intOf]; omega⟩
      · have hh' : (h1 != 0) = true := by simpa using hh
        have HTn := Lib.hid (show Sq.wmI L a (i + 1) = F ++ [(i : Int)] by rw [HTi.out, if_neg hh])
        clear HTi hh
        go_wp2_with fail
        refine ((CH _ HK.out).out).mono ?_
        rintro e w2 ⟨rfl, hb2⟩
        have HB2 := Lib.hid (below_nxt HB.out hb2)
        have HP2 := Lib.hid (HP.out.step hb2)
        have HR2 := Lib.hid (HR.out.step hb2)
        have hz2' := HP2.out.1
        clear hb2 c1 c2 p0 p1 p2
        go_wp2_with (at_builtin; refine wpList_append_int1 rfl _ _ 54 rfl 3 i0 Tryd.underlying54 hi0 hz0 hz1 hz2 _ F (i : Int) w2.heap.size rfl rfl (w.heap.size + 1) (HR2.out.step (allocB _ _)) (by simp) (by have := HLi.out; omega) (Nat.le_trans (show w.heap.size + 1 ≤ w2.heap.size from hz2') (by simp)) ?_; intro a5 p5 w5 hr5 hg5; have HR5 := Lib.hid hr5; have HP5 := Lib.hid ((HP2.out.step (allocB _ (.cells #[.int .i64 (i : Int)] 3))).blk (hg5.block w.heap.size (Nat.lt_of_lt_of_le hz2' (by simp)) (fun e => by have := (HR2.out.lt _ e.symm).1; omega))); have HB5 := Lib.hid ((HB2.out.alloc HB2.out.size (.cells #[.int .i64 (i : Int)] 3)).grown hg5 (Nat.le_trans HB2.out.size (by simp)) (fun r e => by have := (HR2.out.lt r e).1; omega)); clear hr5 hg5)
        exact ⟨⟨i + 1, by omega, by first | rfl | go_num, by rw [HTn.out]; exact HR5, HP5, HB5⟩, by simp [intOf]; omega⟩
    · obtain rfl : i = L.length := by omega
      subst hro
      have HSe := Lib.hid HR.out.sees
      go_wp2
      go_ret
      exact ⟨_, _, rfl, HSe.out, HB.out⟩
set_option maxHeartbeats 8000000 in
set_option maxRecDepth 100000 in
theorem rMov_any (n : Int) (v : Value) (L : List Sk.Stp) (a : Int) (w : World) (hs : SeeT w v L) : Calls Tryd.prog 29 #[.agg #[.int .i64 n, v], .int .i64 a] w (RepP (Sq.movV n L a) w) := by
  have HS := Lib.hid hs
  obtain ⟨ao, cap, rfl, hcap1, hcap2, -⟩ := hs
  have CC := fun V (h : SeeT V (.slice ao L.length cap) L) => Lib.hid (rChk_any n (.slice ao L.length cap) L V h)
  obtain ⟨P0, L0, z0⟩ := boxP_new w (.int .i64 n) (.slice ao L.length cap) 32
  have HL0 := Lib.hid L0
  have HP0 := Lib.hid P0
  by_cases hc : Sq.chk n L = 0
  · rw [hc] at CC
    have hR := Sq.chk_ok hc
    have hl64 := hR.l64
    by_cases ha : 0 ≤ a ∧ a < n
    · have hv : Sq.movV n L a = (Sq.mvI L a L.length, 0) := by unfold Sq.movV; rw [if_pos hc, if_pos ha]
      rw [hv]
      obtain ⟨ha0, han⟩ := ha
      have hwm := Sq.wmI_mvI hR ha0 han
      have CM := fun V (h : SeeT V (.slice ao L.length cap) L) => Lib.hid (rStps_any n (.slice ao L.length cap) L a V h hl64)
      rw [hwm] at CM
      clear hwm
      clear hc hR hv
      obtain ⟨p0, p1, p2⟩ := P0
      clear L0 z0
      generalize Sq.mvI L a L.length = M at *
      go_enter Tryd.func29, Tryd.ntmps29
      go_wp2_with fail
      refine ((CC _ (HS.out.step HL0.out)).out).mono ?_
      rintro e w1 ⟨rfl, hb1⟩
      have HB1 := Lib.hid (below_nxt HL0.out hb1)
      have HP1 := Lib.hid (HP0.out.step hb1)
      have HS1 := Lib.hid (HS.out.step HB1.out)
      obtain ⟨q0, q1, q2⟩ := HP1.out
      clear hb1 p0 p1 p2
      go_wp2_with fail
      refine ((CM _ HS1.out).out).mono ?_
      rintro e w2 ⟨a2, c2, rfl, hse, hb2⟩
      have HB2 := Lib.hid (below_nxt HB1.out hb2)
      have HSE := Lib.hid hse
      clear hb2 hse q0 q1 q2
      go_wp2
      exact bodyPost_ret (v := .tuple #[.slice a2 M.length c2, .int .i64 0]) (by simp [results, Tryd.f29, go_sem]) rfl ⟨a2, c2, rfl, HSE.out, HB2.out⟩
    · have hv : Sq.movV n L a = ([], 2) := by unfold Sq.movV; rw [if_pos hc, if_neg ha]
      rw [hv]
      have hn1 := hR.n1
      clear hc hR hv
      obtain ⟨p0, p1, p2⟩ := P0
      clear L0 z0
      rcases (show a < 0 ∨ (0 ≤ a ∧ n ≤ a) by omega) with h1 | ⟨h1, h2⟩
      all_goals
        clear ha
        go_enter Tryd.func29, Tryd.ntmps29
        go_wp2_with fail
        refine ((CC _ (HS.out.step HL0.out)).out).mono ?_
        rintro e w1 ⟨rfl, hb1⟩
        have HB1 := Lib.hid (below_nxt HL0.out hb1)
        have HP1 := Lib.hid (HP0.out.step hb1)
        obtain ⟨q0, q1, q2⟩ := HP1.out
        clear hb1 p0 p1 p2
        go_wp2
        exact bodyPost_ret (v := .tuple #[.slice none 0 0, .int .i64 2]) (by simp [results, Tryd.f29, go_sem]) rfl ⟨none, 0, rfl, SeeI.nil _, HB1.out⟩
  · have hv : Sq.movV n L a = ([], Sq.chk n L) := by unfold Sq.movV; rw [if_neg hc]
    rw [hv]
    have hct : (Sq.chk n L != 0) = true := by simpa using hc
    clear hv hc
    generalize Sq.chk n L = c at *
    obtain ⟨p0, p1, p2⟩ := P0
    clear L0 z0
    go_enter Tryd.func29, Tryd.ntmps29
    go_wp2_with fail
    refine ((CC _ (HS.out.step HL0.out)).out).mono ?_
    rintro e w1 ⟨rfl, hb1⟩
    have HB1 := Lib.hid (below_nxt HL0.out hb1)
    clear hb1 p0 p1 p2
    go_wp2
    exact bodyPost_ret (v := .tuple #[.slice none 0 0, .int .i64 c]) (by simp [results, Tryd.f29, go_sem]) rfl ⟨none, 0, rfl, SeeI.nil _, HB1.out⟩
end Go.Proofs.YtjpbccpleflkhaaDoor

namespace Go.Proofs.YtjpbccpleflkhaaDoor
open Go.RowKit Go.Shelf
attribute [local go_sem] Oper.semAt_some
set_option maxHeartbeats 4000000 in
set_option maxRecDepth 100000 in
theorem lRgt_any (n : Int) (v : Value) (L : List Sk.Stp) (w : World) (hs : SeeT w v L) : Calls Tryd.prog 36 #[.agg #[.int .i64 n, v]] w fun e w' => e = .returned (.bool (Sq.fewV L && decide (Sq.chk n L = 0))) ∧ Below w.heap.size w w' := by
  have HS := Lib.hid hs
  obtain ⟨ao, cap, rfl, hcap1, hcap2, -⟩ := hs
  have CC := fun V (h : SeeT V (.slice ao L.length cap) L) => Lib.hid (rChk_any n (.slice ao L.length cap) L V h)
  have CF := fun V (h : SeeT V (.slice ao L.length cap) L) => Lib.hid (rFew14_any n (.slice ao L.length cap) L V h)
  obtain ⟨P0, L0, z0⟩ := boxP_new w (.int .i64 n) (.slice ao L.length cap) 32
  have HL0 := Lib.hid L0
  have HP0 := Lib.hid P0
  obtain ⟨p0, p1, p2⟩ := P0
  clear L0 z0
  generalize Sq.fewV L = f at *
  cases f
  · rw [Bool.false_and]
    go_enter Tryd.func36, Tryd.ntmps36
    go_wp2_with fail
    refine ((CF _ (HS.out.step HL0.out)).out).mono ?_
    rintro e w1 ⟨rfl, hb1⟩
    have HB1 := Lib.hid (below_nxt HL0.out hb1)
    clear hb1 p0 p1 p2
    go_wp2
    go_ret
    exact ⟨rfl, HB1.out⟩
  · rw [Bool.true_and]
    have hq : (decide (Sq.chk n L = 0)) = (Sq.chk n L == 0) := rfl
    rw [hq]
    clear hq
    generalize Sq.chk n L = c at *
    have HQ : Hid ((c == 0) = (c == 0)) := Lib.hid rfl
    generalize hb : (c == 0) = b at HQ ⊢
    go_enter Tryd.func36, Tryd.ntmps36
    go_wp2_with fail
    refine ((CF _ (HS.out.step HL0.out)).out).mono ?_
    rintro e w1 ⟨rfl, hb1⟩
    have HB1 := Lib.hid (below_nxt HL0.out hb1)
    have HP1 := Lib.hid (HP0.out.step hb1)
    obtain ⟨q0, q1, q2⟩ := HP1.out
    clear hb1 p0 p1 p2
    go_wp2_with fail
    refine ((CC _ (HS.out.step HB1.out)).out).mono ?_
    rintro e w2 ⟨rfl, hb2⟩
    have HB2 := Lib.hid (below_nxt HB1.out hb2)
    clear hb2 q0 q1 q2
    go_wp2
    go_ret
    exact ⟨rfl, HB2.out⟩
end Go.Proofs.YtjpbccpleflkhaaDoor
