/- The call of the statement StrokeSteps. Fits of the reference. Apply of the reference. Ends as an array; the iterator over the states of a sequence. Ends of six actuators are compared as arrays. Lists of ends as arrays; slices.Contains at ends. -/
import Derived.Test.YtjpbccpleflkhaaDoorG07
import Derived.Test.YtjpbccpleflkhaaDoorG05
import Derived.ChangeKeysEq
namespace Go.Proofs.YtjpbccpleflkhaaDoor
open Go.RowKit
end Go.Proofs.YtjpbccpleflkhaaDoor

namespace Go.Proofs.YtjpbccpleflkhaaDoor
open Go.RowKit
def givV (l : List Sk.Str) (n : Int) (E : List Bool) : Int := if Sk.chkP l n = 0 then (if 6 < E.length then 5 else 0) else Sk.chkP l n
set_option maxHeartbeats 8000000 in
set_option maxRecDepth 100000 in
theorem rSui_any (v ev : Value) (l : List Sk.Str) (n : Int) (E : List Bool) (w : World) (hs : SeeK w v l) (he : SeeB w ev E) (hR : Sk.RtL l) : Calls Tryd.prog 93 #[.agg #[v, .int .i64 n], ev] w fun e w' => e = .returned (.bool (Sk.sui l E)) ∧ Below w.heap.size w w' := by
  obtain ⟨ao, cap, rfl, hcap1, hcap2, hC⟩ := hs
  obtain ⟨eo, ecap, rfl, hecap1, hecap2, hCE⟩ := he
  have HC := Lib.hid hC
  have HCE := Lib.hid hCE
  obtain ⟨P0, L0, z0⟩ := boxP_new w (.slice ao l.length cap) (.int .i64 n) 70
  have HL := Lib.hid L0
  have HP := Lib.hid P0
  have HNo := Lib.hid (fun i (hi : i < l.length) (h : Sk.sui1 E (l.getD i Sk.d0) = false) => Sk.sui_no hi h)
  have HYes := Lib.hid (fun (h : ∀ i, i < l.length → Sk.sui1 E (l.getD i Sk.d0) = true) => Sk.sui_iff.2 h)
  have HAct := Lib.hid hR.act
  have hl6 := hR.le6
  clear hC hCE L0 P0 z0 hR
  generalize Sk.sui l E = q at *
  go_enter Tryd.func93, Tryd.ntmps93
  go_wp2
  go_loopw [5] (fun s5 wr => ∃ i : Nat, i ≤ l.length ∧ s5 = .int .i64 (i : Int) ∧ Hid (∀ a, a < i → Sk.sui1 E (l.getD a Sk.d0) = true) ∧ Hid (Below w.heap.size w wr) ∧ Hid (BoxP wr w.heap.size (.slice ao l.length cap) (.int .i64 n))) (fun s5 _ => l.length - (intOf s5).toNat)
  case atStart => exact ⟨0, Nat.zero_le _, rfl, Lib.hid (fun a h => by omega), HL, HP⟩
  case round =>
    clear HP HL
    obtain ⟨i, hi, rfl, HJ, HBW, HP⟩ := hrel
    obtain ⟨x0, x1, x2⟩ := HP.out
    have hwi : IntKind.i64.wrap (i : Int) = (i : Int) := IntWalk.i64_in _ (by omega)
    by_cases hil : i < l.length
    · obtain ⟨g, off, rfl, hg, c1, c2⟩ := HC.out.at HBW.out hil
      have HNi := Lib.hid (HNo.out i hil)
      have hact := HAct.out i hil
      have HJ2 : Hid (Sk.sui1 E (l.getD i Sk.d0) = true → ∀ a, a < i + 1 → Sk.sui1 E (l.getD a Sk.d0) = true) := Lib.hid (fun h a ha => by
        by_cases e : a = i
        · rw [e]; exact h
        · exact HJ.out a (by omega))
      clear HNo HYes HJ HAct
      generalize l.getD i Sk.d0 = y at *
      obtain ⟨x, o⟩ := y
      simp only at hact c1 c2
      obtain ⟨k, rfl⟩ := Int.eq_ofNat_of_zero_le hact.1
      rw [Sk.sui1_lt] at HNi HJ2
      obtain ⟨P1, L1, z1⟩ := boxP_new wr (.int .i64 (k : Int)) (.bool o) 47
      have HB1 := Lib.hid (below_nxt HBW.out L1)
      have HP1 := Lib.hid (HP.out.step L1)
      obtain ⟨p0, p1, p2⟩ := P1
      clear L1 z1
      by_cases hk : k < E.length
      · obtain ⟨ge, oe, rfl, hge, d1⟩ := HCE.out.at HBW.out hk
        have d2 := (allocB wr (.cells #[.int .i64 (k : Int), .bool o] 47)).cell (p := ⟨ge, oe + k, none⟩) (Nat.lt_of_lt_of_le hge HBW.out.size)
        rw [d1] at d2
        have hd : decide (E.length ≤ k) = false := decide_eq_false (by omega)
        have hkz : (k : Int) < (E.length : Int) := by omega
        rw [decide_eq_true hk, Bool.true_and] at HNi HJ2
        generalize E.getD k false = b at *
        cases hbo : (b != o)
        · have hq := HNi.out hbo
          have hbo' : (b == o) = true := by revert hbo; cases b <;> cases o <;> decide
          subst hq
          clear HNi HJ2 hbo d1
          go_wp2
          go_quiet (fail)
          go_wp2
          go_ret
          exact ⟨rfl, HB1.out.trans (below_drewN _ _)⟩
        · have HJ3 := Lib.hid (HJ2.out hbo)
          have hbo' : (b == o) = false := by revert hbo; cases b <;> cases o <;> decide
          clear HNi HJ2 hbo d1
          go_wp2
          go_quiet (fail)
          go_wp2
          exact ⟨⟨i + 1, by omega, by first | rfl | go_num, HJ3, Lib.hid (HB1.out.trans (below_drewN _ _)), Lib.hid (HP1.out.step (below_drewN _ _))⟩, by simp [intOf]; omega⟩
      · have hq := HNi.out (by rw [decide_eq_false hk]; rfl)
        have hd : decide (E.length ≤ k) = true := decide_eq_true (by omega)
        subst hq
        clear HNi HJ2
        go_wp2
        go_quiet (fail)
        go_wp2
        go_ret
        exact ⟨rfl, HB1.out.trans (below_drewN _ _)⟩
    · obtain rfl : i = l.length := by omega
      have hq := HYes.out HJ.out
      subst hq
      clear HNo HYes HJ HAct
      go_wp2
      go_ret
      exact ⟨rfl, HBW.out⟩
theorem givV_ok {l : List Sk.Str} {n : Int} {E : List Bool} (h : givV l n E = 0) : Sk.chkP l n = 0 ∧ E.length ≤ 6 := by
  unfold givV at h
  by_cases h1 : Sk.chkP l n = 0
  · rw [if_pos h1] at h
    by_cases h6 : 6 < E.length
    · rw [if_pos h6] at h; omega
    · exact ⟨h1, by omega⟩
  · rw [if_neg h1] at h; exact absurd h h1
theorem fit_good {l : List Sk.Str} {n : Int} {E : List Bool} (h : givV l n E = 0) : Sk.fitV l n E = (Sk.sui l E, 0) := by
  obtain ⟨h1, h2⟩ := givV_ok h
  unfold Sk.fitV; rw [if_pos h1, if_neg (by omega)]
theorem fit_bad {l : List Sk.Str} {n : Int} {E : List Bool} (h : givV l n E ≠ 0) : Sk.fitV l n E = (false, givV l n E) := by
  unfold givV at h ⊢; unfold Sk.fitV
  by_cases h1 : Sk.chkP l n = 0
  · rw [if_pos h1] at h ⊢
    rw [if_pos h1]
    by_cases h6 : 6 < E.length
    · rw [if_pos h6, if_pos h6]
    · rw [if_neg h6] at h; exact absurd rfl h
  · rw [if_neg h1, if_neg h1]
theorem app_good {l : List Sk.Str} {n : Int} {E : List Bool} (h : givV l n E = 0) : Sk.appV l n E = if Sk.sui l E then (Sk.aft l E, 0) else ([], 14) := by
  obtain ⟨h1, h2⟩ := givV_ok h
  unfold Sk.appV; rw [if_pos h1, if_neg (by omega)]
theorem app_bad {l : List Sk.Str} {n : Int} {E : List Bool} (h : givV l n E ≠ 0) : Sk.appV l n E = ([], givV l n E) := by
  unfold givV at h ⊢; unfold Sk.appV
  by_cases h1 : Sk.chkP l n = 0
  · rw [if_pos h1] at h ⊢
    rw [if_pos h1]
    by_cases h6 : 6 < E.length
    · rw [if_pos h6, if_pos h6]
    · rw [if_neg h6] at h; exact absurd rfl h
  · rw [if_neg h1, if_neg h1]
end Go.Proofs.YtjpbccpleflkhaaDoor

namespace Go.Proofs.YtjpbccpleflkhaaDoor
open Go.RowKit
set_option maxHeartbeats 8000000 in
set_option maxRecDepth 100000 in
theorem rAft_any (v ev : Value) (l : List Sk.Str) (n : Int) (E : List Bool) (w : World) (hs : SeeK w v l) (he : SeeB w ev E) (hnil : ∀ n c, ev = .slice none n c → c = 0) (hR : Sk.RtL l) (hsu : Sk.sui l E = true) (hE6 : E.length ≤ 6) : Calls Tryd.prog 77 #[.agg #[v, .int .i64 n], ev] w fun e w' => ∃ u, e = .returned u ∧ SeeB w' u (Sk.aft l E) ∧ Below w.heap.size w w' := by
  obtain ⟨i0, hi0, hz0, hz1, hz2⟩ := info_bool
  have HEs := Lib.hid he
  have HN := Lib.hid hnil
  obtain ⟨ao, cap, rfl, hcap1, hcap2, hC⟩ := hs
  obtain ⟨eo, ecap, rfl, hecap1, hecap2, hCE⟩ := he
  have HC := Lib.hid hC
  obtain ⟨P0, L0, z0⟩ := boxP_new w (.slice ao l.length cap) (.int .i64 n) 70
  have HP := Lib.hid P0
  have HB := Lib.hid (L0.alloc L0.size (.cells #[] 4))
  have hz := HB.out.size
  have HSA := Lib.hid (HEs.out.step HB.out)
  have HR := Lib.hid (show RowB (w.heap.size + 1) 4 ((w.alloc (.cells #[.slice ao l.length cap, .int .i64 n] 70)).alloc (.cells #[] 4)) (.slice (some ⟨w.heap.size + 1, 0, none⟩) 0 0) [] from ⟨rfl, .inr ⟨w.heap.size + 1, 0, #[], rfl, Nat.le_refl _, by rw [← z0]; exact heap_alloc_new _ _, Nat.le_refl _, by decide, rfl, rfl⟩⟩)
  have hsui := Sk.sui_iff.1 hsu
  have HAct := Lib.hid (fun i (hi : i < l.length) => show ∃ (k : Nat) (o : Bool), l.getD i Sk.d0 = ((k : Int), o) ∧ k < E.length from by
    obtain ⟨k, hk⟩ := Int.eq_ofNat_of_zero_le (hR.act i hi).1
    refine ⟨k, (l.getD i Sk.d0).2, Prod.ext hk rfl, ?_⟩
    have h := hsui i hi
    unfold Sk.sui1 at h
    rw [Bool.and_eq_true, decide_eq_true_iff] at h
    have := h.1
    omega)
  have hE0 : 0 < E.length := by
    obtain ⟨k, o, -, hk⟩ := HAct.out 0 hR.pos
    omega
  have hl6 := hR.le6
  have HT := Lib.hid (fun i (hi : i < l.length) => Sk.aft_take hi E)
  have HLn := Lib.hid (fun i => Sk.aft_len (l.take i) E)
  have HAll : Hid (Sk.aft l E = Sk.aft (l.take l.length) E) := Lib.hid (by rw [List.take_length])
  have HXA := Lib.hid (P0.step (allocB _ (.cells #[] 4)))
  clear hsu hsui hR hnil hC hCE P0 L0 z0 HEs HP
  obtain ⟨p0, p1, p2⟩ := HXA.out
  go_enter Tryd.func77, Tryd.ntmps77
  go_wp2_with (at_builtin; refine wpList_append_bools rfl _ _ 49 rfl 4 i0 Tryd.underlying49 hi0 hz0 hz1 hz2 _ _ [] E rfl rfl (w.heap.size + 1) HR.out HSA.out HN.out (by simp; omega) (by simp) ?_; intro v5 w5 hr5 hb5; rw [List.nil_append] at hr5; obtain ⟨g, cp, rfl, hg1, hg2⟩ := hr5.form hE0; have HR5 := Lib.hid hr5; have HB5 := Lib.hid (HB.out.trans (hb5.mono (by omega))); have HX5 := Lib.hid (HXA.out.below (B := w.heap.size + 1) (by omega) hb5); clear hr5 hb5)
  go_loopw [6] (fun s6 wr => ∃ i : Nat, i ≤ l.length ∧ s6 = .int .i64 (i : Int) ∧ Hid (RowB (w.heap.size + 1) 4 wr (.slice (some ⟨g, 0, none⟩) E.length cp) (Sk.aft (l.take i) E)) ∧ Hid (Below w.heap.size w wr) ∧ Hid (BoxP wr w.heap.size (.slice ao l.length cap) (.int .i64 n))) (fun s6 _ => l.length - (intOf s6).toNat)
  case atStart => exact ⟨0, Nat.zero_le _, rfl, by simpa [Sk.aft] using HR5, HB5, HX5⟩
  case round =>
    clear HR5 HB5 HX5
    obtain ⟨i, hi, rfl, HRW, HBW, HX⟩ := hrel
    obtain ⟨x0, x1, x2⟩ := HX.out
    have hwi : IntKind.i64.wrap (i : Int) = (i : Int) := IntWalk.i64_in _ (by omega)
    by_cases hil : i < l.length
    · obtain ⟨gs, off, rfl, hgs, c1, c2⟩ := HC.out.at HBW.out hil
      obtain ⟨k, o, hko, hk⟩ := HAct.out i hil
      have HTi := Lib.hid (HT.out i hil)
      have hln := HLn.out i
      clear HT HLn HAct
      rw [hko] at c1 c2 HTi
      generalize Sk.aft (l.take i) E = F at *
      rw [← hln] at hk
      rw [← hln] at HRW
      obtain ⟨d1, d2⟩ := HRW.out.at hk
      have HR1 := Lib.hid (HRW.out.put k o)
      have HB1 := Lib.hid (HBW.out.setCell (p := ⟨g, k, none⟩) (by show w.heap.size ≤ g; omega) (.bool o))
      have HX1 := Lib.hid (HX.out.other (k := g) (o := k) (by omega) (.bool o))
      have hkz : (k : Int) < (E.length : Int) := by omega
      have hT2 : Hid (Sk.aft (l.take (i + 1)) E = F.set k o) := Lib.hid (by rw [HTi.out]; simp)
      clear HRW HBW HTi
      generalize F.getD k false = f at *
      go_wp2
      go_region
      go_wp2
      refine ⟨⟨i + 1, by omega, by first | rfl | go_num, ?_, Lib.hid (HB1.out.trans (Below.refl _ _).drew), Lib.hid (HX1.out.step (Below.refl _ _).drew)⟩, by simp [intOf]; omega⟩
      rw [hT2.out, ← hln]; exact Lib.hid (HR1.out.step (Below.refl _ _).drew)
    · have hii : i = l.length := by omega
      subst hii
      have hln := HLn.out l.length
      have HSe := Lib.hid (show SeeB wr (.slice (some ⟨g, 0, none⟩) E.length cp) (Sk.aft l E) by rw [HAll.out, ← hln]; exact (show RowB (w.heap.size + 1) 4 wr (.slice (some ⟨g, 0, none⟩) (Sk.aft (l.take l.length) E).length cp) (Sk.aft (l.take l.length) E) by rw [hln]; exact HRW.out).sees)
      clear HT HLn HAct
      go_wp2
      go_ret
      exact ⟨_, rfl, HSe.out, HBW.out⟩
def AppR (q : List Bool × Int) (w : World) (e : Ending) (w' : World) : Prop := ∃ ao cap, e = .returned (.tuple #[.slice ao q.1.length cap, .int .i64 q.2]) ∧ SeeB w' (.slice ao q.1.length cap) q.1 ∧ Below w.heap.size w w'
theorem sApp_form (v ev : Value) (l : List Sk.Str) (n : Int) (E : List Bool) (w : World) (hs : SeeK w v l) (he : SeeB w ev E) : Calls Tryd.prog 37 #[.agg #[v, .int .i64 n], ev] w (AppR (Sk.appV l n E) w) :=
  (sApp_any v ev l n E w hs he).mono (by rintro e w' ⟨u, rfl, hu, hb, -⟩; obtain ⟨ao, cap, rfl, -⟩ := id hu; exact ⟨ao, cap, rfl, hu, hb⟩)
end Go.Proofs.YtjpbccpleflkhaaDoor

namespace Sq
open Sk
/-- The number of a state. -/
def Ix (L : List Stp) : Type := { k : Nat // k ≤ L.length }
/-- Ends of six actuators as an array. -/
def E6 (E : List Bool) : Go.Value := .agg #[.bool (E.getD 0 false), .bool (E.getD 1 false), .bool (E.getD 2 false), .bool (E.getD 3 false), .bool (E.getD 4 false), .bool (E.getD 5 false)]
def ke (L : List Stp) (x : Ix L) : Array Go.Value := #[.int .i64 (x.1 : Int), E6 (bh 6 L x.1)]
theorem ke_size (L : List Stp) (x : Ix L) : (ke L x).size = 2 := rfl
end Sq
namespace Go.Proofs.YtjpbccpleflkhaaDoor
open Go.RowKit
/-- A step's memory lies as it lay. -/
theorem SeeT.same {W W' : World} {v : Value} {L : List Sk.Stp} (h : SeeT W v L) (hz : W.heap.size ≤ W'.heap.size) (hb : ∀ r, r < W.heap.size → W'.heap[r]? = W.heap[r]?) : SeeT W' v L := by
  obtain ⟨ao, cap, rfl, h1, h2, h3⟩ := h
  refine ⟨ao, cap, rfl, h1, h2, fun hl => ?_⟩
  obtain ⟨g, off, rfl, hg, h4⟩ := h3 hl
  have hk := hb g hg
  refine ⟨g, off, rfl, Nat.lt_of_lt_of_le hg hz, fun i hi => ⟨?_, (World.cell?_of_block (w := W) hk).trans (h4 i hi).2⟩⟩
  obtain ⟨u, h5, h6⟩ := (h4 i hi).1
  exact ⟨u, (World.cell?_of_block (w := W) hk).trans h5, h6.same hz (fun r _ hr => hb r hr)⟩
/-- A variable of ends, as an array. -/
def BoxE (W : World) (g : Nat) (E : List Bool) : Prop := g < W.heap.size ∧ (∀ i, i < 6 → W.cell? ⟨g, i, none⟩ = some (.bool (E.getD i false))) ∧ ∀ i, W.frozen? ⟨g, i, none⟩ = false
theorem BoxE.block {W W' : World} {g : Nat} {E : List Bool} (h : BoxE W g E) (hb : W'.heap[g]? = W.heap[g]?) : BoxE W' g E := by
  refine ⟨?_, fun i hi => (World.cell?_of_block (w := W) hb).trans (h.2.1 i hi), fun i => by unfold World.frozen?; simp only [hb]; exact h.2.2 i⟩
  have := h.1
  have e : W.heap[g]? = some W.heap[g] := Array.getElem?_eq_getElem this
  rw [e] at hb
  exact (Array.getElem?_eq_some_iff.1 hb).1
theorem BoxE.step {W W' : World} {g : Nat} {E : List Bool} (h : BoxE W g E) (hb : Below W.heap.size W W') : BoxE W' g E := h.block (hb.block g h.1)
theorem BoxE.put {W : World} {g : Nat} {E : List Bool} (h : BoxE W g E) {i : Nat} (hi : i < E.length) (b : Bool) : BoxE (W.setCell ⟨g, i, none⟩ (.bool b)) g (E.set i b) := by
  refine ⟨by simpa using h.1, fun j hj => ?_, fun j => by rw [World.frozen?_setCell]; exact h.2.2 j⟩
  by_cases e : i = j
  · subst e
    rw [World.cell?_setCell_same' _ _ _ (by rw [h.2.1 i hj]; rfl), List.getD_eq_getElem?_getD, List.getElem?_set_self hi]; rfl
  · rw [World.cell?_setCell_other (w := W) (v := .bool b) (a := ⟨g, i, none⟩) (b := ⟨g, j, none⟩) (fun e' => e (by have := congrArg Addr.off e'; simpa using this)), h.2.1 j hj, List.getD_eq_getElem?_getD, List.getD_eq_getElem?_getD, List.getElem?_set_ne e]
theorem boxE_new (w : World) (b0 b1 b2 b3 b4 b5 : Bool) (T : TypeId) : BoxE (w.alloc (.cells #[.bool b0, .bool b1, .bool b2, .bool b3, .bool b4, .bool b5] T)) w.heap.size [b0, b1, b2, b3, b4, b5] := by
  refine ⟨by simp, fun i hi => ?_, fun i => by simp⟩
  rcases (show i = 0 ∨ i = 1 ∨ i = 2 ∨ i = 3 ∨ i = 4 ∨ i = 5 by omega) with rfl | rfl | rfl | rfl | rfl | rfl <;> simp
theorem BoxE.sees {W : World} {g : Nat} {E : List Bool} (h : BoxE W g E) (hl : E.length = 6) : SeeB W (.slice (some ⟨g, 0, none⟩) 6 6) E :=
  ⟨_, 6, by rw [hl], by omega, by omega, fun _ => ⟨g, 0, rfl, h.1, fun i hi => by rw [Nat.zero_add]; exact h.2.1 i (by omega)⟩⟩
theorem six_eq {E : List Bool} (h : E.length = 6) : E = [E.getD 0 false, E.getD 1 false, E.getD 2 false, E.getD 3 false, E.getD 4 false, E.getD 5 false] := by
  match E, h with
  | [_, _, _, _, _, _], _ => rfl
theorem sAll_any (w : World) : Calls Tryd.prog 61 #[] w fun e w' => e = .returned (.agg #[.bool false, .bool false, .bool false, .bool false, .bool false, .bool false]) ∧ Below w.heap.size w w' ∧ w'.heap.size = w.heap.size + 1 := by
  go_enter Tryd.func61, Tryd.ntmps61
  go_wp2
  exact bodyPost_ret (v := .agg #[.bool false, .bool false, .bool false, .bool false, .bool false, .bool false]) (by simp [results, Tryd.f61, go_sem]) rfl ⟨rfl, allocB _ _, by simp⟩
/-- A slice of six ends as an array. -/
theorem run_arr6 (a : Addr) (cap : Nat) (w : World) : (Instr.arrayAt 105 (.slice (some a) 6 cap)).run Tryd.prog w = .ok (.pointer (some a)) w := by
  unfold Instr.arrayAt
  simp [go_sem]
theorem sSts_any (n : Int) (v : Value) (w : World) : Calls Tryd.prog 59 #[.agg #[.int .i64 n, v]] w fun e w' => e = .returned (.func (.func 92) #[] #[.pointer (some ⟨w.heap.size, 0, none⟩)]) ∧ w' = w.alloc (.cells #[.int .i64 n, v] 32) := by
  go_enter Tryd.func59, Tryd.ntmps59
  go_wp2
  go_ret
  exact ⟨rfl, rfl⟩
end Go.Proofs.YtjpbccpleflkhaaDoor

namespace Go.Proofs.YtjpbccpleflkhaaDoor
open Go.RowKit
theorem neqE (b0 b1 b2 b3 b4 b5 : Bool) (W : World) : (binOp .neq 105 (.agg #[.bool b0, .bool b1, .bool b2, .bool b3, .bool b4, .bool b5]) (.agg #[.bool false, .bool false, .bool false, .bool false, .bool false, .bool false])).run Tryd.prog W = .ok (.bool (b0 || b1 || b2 || b3 || b4 || b5)) W := by
  cases b0 <;> cases b1 <;> cases b2 <;> cases b3 <;> cases b4 <;> cases b5 <;> kernel_rfl
theorem six_or : ∀ b0 b1 b2 b3 b4 b5 : Bool, ([b0, b1, b2, b3, b4, b5] ≠ List.replicate 6 false) ↔ (b0 || b1 || b2 || b3 || b4 || b5) = true := by decide
end Go.Proofs.YtjpbccpleflkhaaDoor

namespace Go.Proofs.YtjpbccpleflkhaaDoor
open Go.RowKit
theorem eqlE (a0 a1 a2 a3 a4 a5 b0 b1 b2 b3 b4 b5 : Bool) (W : World) : (binOp .eql 105 (.agg #[.bool a0, .bool a1, .bool a2, .bool a3, .bool a4, .bool a5]) (.agg #[.bool b0, .bool b1, .bool b2, .bool b3, .bool b4, .bool b5])).run Tryd.prog W = .ok (.bool (a0 == b0 && a1 == b1 && a2 == b2 && a3 == b3 && a4 == b4 && a5 == b5)) W := by
  obtain ⟨i0, hi0, -⟩ := info_bool
  have hc : Tryd.prog.cellsOf 4 = 1 := by kernel_rfl
  rw [run_eql_struct, run_equalIn_array W 9999 _ _ (show Tryd.prog.underlying 105 = some (.array 6 4) from Tryd.underlying105) hi0, hc]
  simp [Op.eqItems, List.range, List.range.loop, go_sem]
  repeat' (first | rfl | split)
  all_goals simp_all
theorem eqlL {E F : List Bool} (hE : E.length = 6) (hF : F.length = 6) : (E.getD 0 false == F.getD 0 false && E.getD 1 false == F.getD 1 false && E.getD 2 false == F.getD 2 false && E.getD 3 false == F.getD 3 false && E.getD 4 false == F.getD 4 false && E.getD 5 false == F.getD 5 false) = decide (E = F) := by
  match E, hE, F, hF with
  | [a0, a1, a2, a3, a4, a5], _, [b0, b1, b2, b3, b4, b5], _ =>
    apply Sk.bool_eq
    simp [and_assoc]
/-- Where lists of ends lie, as arrays. -/
def CellsM (w : World) (ao : Option Addr) (M : List (List Bool)) : Prop :=
  0 < M.length → ∃ g off, ao = some ⟨g, off, none⟩ ∧ g < w.heap.size ∧ ∀ i, i < M.length → ∀ j, j < 6 → w.cell? ⟨g, off + i * 6 + j, none⟩ = some (.bool ((M.getD i []).getD j false))
def SeeM (w : World) (v : Value) (M : List (List Bool)) : Prop := ∃ ao cap, v = .slice ao M.length cap ∧ M.length ≤ cap ∧ cap ≤ 9223372036854775807 ∧ CellsM w ao M
theorem CellsM.step {w w' : World} {ao : Option Addr} {M : List (List Bool)} (h : CellsM w ao M) (hb : Below w.heap.size w w') : CellsM w' ao M := by
  intro hl
  obtain ⟨g, off, rfl, hg, h4⟩ := h hl
  exact ⟨g, off, rfl, Nat.lt_of_lt_of_le hg hb.size, fun i hi j hj => (hb.cell (p := ⟨g, off + i * 6 + j, none⟩) hg).trans (h4 i hi j hj)⟩
theorem SeeM.step {w w' : World} {v : Value} {M : List (List Bool)} (h : SeeM w v M) (hb : Below w.heap.size w w') : SeeM w' v M := by
  obtain ⟨ao, cap, rfl, h1, h2, h3⟩ := h
  exact ⟨ao, cap, rfl, h1, h2, h3.step hb⟩
theorem SeeM.nil (w : World) : SeeM w (.slice none 0 0) [] := ⟨none, 0, rfl, Nat.le_refl _, by omega, fun h => by simp at h⟩
theorem mem_take {α : Type} {M : List α} {d E : α} {i : Nat} (hi : i < M.length) (h : M.getD i d = E) : E ∈ M := by
  rw [List.getD_eq_getElem?_getD, List.getElem?_eq_getElem hi] at h
  rw [← h]; exact List.getElem_mem hi
theorem not_mem_of {α : Type} {M : List α} {d E : α} (h : ∀ i, i < M.length → M.getD i d ≠ E) : E ∉ M := fun hm => by
  obtain ⟨i, hi, he⟩ := List.mem_iff_getElem.1 hm
  refine h i hi ?_
  rw [List.getD_eq_getElem?_getD, List.getElem?_eq_getElem hi]; exact he
set_option maxHeartbeats 4000000 in
set_option maxRecDepth 100000 in
theorem idxE_any (v : Value) (M : List (List Bool)) (E : List Bool) (w : World) (hs : SeeM w v M) (hE : E.length = 6) (hM : ∀ i, i < M.length → (M.getD i []).length = 6) : Calls Tryd.prog 95 #[v, Sq.E6 E] w fun e w' => ∃ r : Int, e = .returned (.int .i64 r) ∧ decide (0 ≤ r) = decide (E ∈ M) ∧ Below w.heap.size w w' := by
  obtain ⟨ao, cap, rfl, hcap1, hcap2, hC⟩ := hs
  have HC := Lib.hid hC
  have HM := Lib.hid hM
  have HEl := Lib.hid hE
  have HBE := Lib.hid (boxE_new w (E.getD 0 false) (E.getD 1 false) (E.getD 2 false) (E.getD 3 false) (E.getD 4 false) (E.getD 5 false) 105)
  have HL := Lib.hid (allocB w (.cells #[.bool (E.getD 0 false), .bool (E.getD 1 false), .bool (E.getD 2 false), .bool (E.getD 3 false), .bool (E.getD 4 false), .bool (E.getD 5 false)] 105))
  have HQ := Lib.hid (fun i (hi : i < M.length) V => show (binOp .eql 105 (Sq.E6 E) (Sq.E6 (M.getD i []))).run Tryd.prog V = .ok (.bool (decide (E = M.getD i []))) V from by
    unfold Sq.E6; rw [eqlE, eqlL hE (hM i hi)])
  unfold Sq.E6 at HQ ⊢
  clear hC hM hE
  generalize E.getD 0 false = b0 at *
  generalize E.getD 1 false = b1 at *
  generalize E.getD 2 false = b2 at *
  generalize E.getD 3 false = b3 at *
  generalize E.getD 4 false = b4 at *
  generalize E.getD 5 false = b5 at *
  go_enter Tryd.func95, Tryd.ntmps95
  go_wp2
  go_loopw [8] (fun s8 wr => ∃ i : Nat, i ≤ M.length ∧ s8 = .int .i64 (i : Int) ∧ Hid (∀ a, a < i → M.getD a [] ≠ E) ∧ Hid (Below w.heap.size w wr) ∧ Hid (BoxE wr w.heap.size [b0, b1, b2, b3, b4, b5])) (fun s8 _ => M.length - (intOf s8).toNat)
  case atStart => exact ⟨0, Nat.zero_le _, rfl, Lib.hid (fun a h => by omega), HL, HBE⟩
  case round =>
    obtain ⟨i, hi, rfl, HJ, HB, HBr⟩ := hrel
    by_cases hil : i < M.length
    · have hilz : (i : Int) < (M.length : Int) := by omega
      obtain ⟨g, off, rfl, hg, hc⟩ := HC.out (by omega)
      have hgr : g < wr.heap.size := Nat.lt_of_lt_of_le hg HB.out.size
      have d0 := (HB.out.cell (p := ⟨g, off + i * 6 + 0, none⟩) hg).trans (hc i hil 0 (by omega))
      have d1 := (HB.out.cell (p := ⟨g, off + i * 6 + 1, none⟩) hg).trans (hc i hil 1 (by omega))
      have d2 := (HB.out.cell (p := ⟨g, off + i * 6 + 2, none⟩) hg).trans (hc i hil 2 (by omega))
      have d3 := (HB.out.cell (p := ⟨g, off + i * 6 + 3, none⟩) hg).trans (hc i hil 3 (by omega))
      have d4 := (HB.out.cell (p := ⟨g, off + i * 6 + 4, none⟩) hg).trans (hc i hil 4 (by omega))
      have d5 := (HB.out.cell (p := ⟨g, off + i * 6 + 5, none⟩) hg).trans (hc i hil 5 (by omega))
      rw [Nat.add_zero] at d0
      have hq := HQ.out i hil
      have HN2 : Hid (M.getD i [] ≠ E → ∀ a, a < i + 1 → M.getD a [] ≠ E) := Lib.hid (fun h a ha => by
        by_cases e : a = i
        · rw [e]; exact h
        · exact HJ.out a (by omega))
      have HY := Lib.hid (fun (h : E = M.getD i []) => decide_eq_true (mem_take hil h.symm))
      have HN3 : Hid (E ≠ M.getD i [] → M.getD i [] ≠ E) := Lib.hid (fun h e => h e.symm)
      obtain ⟨z0, z1, -⟩ := HBr.out
      have e0 := z1 0 (by omega)
      have e1 := z1 1 (by omega)
      have e2 := z1 2 (by omega)
      have e3 := z1 3 (by omega)
      have e4 := z1 4 (by omega)
      have e5 := z1 5 (by omega)
      clear hc HC HQ HM z1
      generalize M.getD i [] = F at *
      generalize F.getD 0 false = f0 at *
      generalize F.getD 1 false = f1 at *
      generalize F.getD 2 false = f2 at *
      generalize F.getD 3 false = f3 at *
      generalize F.getD 4 false = f4 at *
      generalize F.getD 5 false = f5 at *
      cases hd : decide (E = F)
      · have HJ3 := Lib.hid (HN2.out (HN3.out (of_decide_eq_false hd)))
        rw [hd] at hq
        clear hd
        go_wp2
        go_quiet (fail)
        go_wp2
        exact ⟨⟨i + 1, by omega, by first | rfl | go_num, HJ3, Lib.hid (HB.out.trans (below_drewN _ _)), Lib.hid (HBr.out.step (below_drewN _ _))⟩, by simp [intOf]; omega⟩
      · have hy := HY.out (of_decide_eq_true hd)
        rw [hd] at hq
        have HY2 := Lib.hid hy
        clear hd HY hy
        go_wp2
        go_quiet (fail)
        go_wp2
        go_ret
        exact ⟨_, rfl, by rw [HY2.out]; exact decide_eq_true (by omega), HB.out.trans (below_drewN _ _)⟩
    · obtain rfl : i = M.length := by omega
      have HY2 := Lib.hid (decide_eq_false (not_mem_of HJ.out))
      clear HQ HM HC
      go_wp2
      go_ret
      exact ⟨_, rfl, by rw [HY2.out]; rfl, HB.out⟩
end Go.Proofs.YtjpbccpleflkhaaDoor
