/- The iterator over the states of a sequence: its contract. A region that draws its order, in a round of a loop over a function: it goes as outside of one. The greatest actuator, and the check of a step, of package sequence. -/
import Derived.RangeFuncNested
import Derived.RangeFuncBound
import Derived.RangeFuncCalls
import Derived.RangeFuncLeaves
import Derived.RangeFuncBox
import Derived.Shelf.Abstract
import Derived.Shelf.RegionOpen
import Derived.OwnWalkIn
import Derived.TacticsInMore
import Derived.LoopNIn
import Derived.LoopIn
import Derived.Maps.OwnIn
import Derived.Test.YtjpbccpleflkhaaDoorG08
namespace Go.Proofs.YtjpbccpleflkhaaDoor
open Go.RowKit Go.Shelf
attribute [local go_sem] Oper.semAt_some
theorem range_split {i m : Nat} (h : i ≤ m) : ∃ rest, List.range m = List.range i ++ rest := by
  refine ⟨(List.range m).drop i, ?_⟩
  have h1 := List.take_append_drop i (List.range m)
  rw [List.take_range, Nat.min_eq_left h] at h1
  exact h1.symm
theorem AbO.below {β : Type} {b : Nat} {J : β → World → Prop} (h : AbO b J) {s : β} {W W' : World} (hs : J s W) (hb : Below W.heap.size W W') : J s W' :=
  h s W W' none hs ⟨hb.os, hb.tape, hb.output, hb.size, fun k hk _ => hb.block k hk⟩ (fun r e => by cases e)
theorem AbO.set {β : Type} {b : Nat} {J : β → World → Prop} (h : AbO b J) {s : β} {W : World} (hs : J s W) (o : Nat) (v : Value) : J s (W.setCell ⟨b, o, none⟩ v) :=
  h s W _ (some b) hs ⟨rfl, rfl, rfl, by simp [World.setCell], fun k _ hk => Below.heap_setCell _ _ _ _ (fun e => hk (by rw [e]))⟩ (fun r e => by cases e; rfl)
theorem set_six : ∀ {E : List Bool} (_ : E.length = 6) (c0 c1 c2 c3 c4 c5 : Bool), (((((E.set 0 c0).set 1 c1).set 2 c2).set 3 c3).set 4 c4).set 5 c5 = [c0, c1, c2, c3, c4, c5]
  | [_, _, _, _, _, _], _, _, _, _, _, _, _ => rfl
theorem BoxE.put6 {W : World} {g : Nat} {E : List Bool} (h : BoxE W g E) (hl : E.length = 6) (c0 c1 c2 c3 c4 c5 : Bool) : BoxE ((((((W.setCell ⟨g, 0, none⟩ (.bool c0)).setCell ⟨g, 1, none⟩ (.bool c1)).setCell ⟨g, 2, none⟩ (.bool c2)).setCell ⟨g, 3, none⟩ (.bool c3)).setCell ⟨g, 4, none⟩ (.bool c4)).setCell ⟨g, 5, none⟩ (.bool c5)) g [c0, c1, c2, c3, c4, c5] := by
  have h6 := (((((h.put (i := 0) (by omega) c0).put (i := 1) (by simp; omega) c1).put (i := 2) (by simp; omega) c2).put (i := 3) (by simp; omega) c3).put (i := 4) (by simp; omega) c4).put (i := 5) (by simp; omega) c5
  rw [set_six hl] at h6
  exact h6
theorem AbO.set6 {β : Type} {g : Nat} {J : β → World → Prop} (h : AbO g J) {s : β} {W : World} (hs : J s W) (c0 c1 c2 c3 c4 c5 : Bool) : J s ((((((W.setCell ⟨g, 0, none⟩ (.bool c0)).setCell ⟨g, 1, none⟩ (.bool c1)).setCell ⟨g, 2, none⟩ (.bool c2)).setCell ⟨g, 3, none⟩ (.bool c3)).setCell ⟨g, 4, none⟩ (.bool c4)).setCell ⟨g, 5, none⟩ (.bool c5)) :=
  h.set (h.set (h.set (h.set (h.set (h.set hs _ _) _ _) _ _) _ _) _ _) _ _
theorem heap_set6 (W : World) (g : Nat) (c0 c1 c2 c3 c4 c5 : Bool) {b : Nat} (hb : b ≠ g) : ((((((W.setCell ⟨g, 0, none⟩ (.bool c0)).setCell ⟨g, 1, none⟩ (.bool c1)).setCell ⟨g, 2, none⟩ (.bool c2)).setCell ⟨g, 3, none⟩ (.bool c3)).setCell ⟨g, 4, none⟩ (.bool c4)).setCell ⟨g, 5, none⟩ (.bool c5)).heap[b]? = W.heap[b]? :=
  (Below.heap_setCell _ _ _ _ hb).trans ((Below.heap_setCell _ _ _ _ hb).trans ((Below.heap_setCell _ _ _ _ hb).trans ((Below.heap_setCell _ _ _ _ hb).trans ((Below.heap_setCell _ _ _ _ hb).trans (Below.heap_setCell _ _ _ _ hb)))))
theorem below_set6 {B : Nat} {w W : World} (h : Below B w W) {g : Nat} (hg : B ≤ g) (c0 c1 c2 c3 c4 c5 : Bool) : Below B w ((((((W.setCell ⟨g, 0, none⟩ (.bool c0)).setCell ⟨g, 1, none⟩ (.bool c1)).setCell ⟨g, 2, none⟩ (.bool c2)).setCell ⟨g, 3, none⟩ (.bool c3)).setCell ⟨g, 4, none⟩ (.bool c4)).setCell ⟨g, 5, none⟩ (.bool c5)) :=
  (((((h.setCell (p := ⟨g, 0, none⟩) hg _).setCell (p := ⟨g, 1, none⟩) hg _).setCell (p := ⟨g, 2, none⟩) hg _).setCell (p := ⟨g, 3, none⟩) hg _).setCell (p := ⟨g, 4, none⟩) hg _).setCell (p := ⟨g, 5, none⟩) hg _
theorem size_set6 (W : World) (g : Nat) (c0 c1 c2 c3 c4 c5 : Bool) : ((((((W.setCell ⟨g, 0, none⟩ (.bool c0)).setCell ⟨g, 1, none⟩ (.bool c1)).setCell ⟨g, 2, none⟩ (.bool c2)).setCell ⟨g, 3, none⟩ (.bool c3)).setCell ⟨g, 4, none⟩ (.bool c4)).setCell ⟨g, 5, none⟩ (.bool c5)).heap.size = W.heap.size := by simp
/-- What must lie as it lay while the states are gone through. -/
def PrS (n0 gb B : Nat) (b : Nat) : Prop := b < n0 ∨ b = gb ∨ b = B + 3
set_option maxHeartbeats 4000000 in
set_option maxRecDepth 100000 in
theorem states_stops (n : Int) (v : Value) (L : List Sk.Stp) (m gb n0 B : Nat) (v0 w : World) (hs : SeeT v0 v L) (hn0 : v0.heap.size = n0) (hvw : Below n0 v0 w) (hB : w.heap.size = B) (hg1 : n0 ≤ gb) (hg2 : gb < B)
    (hc0 : w.cell? ⟨gb, 0, none⟩ = some (.int .i64 n)) (hc1 : w.cell? ⟨gb, 1, none⟩ = some v) (hl : L.length ≤ 64) (hu : Sq.Upto L m) :
    SeqO Fence.wide 8 Tryd.prog 92 #[.pointer (some ⟨gb, 0, none⟩)] (Sq.ke L) (PrS n0 gb B) 70
      (fun xs => xs.map (·.1) = List.range (m + 1)) (fun pre => ∃ rest, List.range (m + 1) = pre.map (·.1) ++ rest) 66 B w := by
  intro J Jx W hW hsz hJ hJx hY hj0
  refine callsIn_of_wp Tryd.func92 rfl trivial ?_ rfl
  simp only [Tryd.ntmps92, List.size_toArray, List.length_cons, List.length_nil, Nat.reduceAdd, Nat.reduceSub, Array.replicate_succ, Array.replicate_zero, List.push_toArray, List.append_toArray, List.nil_append, List.cons_append]
  have HY := Lib.hid hY
  have HJ := Lib.hid hJ
  have HJx := Lib.hid hJx
  have HS0 := Lib.hid hs
  have HN0 := Lib.hid hn0
  obtain ⟨ao, cap, rfl, hcap1, hcap2, -⟩ := hs
  have HC0 : Hid (W.cell? ⟨gb, 0, none⟩ = some (.int .i64 n) ∧ W.cell? ⟨gb, 1, none⟩ = some (.slice ao L.length cap)) := Lib.hid ⟨(hW.cell (p := ⟨gb, 0, none⟩) (by show gb < w.heap.size; omega)).trans hc0, (hW.cell (p := ⟨gb, 1, none⟩) (by show gb < w.heap.size; omega)).trans hc1⟩
  have HKp0 : Hid (∀ b, b < n0 → W.heap[b]? = v0.heap[b]?) := Lib.hid (fun b hb => (hW.block b (by omega)).trans (hvw.block b hb))
  have HU := Lib.hid hu
  have HJ0 := Lib.hid hj0
  have HSZ := Lib.hid hsz
  have hgW : gb < W.heap.size := by omega
  clear hY hJ hJx hc0 hc1 hu hj0 hW hvw hsz hn0
  gi_wp2_with (refine ⟨trivial, ?_⟩; gi_at_call 61; refine (callsIn_wide.2 (sAll_any _)).mono ?_; rintro e Wa ⟨rfl, hba, hza⟩; have HBa := Lib.hid hba; have HZa := Lib.hid hza; have hgA : gb < Wa.heap.size := Nat.lt_of_lt_of_le hgW hba.size; have q0 := (hba.cell (p := ⟨gb, 0, none⟩) hgW).trans HC0.out.1; have q1 := (hba.cell (p := ⟨gb, 1, none⟩) hgW).trans HC0.out.2; clear hba hza)
  have hnb : Wa.heap.size = B + 3 := by rw [HZa.out, HSZ.out]
  have HE0 : Hid (BoxE (Wa.alloc (.cells #[.bool false, .bool false, .bool false, .bool false, .bool false, .bool false] 105)) (B + 3) (Sq.bh 6 L 0)) := Lib.hid (by rw [← hnb]; exact boxE_new _ _ _ _ _ _ _ _)
  have HBW : Hid (Below W.heap.size W (Wa.alloc (.cells #[.bool false, .bool false, .bool false, .bool false, .bool false, .bool false] 105))) := Lib.hid (below_nxt HBa.out (allocB _ _))
  have HK0 : Hid (∀ b, b < n0 ∨ b = gb → (Wa.alloc (.cells #[.bool false, .bool false, .bool false, .bool false, .bool false, .bool false] 105)).heap[b]? = W.heap[b]?) := Lib.hid (fun b hb => HBW.out.block b (by rcases hb with hb | rfl <;> omega))
  have HJa := Lib.hid (HJ.out.below HJ0.out HBW.out)
  generalize hW1 : Wa.alloc (.cells #[.bool false, .bool false, .bool false, .bool false, .bool false, .bool false] 105) = W1 at *
  clear HBa HZa HBW HJ0 q0 q1 hgA
  rw [hnb]
  clear hnb hW1
  gi_loopw [12] (fun s12 wr => ∃ (i : Nat) (pre : List (Sq.Ix L)), s12 = .int .i64 (i : Int) ∧ i ≤ L.length ∧ Hid (pre.map (·.1) = List.range i ∧ ∀ j, j < i → Sq.okS L j = true) ∧ Hid (∀ b, b < n0 ∨ b = gb → wr.heap[b]? = W.heap[b]?) ∧ Hid (BoxE wr (B + 3) (Sq.bh 6 L i)) ∧ Hid (J pre wr)) (fun s12 _ => L.length - (intOf s12).toNat)
  case atStart => exact ⟨0, [], rfl, Nat.zero_le _, Lib.hid ⟨rfl, fun j h => by omega⟩, HK0, HE0, HJa⟩
  case round =>
    clear HK0 HE0 HJa
    obtain ⟨i, pre, rfl, hi, HP, HK, HE, HJr⟩ := hrel
    have hiz : (L.length : Int) ≤ 64 := by omega
    have him : i ≤ m := by
      obtain ⟨-, hu2, hu3⟩ := HU.out
      by_cases h : i ≤ m
      · exact h
      · have h1 := HP.out.2 m (by omega)
        rw [hu3 (by omega)] at h1; cases h1
    have hpl : pre.length = i := by have := congrArg List.length HP.out.1; simpa using this
    have HPm : ∀ x : Sq.Ix L, x.1 = i → (pre ++ [x]).map (·.1) = List.range (i + 1) := fun x hx => by rw [List.map_append, HP.out.1, List.range_succ, List.map_cons, List.map_nil, hx]
    obtain ⟨x, hx⟩ : ∃ x : Sq.Ix L, x.1 = i := ⟨⟨i, hi⟩, rfl⟩
    have HPx := Lib.hid (HPm x hx)
    have HYx := fun W1 (h : J pre W1) (h2 : B + 4 ≤ W1.heap.size) => Lib.hid (HY.out pre x W1 h h2 (by rw [hpl]; omega))
    have hke : Sq.ke L x = #[.int .i64 (i : Int), Sq.E6 (Sq.bh 6 L i)] := by unfold Sq.ke; rw [hx]
    rw [hke] at HYx
    unfold Sq.E6 at HYx
    obtain ⟨he0, he1, he2⟩ := HE.out
    have e0 := he1 0 (by omega)
    have e1 := he1 1 (by omega)
    have e2 := he1 2 (by omega)
    have e3 := he1 3 (by omega)
    have e4 := he1 4 (by omega)
    have e5 := he1 5 (by omega)
    have HEl := Lib.hid (Sq.bh_len 6 L i)
    have HIM := Lib.hid him
    by_cases hil : i < L.length
    · have hilz : (i : Int) < (L.length : Int) := by omega
      have hwr : ∀ r, r < n0 → wr.heap[r]? = v0.heap[r]? := fun r hr => (HK.out r (.inl hr)).trans (HKp0.out r hr)
      obtain ⟨ao', cap', hao, -, -, hC⟩ := id HS0.out
      simp only [Value.slice.injEq, true_and] at hao
      obtain ⟨rfl, rfl⟩ := hao
      obtain ⟨g, off, ak, ck, rfl, hg, d1, d2, hk⟩ := hC.at (Below.refl _ _) hil
      rw [HN0.out] at hg
      have c1 := (World.cell?_of_block (a := ⟨g, off + i * 2, none⟩) (hwr g hg)).trans d1
      have c2 := (World.cell?_of_block (a := ⟨g, off + i * 2 + 1, none⟩) (hwr g hg)).trans d2
      have hgr : g < wr.heap.size := by omega
      have HWR := Lib.hid hwr
      clear d1 d2 hwr
      have HAP := Lib.hid (Sq.app_six L i)
      have HSC := Lib.hid (Sq.bh_succ 6 hil)
      have HKs := Lib.hid hk
      have L1 := allocB wr (.cells #[.slice ak (L.getD i Sk.t0).1.length ck, .int .i64 (L.getD i Sk.t0).2] 70)
      have HL1 := Lib.hid L1
      have hyy := (HYx _ (HJ.out.below HJr.out L1) (by simp; omega)).out
      have HE1 := Lib.hid (HE.out.step L1)
      have HK1 : Hid (∀ b, b < n0 ∨ b = gb → (wr.alloc (.cells #[.slice ak (L.getD i Sk.t0).1.length ck, .int .i64 (L.getD i Sk.t0).2] 70)).heap[b]? = W.heap[b]?) := Lib.hid (fun b hb => (L1.block b (by have := he0; rcases hb with hb | rfl <;> omega)).trans (HK.out b hb))
      have HO := Lib.hid (fun j (hj : j < i) => HP.out.2 j hj)
      have HZ := Lib.hid he0
      clear HP HPm HK HE hk hC L1 HYx hke he1 he2 hpl him HJr
      generalize hE : Sq.bh 6 L i = E at *
      clear hE
      generalize L.getD i Sk.t0 = y at *
      obtain ⟨l, k⟩ := y
      simp only at c1 c2 HKs hyy HE1 HK1 HL1 HAP HSC
      generalize E.getD 0 false = b0 at *
      generalize E.getD 1 false = b1 at *
      generalize E.getD 2 false = b2 at *
      generalize E.getD 3 false = b3 at *
      generalize E.getD 4 false = b4 at *
      generalize E.getD 5 false = b5 at *
      obtain ⟨fn, tmps, assign, body, hy, hR⟩ := hyy
      gi_wp2
      refine hR.mono ?_
      clear hR hy
      rintro e W3 (⟨rfl, hJ3, hk3⟩ | ⟨rfl, hJx3⟩)
      · have hb70 : W3.heap[wr.heap.size]? = some (.cells #[.slice ak l.length ck, .int .i64 k] 70) := hk3.2 _ _ (by omega) (World.alloc_heap_new wr _)
        have hz3 : wr.heap.size < W3.heap.size := (Array.getElem?_eq_some_iff.1 hb70).1
        have p0 : W3.cell? ⟨wr.heap.size, 0, none⟩ = some (.slice ak l.length ck) := by simp [World.cell?, hb70]
        have p1 : W3.cell? ⟨wr.heap.size, 1, none⟩ = some (.int .i64 k) := by simp [World.cell?, hb70]
        have HE3 := Lib.hid (HE1.out.block (hk3.1 _ (.inr (.inr rfl))))
        have HK3 : Hid (∀ b, b < n0 ∨ b = gb → W3.heap[b]? = W.heap[b]?) := Lib.hid (fun b hb => (hk3.1 b (hb.elim .inl (fun h => .inr (.inl h)))).trans (HK1.out b hb))
        have HS3 : Hid (SeeK W3 (.slice ak l.length ck) l) := Lib.hid (HKs.out.same (by rw [HN0.out]; omega) (fun r _ hr => (HK3.out r (.inl (by rw [← HN0.out]; exact hr))).trans (HKp0.out r (by rw [← HN0.out]; exact hr))))
        have HJ3 := Lib.hid hJ3
        have CA := fun V (h1 : SeeK V (.slice ak l.length ck) l) (h2 : SeeB V (.slice (some ⟨B + 3, 0, none⟩) 6 6) E) => Lib.hid (sApp_form (.slice ak l.length ck) (.slice (some ⟨B + 3, 0, none⟩) 6 6) l k E V h1 h2)
        rw [HAP.out] at CA
        have hmx : Tryd.prog.follows .mixedOrders = true := by kernel_rfl
        have HD := Lib.hid (Below.refl W3.heap.size W3).drew
        clear hk3 hJ3 hb70 HK1 HE1 HAP HKs c1 c2 e0 e1 e2 e3 e4 e5
        cases hok : Sq.okS L i
        · rw [hok, if_neg (by decide)] at CA
          have hmi : Hid (m = i) := Lib.hid (by
            obtain ⟨-, hu2, -⟩ := HU.out
            have := HIM.out
            by_cases h : m = i
            · exact h
            · rw [hu2 i (by omega)] at hok; cases hok)
          have hcn : ((if Sk.chkP l k = 0 then (14 : Int) else Sk.chkP l k) != 0) = true := by
            by_cases h : Sk.chkP l k = 0
            · rw [if_pos h]; rfl
            · rw [if_neg h]; simpa using h
          generalize (if Sk.chkP l k = 0 then (14 : Int) else Sk.chkP l k) = cc at *
          clear hok
          gi_wp2
          gi_region_with_o (refine ⟨trivial, ?_⟩; gi_at_call 37; refine (callsIn_wide.2 ((CA _ (HS3.out.step HD.out) ((HE3.out.step HD.out).sees HEl.out)).out)).mono ?_; rintro e w2 ⟨ro, rcap, rfl, -, hb2⟩; have HJ2 := Lib.hid (HJ.out.below (HJ.out.below HJ3.out HD.out) hb2); clear hb2)
          all_goals
            clear p0 p1
            gi_wp2
            refine bodyPost_ret (results_none rfl _ _ _) rfl ?_
            exact ⟨⟨_, rfl⟩, .inl ⟨pre ++ [x], by rw [HPx.out, hmi.out], HJ2.out⟩⟩
        · rw [hok, if_pos rfl] at CA
          have hFl : (Sk.aft l E).length = 6 := by rw [Sk.aft_len]; exact HEl.out
          have CB : ∀ V, SeeK V (.slice ak l.length ck) l → SeeB V (.slice (some ⟨B + 3, 0, none⟩) 6 6) E → Hid (Calls Tryd.prog 37 #[.agg #[.slice ak l.length ck, .int .i64 k], .slice (some ⟨B + 3, 0, none⟩) 6 6] V fun e w' => ∃ ro rcap, e = .returned (.tuple #[.slice ro 6 rcap, .int .i64 0]) ∧ 6 ≤ rcap ∧ CellsB w' ro (Sk.aft l E) ∧ Below V.heap.size V w') := fun V h1 h2 => Lib.hid ((CA V h1 h2).out.mono (by
            rintro e w' ⟨ro, rcap, rfl, hse, hb⟩
            obtain ⟨ro', rcap', he, h6, -, hcb⟩ := hse
            simp only [Value.slice.injEq, true_and] at he
            obtain ⟨rfl, rfl⟩ := he
            simp only [hFl] at h6 ⊢
            exact ⟨ro, rcap, rfl, h6, hcb, hb⟩))
          have HOn : Hid (∀ j, j < i + 1 → Sq.okS L j = true) := Lib.hid (fun j hj => by
            by_cases e : j = i
            · rw [e]; exact hok
            · exact HO.out j (by omega))
          have HFl := Lib.hid hFl
          have HF0 := Lib.hid (fun (V : World) (a : Option Addr) (h : CellsB V a (Sk.aft l E)) => h (by rw [hFl]; omega))
          rw [hFl] at HF0
          clear CA hok HO hFl
          generalize Sk.aft l E = F at *
          have hF6 := six_eq HFl.out
          generalize F.getD 0 false = c0 at hF6
          generalize F.getD 1 false = c1 at hF6
          generalize F.getD 2 false = c2 at hF6
          generalize F.getD 3 false = c3 at hF6
          generalize F.getD 4 false = c4 at hF6
          generalize F.getD 5 false = c5 at hF6
          subst hF6
          gi_wp2
          gi_region_with_o (refine ⟨trivial, ?_⟩; gi_at_call 37; refine (callsIn_wide.2 ((CB _ (HS3.out.step HD.out) ((HE3.out.step HD.out).sees HEl.out)).out)).mono ?_; rintro e w2 ⟨ro, rcap, rfl, hr6, hcb, hb2⟩; obtain ⟨gr, offr, hro, hgr2, hcr⟩ := HF0.out _ _ hcb; have HCR := Lib.hid hcr; have hb3 := HD.out.trans (hb2.mono HD.out.size); have HB2 := Lib.hid hb3; have HE2 := Lib.hid (HE3.out.step hb3); clear hb2 hcb hb3 hcr; subst hro)
          all_goals
            clear p0 p1
            have f0 : w2.cell? ⟨gr, offr, none⟩ = some (.bool c0) := HCR.out 0 (by omega)
            have f1 : w2.cell? ⟨gr, offr + 1, none⟩ = some (.bool c1) := HCR.out 1 (by omega)
            have f2 : w2.cell? ⟨gr, offr + 2, none⟩ = some (.bool c2) := HCR.out 2 (by omega)
            have f3 : w2.cell? ⟨gr, offr + 3, none⟩ = some (.bool c3) := HCR.out 3 (by omega)
            have f4 : w2.cell? ⟨gr, offr + 4, none⟩ = some (.bool c4) := HCR.out 4 (by omega)
            have f5 : w2.cell? ⟨gr, offr + 5, none⟩ = some (.bool c5) := HCR.out 5 (by omega)
            obtain ⟨z0, z1, z2⟩ := HE2.out
            have zf0 := z2 0
            have zc0 := z1 0 (by omega)
            have zf1 := z2 1
            have zc1 := z1 1 (by omega)
            have zf2 := z2 2
            have zc2 := z1 2 (by omega)
            have zf3 := z2 3
            have zc3 := z1 3 (by omega)
            have zf4 := z2 4
            have zc4 := z1 4 (by omega)
            have zf5 := z2 5
            have zc5 := z1 5 (by omega)
            clear z1 z2
            have harr := run_arr6 ⟨gr, offr, none⟩ rcap w2
            gi_wp2
            refine ⟨⟨i + 1, pre ++ [x], by first | rfl | go_num, by omega, Lib.hid ⟨HPx.out, HOn.out⟩, Lib.hid (fun b hb => (heap_set6 w2 (B + 3) c0 c1 c2 c3 c4 c5 (by rcases hb with hb | rfl <;> omega)).trans ((HB2.out.block b (by have := HE3.out.1; rcases hb with hb | rfl <;> omega)).trans (HK3.out b hb))), Lib.hid (by rw [HSC.out]; exact HE2.out.put6 HEl.out c0 c1 c2 c3 c4 c5), Lib.hid (HJ.out.set6 (HJ.out.below HJ3.out HB2.out) c0 c1 c2 c3 c4 c5)⟩, by simp [intOf]; omega⟩
      · gi_wp2
        refine bodyPost_ret (results_none rfl _ _ _) rfl ?_
        obtain ⟨rest, hrest⟩ := range_split (i := i + 1) (m := m + 1) (by have := HIM.out; omega)
        exact ⟨⟨_, rfl⟩, .inr ⟨pre ++ [x], ⟨rest, by rw [HPx.out]; exact hrest⟩, hJx3⟩⟩
    · have hilz : (i : Int) = (L.length : Int) := by omega
      have hii : i = L.length := by omega
      have hmi : m = i := by have := HU.out.1; omega
      have q1 := (World.cell?_of_block (a := ⟨gb, 1, none⟩) (HK.out gb (.inr rfl))).trans HC0.out.2
      have hgr : gb < wr.heap.size := by omega
      have hyy := (HYx _ HJr.out (by omega)).out
      have hmi' := Lib.hid hmi
      rw [hilz] at hyy
      clear HP HPm HK HE HKp0 HYx hke he1 he2 hpl him HJr hmi hii
      generalize Sq.bh 6 L i = E at *
      generalize E.getD 0 false = b0 at *
      generalize E.getD 1 false = b1 at *
      generalize E.getD 2 false = b2 at *
      generalize E.getD 3 false = b3 at *
      generalize E.getD 4 false = b4 at *
      generalize E.getD 5 false = b5 at *
      obtain ⟨fn, tmps, assign, body, hy, hR⟩ := hyy
      gi_wp2
      refine hR.mono ?_
      clear hR hy
      rintro e W3 (⟨rfl, hJ3, -⟩ | ⟨rfl, hJx3⟩)
      · gi_wp2
        refine bodyPost_end (results_none rfl _ _ _) rfl ?_
        exact ⟨⟨_, rfl⟩, .inl ⟨pre ++ [x], by rw [HPx.out, hmi'.out], hJ3⟩⟩
      · gi_wp2
        refine bodyPost_end (results_none rfl _ _ _) rfl ?_
        exact ⟨⟨_, rfl⟩, .inr ⟨pre ++ [x], ⟨[], by rw [HPx.out, hmi'.out, List.append_nil]⟩, hJx3⟩⟩
end Go.Proofs.YtjpbccpleflkhaaDoor

namespace Go.Proofs.YtjpbccpleflkhaaDoor
open Go.RowKit Go.Shelf
theorem wpOpIn_round {n : Nat} {P : Program} {ops : Array Oper} {Q : Exit → Act → World → Prop} {l i : Nat} {K : Act → World → Prop} {a : Act} {w : World} (hd : ∀ (j : Nat) (o : Oper), ops[j]? = some o → ∀ c, o.op ≠ .defer c)
    (h : wpOpIn Fence.wide n P ops Q i K a w) : wpOpIn (Fence.wide.inRound l) n P ops Q i K a w := by
  unfold wpOpIn at *
  cases ho : ops[i]? with
  | none => rw [ho] at h; exact h
  | some o =>
    rw [ho] at h
    simp only at h ⊢
    split
    · rename_i hw
      rw [if_pos hw] at h
      unfold Oper.wpIn at *
      refine ⟨h.1, ?_⟩
      have h2 := h.2
      rw [show (Fence.wide.inRound l).round = some l from rfl, Oper.semAt_some _ _ _ (hd i o ho)]
      exact h2
    · rename_i hw
      rw [if_neg hw] at h
      exact h
theorem wpAnyIn_round {n : Nat} {P : Program} {md : Region.Mode} {ops : Array Oper} {Q : Exit → Act → World → Prop} {l : Nat} (hd : ∀ (j : Nat) (o : Oper), ops[j]? = some o → ∀ c, o.op ≠ .defer c) :
    ∀ (fuel : Nat) (listed : Array Bool) (a : Act) (w : World), wpAnyIn Fence.wide n P md ops Q fuel listed a w → wpAnyIn (Fence.wide.inRound l) n P md ops Q fuel listed a w
  | 0, _, _, _, h => h
  | fuel + 1, _, _, _, h => ⟨h.1, fun i hi => wpOpIn_round hd (wpOpIn_mono (fun a' w' h' => wpAnyIn_round hd fuel _ a' w' h') (h.2 i hi))⟩
/-- No operation is a 'defer'. -/
def noDefer (ops : Array Oper) : Bool := ops.all fun o => match o.op with | .defer _ => false | _ => true
theorem noDefer_spec {ops : Array Oper} (h : noDefer ops = true) : ∀ (j : Nat) (o : Oper), ops[j]? = some o → ∀ c, o.op ≠ .defer c := fun j o ho c e => by
  have hm := Array.all_eq_true.1 h j (Array.getElem?_eq_some_iff.1 ho).1
  rw [(Array.getElem?_eq_some_iff.1 ho).2, e] at hm
  cases hm
end Go.Proofs.YtjpbccpleflkhaaDoor

namespace Sq
open Sk
def mx (a b : Int) : Int := if a < b then b else a
def gre1 (l : List Str) (a : Int) : Int := l.foldl (fun a x => mx a x.1) a
/-- The greatest actuator, or a. -/
def gre (L : List Stp) (a : Int) : Int := L.foldl (fun a x => gre1 x.1 a) a
theorem gre1_take {l : List Str} {i : Nat} (h : i < l.length) (a : Int) : gre1 (l.take (i + 1)) a = mx (gre1 (l.take i) a) (l.getD i d0).1 := by
  unfold gre1
  rw [List.take_succ_eq_append_getElem h, List.foldl_append, List.getD_eq_getElem?_getD, List.getElem?_eq_getElem h]
  rfl
theorem gre_take {L : List Stp} {i : Nat} (h : i < L.length) (a : Int) : gre (L.take (i + 1)) a = gre1 (L.getD i t0).1 (gre (L.take i) a) := by
  unfold gre
  rw [List.take_succ_eq_append_getElem h, List.foldl_append, List.getD_eq_getElem?_getD, List.getElem?_eq_getElem h]
  rfl
theorem gre1_lt {n : Int} : ∀ {l : List Str} {a : Int}, gre1 l a < n ↔ a < n ∧ ∀ x ∈ l, x.1 < n
  | [], a => by simp [gre1]
  | x :: l, a => by
    have ih := gre1_lt (n := n) (l := l) (a := mx a x.1)
    have e : gre1 (x :: l) a = gre1 l (mx a x.1) := rfl
    rw [e, ih]
    have h : mx a x.1 < n ↔ a < n ∧ x.1 < n := by unfold mx; split <;> omega
    rw [h]
    simp only [List.mem_cons, forall_eq_or_imp]
    exact and_assoc
theorem low_gre {n : Nat} (hn : 0 < n) (l : List Str) (m : Int) : low n l = decide (gre [(l, m)] 0 < (n : Int)) := by
  have e : gre [(l, m)] 0 = gre1 l 0 := rfl
  rw [e]
  apply bool_eq
  rw [decide_eq_true_iff, gre1_lt]
  unfold low
  rw [List.all_eq_true]
  constructor
  · intro h; exact ⟨by omega, fun x hx => by simpa using h x hx⟩
  · intro h x hx; simpa using h.2 x hx
/-- The error of a step, given six ends. -/
def csV (n : Nat) (l : List Str) (k : Int) (E : List Bool) : Int := if chkP l k = 0 then (if low n l then (if sui l E then 0 else 14) else 6) else chkP l k
end Sq
namespace Go.Proofs.YtjpbccpleflkhaaDoor
open Go.RowKit
set_option maxHeartbeats 4000000 in
set_option maxRecDepth 100000 in
theorem sGre_any (v : Value) (L : List Sk.Stp) (w : World) (hs : SeeT w v L) : Calls Tryd.prog 75 #[v] w fun e w' => e = .returned (.int .i64 (Sq.gre L 0)) ∧ Below w.heap.size w w' := by
  obtain ⟨ao, cap, rfl, hcap1, hcap2, hC⟩ := hs
  have HC := Lib.hid hC
  have HT := Lib.hid (fun i (hi : i < L.length) => Sq.gre_take hi 0)
  have HAll : Hid (Sq.gre L 0 = Sq.gre (L.take L.length) 0) := Lib.hid (by rw [List.take_length])
  clear hC
  go_enter Tryd.func75, Tryd.ntmps75
  go_wp2
  go_loopw [3, 10] (fun s3 s10 wr => ∃ i : Nat, i ≤ L.length ∧ s3 = .int .i64 (Sq.gre (L.take i) 0) ∧ s10 = .int .i64 (i : Int) ∧ Hid (Below w.heap.size w wr)) (fun _ s10 _ => L.length - (intOf s10).toNat)
  case atStart => exact ⟨0, Nat.zero_le _, rfl, rfl, Lib.hid (Below.refl _ _)⟩
  case round =>
    obtain ⟨i, hi, rfl, rfl, HB⟩ := hrel
    obtain ⟨wo, rfl⟩ : ∃ wo, wo = wr := ⟨_, rfl⟩
    by_cases hil : i < L.length
    · have hilz : (i : Int) < (L.length : Int) := by omega
      obtain ⟨g, off, ak, ck, rfl, hg, c1, c2, hk⟩ := (HC.out.step HB.out).at (Below.refl _ _) hil
      have HTi := Lib.hid (HT.out i hil)
      obtain ⟨P1, L1, z1⟩ := boxP_new wo (.slice ak (L.getD i Sk.t0).1.length ck) (.int .i64 (L.getD i Sk.t0).2) 70
      have HK := Lib.hid (hk.step L1)
      have HB1 := Lib.hid (below_nxt HB.out L1)
      clear hk HT HAll L1 z1 HB
      generalize L.getD i Sk.t0 = y at *
      obtain ⟨l, k⟩ := y
      simp only at c1 c2 HK HTi HB1 P1
      generalize Sq.gre (L.take i) 0 = a at *
      obtain ⟨p0, p1, p2⟩ := P1
      obtain ⟨ao', ck', hao, hl1, hl2, hCk⟩ := id HK.out
      simp only [Value.slice.injEq, true_and] at hao
      obtain ⟨rfl, rfl⟩ := hao
      have HCk := Lib.hid hCk
      have HTj := Lib.hid (fun j (hj : j < l.length) => Sq.gre1_take hj a)
      have HAj : Hid (Sq.gre1 l a = Sq.gre1 (l.take l.length) a) := Lib.hid (by rw [List.take_length])
      clear hCk HK
      go_wp2
      clear p0 p1 p2 c1 c2
      generalize wo.alloc (.cells #[.slice ak l.length ck, .int .i64 k] 70) = W1 at *
      go_loopw [3, 17] (fun s3 s17 wq => ∃ j : Nat, j ≤ l.length ∧ s3 = .int .i64 (Sq.gre1 (l.take j) a) ∧ s17 = .int .i64 (j : Int) ∧ Hid (Below w.heap.size w wq) ∧ Hid (Below W1.heap.size W1 wq)) (fun _ s17 _ => l.length - (intOf s17).toNat)
      case atStart => exact ⟨0, Nat.zero_le _, rfl, rfl, HB1, Lib.hid (Below.refl _ _)⟩
      case round =>
        obtain ⟨j, hj, rfl, rfl, HBq, HBr⟩ := hrel
        by_cases hjl : j < l.length
        · have hjlz : (j : Int) < (l.length : Int) := by omega
          obtain ⟨g', off', rfl, hg', d1, d2⟩ := HCk.out.at HBr.out hjl
          have HTn := Lib.hid (HTj.out j hjl)
          have L2 := allocB wr (.cells #[.int .i64 (l.getD j Sk.d0).1, .bool (l.getD j Sk.d0).2] 47)
          have HB2 := Lib.hid (below_nxt HBq.out L2)
          have HB3 := Lib.hid (below_nxt HBr.out L2)
          clear HTj HAj HTi HBq HBr L2 HB1
          generalize Sq.gre1 (l.take j) a = b at *
          generalize (l.getD j Sk.d0).1 = x at *
          generalize (l.getD j Sk.d0).2 = o at *
          by_cases hx : b < x
          · go_wp2
            exact ⟨⟨j + 1, by omega, by rw [HTn.out]; unfold Sq.mx; rw [if_pos hx]; simp; omega, by first | rfl | go_num, HB2, HB3⟩, by simp [intOf]; omega⟩
          · have hx' : x ≤ b := by omega
            clear hx
            go_wp2
            exact ⟨⟨j + 1, by omega, by rw [HTn.out]; unfold Sq.mx; rw [if_neg (by omega)]; simp; omega, by first | rfl | go_num, HB2, HB3⟩, by simp [intOf]; omega⟩
        · have hjlz : (j : Int) = (l.length : Int) := by omega
          obtain rfl : j = l.length := by omega
          go_wp2
          exact ⟨⟨i + 1, by omega, by rw [HTi.out, HAj.out], by first | rfl | go_num, HBq⟩, by simp [intOf]; omega⟩
    · obtain rfl : i = L.length := by omega
      go_wp2
      go_ret
      exact ⟨by rw [HAll.out]; rfl, HB.out⟩
/-- One step as a list. -/
theorem seeT_one' {W : World} {g : Nat} {u : Value} {l : List Sk.Str} {n : Int} (hg : g < W.heap.size) (h0 : W.cell? ⟨g, 0, none⟩ = some u) (h1 : W.cell? ⟨g, 1, none⟩ = some (.int .i64 n)) (hu : SeeK W u l) : SeeT W (.slice (some ⟨g, 0, none⟩) 1 1) [(l, n)] :=
  ⟨_, 1, rfl, by simp, by omega, fun _ => ⟨g, 0, rfl, hg, fun i hi => by
    obtain rfl : i = 0 := by simp at hi; omega
    exact ⟨⟨u, h0, hu⟩, h1⟩⟩⟩
set_option maxHeartbeats 4000000 in
set_option maxRecDepth 100000 in
theorem sCks_any (v : Value) (l : List Sk.Str) (k : Int) (n : Nat) (E : List Bool) (w : World) (hs : SeeK w v l) (hE : E.length = 6) (hn : 0 < n) : Calls Tryd.prog 60 #[.agg #[v, .int .i64 k], .int .i64 (n : Int), Sq.E6 E] w fun e w' => e = .returned (.int .i64 (Sq.csV n l k E)) ∧ Below w.heap.size w w' := by
  have HS := Lib.hid hs
  obtain ⟨ao, cap, rfl, hcap1, hcap2, -⟩ := hs
  obtain ⟨P0, L0, z0⟩ := boxP_new w (.slice ao l.length cap) (.int .i64 k) 70
  have hlow := Sq.low_gre hn l k
  have HE6 := Lib.hid (six_eq hE)
  unfold Sq.E6
  generalize hb0 : E.getD 0 false = b0 at *
  generalize hb1 : E.getD 1 false = b1 at *
  generalize hb2 : E.getD 2 false = b2 at *
  generalize hb3 : E.getD 3 false = b3 at *
  generalize hb4 : E.getD 4 false = b4 at *
  generalize hb5 : E.getD 5 false = b5 at *
  have L1 := allocB (w.alloc (.cells #[.slice ao l.length cap, .int .i64 k] 70)) (.cells #[.bool b0, .bool b1, .bool b2, .bool b3, .bool b4, .bool b5] 105)
  have hBE := boxE_new (w.alloc (.cells #[.slice ao l.length cap, .int .i64 k] 70)) b0 b1 b2 b3 b4 b5 105
  rw [← HE6.out, z0] at hBE
  have HB := Lib.hid (below_nxt L0 L1)
  have HP := Lib.hid (P0.step L1)
  have HBE := Lib.hid hBE
  have HS1 := Lib.hid ((HS.out.step L0).step L1)
  have HEl := Lib.hid hE
  clear P0 L0 z0 L1 hBE hE hb0 hb1 hb2 hb3 hb4 hb5
  generalize hW : (w.alloc (.cells #[.slice ao l.length cap, .int .i64 k] 70)).alloc (.cells #[.bool b0, .bool b1, .bool b2, .bool b3, .bool b4, .bool b5] 105) = W at *
  have hfit : Sk.fitV l k E = if Sk.chkP l k = 0 then (Sk.sui l E, 0) else (false, Sk.chkP l k) := by
    unfold Sk.fitV; rw [HEl.out, if_neg (show ¬ 6 < 6 by omega)]
  have CF := fun V (h1 : SeeK V (.slice ao l.length cap) l) (h2 : SeeB V (.slice (some ⟨w.heap.size + 1, 0, none⟩) 6 6) E) => Lib.hid (sFit_any (.slice ao l.length cap) (.slice (some ⟨w.heap.size + 1, 0, none⟩) 6 6) l k E V h1 h2)
  rw [hfit] at CF
  have HD := Lib.hid (Below.refl W.heap.size W).drew
  obtain ⟨p0, p1, p2⟩ := HP.out
  unfold Sq.csV
  by_cases hc : Sk.chkP l k = 0
  · rw [if_pos hc] at CF ⊢
    rw [hlow]
    have CG := fun V v (h : SeeT V v [(l, k)]) => Lib.hid (sGre_any v [(l, k)] V h)
    clear hc hfit hlow
    generalize Sq.gre [(l, k)] 0 = gr at *
    by_cases hg : gr < (n : Int)
    · rw [if_pos (decide_eq_true hg)]
      cases hsu : Sk.sui l E <;> rw [hsu] at CF
      all_goals
        go_enter Tryd.func60, Tryd.ntmps60
        go_wp2_with fail
        clear hW
        go_region_with (go_at_call 72; (with_reducible refine ((CF _ (HS1.out.step HD.out) ((HBE.out.step HD.out).sees HEl.out)).out).mono ?_); rintro e w2 ⟨rfl, hb2⟩; have hb3 := HD.out.trans (hb2.mono HD.out.size); have HB2 := Lib.hid (below_nxt HB.out hb3); have HP2 := Lib.hid (HP.out.step hb3); have HS2 := Lib.hid (HS1.out.step hb3); clear hb2 hb3)
        all_goals
          clear p0 p1 p2
          obtain ⟨p0, p1, p2⟩ := HP2.out
          go_wp2_with fail
          refine ((CG _ _ (seeT_one' (by simp) (by simp) (by simp) (HS2.out.step (allocB _ _)))).out).mono ?_
          rintro e w3 ⟨rfl, hb3⟩
          have HB3 := Lib.hid (below_nxt (below_nxt HB2.out (allocB _ _)) hb3)
          clear hb3
          go_wp2
          go_ret
          exact ⟨rfl, HB3.out⟩
    · rw [if_neg (by simpa using hg)]
      have hg' : (n : Int) ≤ gr := by omega
      clear hg
      go_enter Tryd.func60, Tryd.ntmps60
      go_wp2_with fail
      clear hW
      go_region_with (go_at_call 72; (with_reducible refine ((CF _ (HS1.out.step HD.out) ((HBE.out.step HD.out).sees HEl.out)).out).mono ?_); rintro e w2 ⟨rfl, hb2⟩; have hb3 := HD.out.trans (hb2.mono HD.out.size); have HB2 := Lib.hid (below_nxt HB.out hb3); have HP2 := Lib.hid (HP.out.step hb3); have HS2 := Lib.hid (HS1.out.step hb3); clear hb2 hb3)
      all_goals
        clear p0 p1 p2
        obtain ⟨p0, p1, p2⟩ := HP2.out
        go_wp2_with fail
        refine ((CG _ _ (seeT_one' (by simp) (by simp) (by simp) (HS2.out.step (allocB _ _)))).out).mono ?_
        rintro e w3 ⟨rfl, hb3⟩
        have HB3 := Lib.hid (below_nxt (below_nxt HB2.out (allocB _ _)) hb3)
        clear hb3
        go_wp2
        go_ret
        exact ⟨rfl, HB3.out⟩
  · rw [if_neg hc] at CF ⊢
    have hct : (Sk.chkP l k != 0) = true := by simpa using hc
    clear hc hfit hlow
    generalize Sk.chkP l k = c at *
    go_enter Tryd.func60, Tryd.ntmps60
    go_wp2_with fail
    clear hW
    go_region_with (go_at_call 72; (with_reducible refine ((CF _ (HS1.out.step HD.out) ((HBE.out.step HD.out).sees HEl.out)).out).mono ?_); rintro e w2 ⟨rfl, hb2⟩; have hb3 := HD.out.trans (hb2.mono HD.out.size); have HB2 := Lib.hid (below_nxt HB.out hb3); clear hb2 hb3)
    all_goals
      go_wp2
      go_ret
      exact ⟨rfl, HB2.out⟩
end Go.Proofs.YtjpbccpleflkhaaDoor
