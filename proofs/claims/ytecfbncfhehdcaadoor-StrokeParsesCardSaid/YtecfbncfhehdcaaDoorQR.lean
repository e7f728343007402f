/- The parts of a text between separators, and the iterator over them. -/
import Derived.RangeFuncNested
import Derived.RangeFuncBound
import Derived.RangeFuncCalls
import Derived.RangeFuncLeaves
import Derived.RangeFuncBox
import Derived.Shelf.Abstract
import Derived.Shelf.RegionOpen
import Derived.OwnWalkIn
import Derived.TacticsInMore
import Derived.LoopNIn
import Derived.LoopIn
import Derived.Maps.OwnIn
import Derived.Test.YtecfbncfhehdcaaDoorQP
namespace Sk
open Go
/-- The offsets and the parts, from an offset on. -/
def prt (l sep : List UInt8) : Nat → Nat → List (Int × List UInt8)
  | 0, _ => []
  | f + 1, a => ((a : Int), (Lib.cut (l.drop a) sep).1) :: (if (Lib.cut (l.drop a) sep).2.2 then prt l sep f (a + ((Lib.cut (l.drop a) sep).1.length + sep.length)) else [])
def prts (l sep : List UInt8) : List (Int × List UInt8) := prt l sep (l.length + 1) 0
/-- A part that was found is followed by the separator. -/
theorem cut_room {r sep : List UInt8} (h : (Lib.cut r sep).2.2 = true) : (Lib.cut r sep).1.length + sep.length ≤ r.length := by
  unfold Lib.cut at h ⊢
  by_cases h0 : 0 ≤ Lib.index r sep
  · have := Lib.index_room r sep h0
    rw [if_pos h0]
    simp only [List.length_take]
    omega
  · rw [if_neg h0] at h; cases h
theorem cut_le (r sep : List UInt8) : (Lib.cut r sep).1.length ≤ r.length := by
  unfold Lib.cut
  split
  · simp only [List.length_take]; omega
  · exact Nat.le_refl _
/-- One offset, and one part. -/
def Prt : Type := { x : Int × ByteArray // 0 ≤ x.1 ∧ x.1 ≤ 1000000 ∧ x.2.size ≤ 4096 }
def pv (x : Prt) : Int × List UInt8 := (x.1.1, x.1.2.data.toList)
def pe (x : Prt) : Array Value := #[.int .i64 x.1.1, .string x.1.2]
theorem pe_size (x : Prt) : (pe x).size = 2 := rfl
end Sk
namespace Go.Proofs.YtecfbncfhehdcaaDoor
open Go.RowKit Go.Shelf
attribute [local go_sem] Oper.semAt_some
theorem sPts_any (s sep : ByteArray) (w : World) : Calls Tryd.prog 52 #[.string s, .string sep] w fun e w' => e = .returned (.func (.func 83) #[] #[.pointer (some ⟨w.heap.size, 0, none⟩), .pointer (some ⟨w.heap.size + 1, 0, none⟩)]) ∧ w' = (w.alloc (.cells #[.string s] 9)).alloc (.cells #[.string sep] 9) := by
  go_enter Tryd.func52, Tryd.ntmps52
  go_wp2
  go_ret
  exact ⟨rfl, rfl⟩
theorem cutQ_any (s sep : ByteArray) (w : World) (hm0 : ∃ m : Int, w.cell? ⟨0, 0, none⟩ = some (.int .i64 m)) (hz : s.size ≤ 1000000) :
    Calls Tryd.prog 84 #[.string s, .string sep] w fun e w' => e = .returned (.tuple #[.string ⟨(Lib.cut s.data.toList sep.data.toList).1.toArray⟩, .string ⟨(Lib.cut s.data.toList sep.data.toList).2.1.toArray⟩, .bool (Lib.cut s.data.toList sep.data.toList).2.2]) ∧ ∃ n, w' = w.drewN n := by
  obtain ⟨m, hm⟩ := hm0
  exact Tryd.strings_Cut s sep m w (by omega) hm
/-- What a round over the parts must leave alone. -/
def KpT (tb sb : Nat) (W W' : World) : Prop := ∀ b, b = tb ∨ b = sb ∨ b = 0 → W'.heap[b]? = W.heap[b]?
theorem KpT.refl (tb sb : Nat) (W : World) : KpT tb sb W W := fun _ _ => rfl
theorem KpT.trans {tb sb : Nat} {A B C : World} (h : KpT tb sb A B) (k : KpT tb sb B C) : KpT tb sb A C := fun b hb => (k b hb).trans (h b hb)
theorem KpT.grown {tb sb : Nat} {W W' : World} {row : Option Nat} (hg : W.grownBy W' row) (ht : tb < W.heap.size) (hs : sb < W.heap.size) (hrow : ∀ r, row = some r → r ≠ tb ∧ r ≠ sb ∧ r ≠ 0) : KpT tb sb W W' := fun b hb => by
  refine hg.block b (by rcases hb with rfl | rfl | rfl <;> omega) (fun e => ?_)
  have := hrow b e.symm
  rcases hb with rfl | rfl | rfl <;> omega
theorem KpT.below {tb sb : Nat} {W W' : World} (hb : Below W.heap.size W W') (ht : tb < W.heap.size) (hs : sb < W.heap.size) : KpT tb sb W W' := fun b h => hb.block b (by rcases h with rfl | rfl | rfl <;> omega)
theorem KpT.cell {tb sb : Nat} {W W' : World} (h : KpT tb sb W W') {b : Nat} (hb : b = tb ∨ b = sb ∨ b = 0) (o : Nat) : W'.cell? ⟨b, o, none⟩ = W.cell? ⟨b, o, none⟩ := World.cell?_of_block (w := W) (h b hb)
theorem KpT.put {tb sb : Nat} (w : World) (ht : tb < w.heap.size) (hs : sb < w.heap.size) (W : World) (l : Nat) (o o' : Obj) (hl : w.heap.size ≤ l) (_ : W.heap[l]? = some o) (_ : o.isCells = false) (_ : o.isWalk = false) : KpT tb sb W (W.putObj l o') := fun b hb =>
  World.putObj_heap_other (by rcases hb with rfl | rfl | rfl <;> omega)
set_option maxHeartbeats 4000000 in
set_option maxRecDepth 100000 in
/-- **The iterator over the parts.** -/
theorem parts_stops (s sep : ByteArray) (tb sb : Nat) (w : World) (hz : s.size ≤ 4096) (hp1 : 0 < sep.size) (hp2 : sep.size ≤ 10) (ht : tb < w.heap.size) (hs : sb < w.heap.size) (h0 : ∃ m : Int, w.cell? ⟨0, 0, none⟩ = some (.int .i64 m)) (h1 : w.cell? ⟨tb, 0, none⟩ = some (.string s)) (h2 : w.cell? ⟨sb, 0, none⟩ = some (.string sep)) :
    SeqStopsK Fence.wide 8 Tryd.prog 83 #[.pointer (some ⟨tb, 0, none⟩), .pointer (some ⟨sb, 0, none⟩)] Sk.pe (KpT tb sb)
      (fun xs => xs.map Sk.pv = Sk.prts s.data.toList sep.data.toList) (fun pre => ∃ rest, Sk.prts s.data.toList sep.data.toList = pre.map Sk.pv ++ rest) (s.size + 1) w := by
  intro l J Jx W hW hJ hJx hY hj0
  have h00 : 0 < w.heap.size := by omega
  refine callsIn_of_wp Tryd.func83 rfl trivial ?_ rfl
  simp only [Tryd.ntmps83, List.size_toArray, List.length_cons, List.length_nil, Nat.reduceAdd, Nat.reduceSub, Array.replicate_succ, Array.replicate_zero, List.push_toArray, List.append_toArray, List.nil_append, List.cons_append]
  have HY := Lib.hid hY
  obtain ⟨m0, h0'⟩ := h0
  have H0m := Lib.hid ((hW.cell (p := ⟨0, 0, none⟩) h00).trans h0')
  have HT := Lib.hid ((hW.cell (p := ⟨tb, 0, none⟩) ht).trans h1)
  have HS := Lib.hid ((hW.cell (p := ⟨sb, 0, none⟩) hs).trans h2)
  have HJ := Lib.hid hJ
  have HJx := Lib.hid hJx
  have H0 := Lib.hid hj0
  clear hY h1 h2 hJ hJx hj0 h0'
  gi_wp2
  gi_loopw [4] (fun s4 wr => ∃ (a : Nat) (pre : List Sk.Prt) (f : Nat), s4 = .int .i64 (a : Int) ∧ a ≤ s.size ∧ Hid (pre.length ≤ a ∧ s.size + 1 ≤ f + a ∧ Sk.prts s.data.toList sep.data.toList = pre.map Sk.pv ++ Sk.prt s.data.toList sep.data.toList f a) ∧ Hid (KpT tb sb W wr) ∧ Hid (J pre wr)) (fun s4 _ => s.size + 1 - (intOf s4).toNat)
  case atStart => exact ⟨0, [], s.size + 1, rfl, Nat.zero_le _, Lib.hid ⟨Nat.zero_le _, by omega, by
    have hl : s.data.toList.length = s.size := Array.length_toList
    unfold Sk.prts; rw [hl]; rfl⟩, Lib.hid (KpT.refl _ _ _), H0⟩
  case round =>
    obtain ⟨a, pre, f, rfl, ha, HP, HB, HJr⟩ := hrel
    obtain ⟨hp1', hp2', hp3'⟩ := HP.out
    obtain ⟨g, rfl⟩ : ∃ g, f = g + 1 := ⟨f - 1, by omega⟩
    have hl : s.data.toList.length = s.size := Array.length_toList
    have hext : (s.extract a s.size).data.toList = s.data.toList.drop a := Lib.extract_to_end s a
    have hxz : (s.extract a s.size).size ≤ 1000000 := by
      have e1 : (s.extract a s.size).size = (s.extract a s.size).data.toList.length := Array.length_toList.symm
      rw [e1, hext, List.length_drop]; omega
    have CC := fun W (h : ∃ m : Int, W.cell? ⟨0, 0, none⟩ = some (.int .i64 m)) => Lib.hid (cutQ_any (s.extract a s.size) sep W h hxz)
    rw [hext] at CC
    have hc1 := Sk.cut_le (s.data.toList.drop a) sep.data.toList
    have hc2 := @Sk.cut_room (s.data.toList.drop a) sep.data.toList
    have hsl : sep.data.toList.length = sep.size := Array.length_toList
    rw [List.length_drop, hl] at hc1 hc2
    rw [hsl] at hc2
    rw [Sk.prt, hsl] at hp3'
    generalize hcv : Lib.cut (s.data.toList.drop a) sep.data.toList = c at *
    obtain ⟨x1, x2, x3⟩ := c
    simp only at hc1 hc2 hp3' CC
    obtain ⟨x, hx⟩ : ∃ x : Sk.Prt, x.1 = ((a : Int), (⟨x1.toArray⟩ : ByteArray)) := ⟨⟨((a : Int), ⟨x1.toArray⟩), by
      refine ⟨by simp, by simp; omega, ?_⟩
      rw [size_mk]; omega⟩, rfl⟩
    have HX : Hid (Sk.pv x = ((a : Int), x1)) := Lib.hid (by unfold Sk.pv; rw [hx])
    have hpe : Sk.pe x = #[.int .i64 (a : Int), .string ⟨x1.toArray⟩] := by unfold Sk.pe; rw [hx]
    have HYx := fun W1 (h : J pre W1) => Lib.hid (HY.out pre x W1 h (by omega))
    rw [hpe] at HYx
    have HP3 := Lib.hid hp3'
    have HC2 := Lib.hid hc2
    have t1 := (HB.out.cell (.inl rfl) 0).trans HT.out
    have t2 := (HB.out.cell (.inr (.inl rfl)) 0).trans HS.out
    have hai : (a : Int) ≤ (s.size : Int) := by omega
    have hx1z : (⟨x1.toArray⟩ : ByteArray).size ≤ 4096 := by rw [size_mk]; omega
    have hx1e : (⟨x1.toArray⟩ : ByteArray).size = x1.length := size_mk x1
    have HSW := Lib.hid ((HB.out.cell (.inr (.inr rfl)) 0).trans H0m.out)
    have hmx : Tryd.prog.follows .mixedOrders = true := by kernel_rfl
    have HPP : Hid (pre.length ≤ a ∧ s.size + 1 ≤ g + 1 + a) := Lib.hid ⟨hp1', hp2'⟩
    clear hp1' hp2' hp3' HP hc1 hc2 hext hxz hl hsl hcv HY hx hpe
    gi_wp2
    gi_region_with_o (refine ⟨trivial, ?_⟩; gi_at_call 84; refine (callsIn_wide.2 ((CC _ ⟨m0, by rw [World.cell?_drew]; exact HSW.out⟩).out)).mono ?_; rintro e w2 ⟨rfl, nd, hw2⟩; have HJ2 : Hid (J pre w2) := (by rw [hw2]; exact Lib.hid (HJ.out _ _ _ none HJr.out ⟨rfl, rfl, rfl, Nat.le_refl _, fun _ _ _ => rfl⟩ (fun r e => by cases e))); have HB2 : Hid (KpT tb sb W w2) := (by rw [hw2]; exact Lib.hid (HB.out.trans (fun b hb => rfl))); clear hw2)
    all_goals
      obtain ⟨fn, tmps, assign, body, hy, hR⟩ := (HYx w2 HJ2.out).out
      clear CC HYx t1 t2 HSW HJr HJ2
      gi_wp2
      refine hR.mono ?_
      clear hR hy
      rintro e W3 (⟨rfl, hJ3, hk3⟩ | ⟨rfl, hJx3⟩)
      · have HJ3 := Lib.hid hJ3
        have HB3 := Lib.hid (HB2.out.trans hk3)
        have t3 := (HB3.out.cell (.inr (.inl rfl)) 0).trans HS.out
        clear hJ3 hk3
        cases x3
        · gi_wp2
          refine bodyPost_ret (results_none rfl _ _ _) rfl ?_
          exact ⟨⟨_, rfl⟩, .inl ⟨pre ++ [x], by rw [HP3.out, List.map_append, List.map_cons, List.map_nil, HX.out]; simp, HJ3.out⟩⟩
        · have hroom := HC2.out rfl
          have hz3 : ((⟨x1.toArray⟩ : ByteArray).size : Int) ≤ 4096 := by omega
          have hz4 : (sep.size : Int) ≤ 10 := by omega
          gi_wp2
          have hpp := HPP.out
          go_roundw
          case rel => exact ⟨a + (x1.length + sep.size), pre ++ [x], g, by first | rfl | go_num | (rw [hx1e]; go_num), by omega, Lib.hid ⟨by simp; omega, by omega, by rw [HP3.out, List.map_append, List.map_cons, List.map_nil, HX.out]; simp⟩, HB3, HJ3⟩
          case measure => simp [intOf]; omega
      · gi_wp2
        refine bodyPost_ret (results_none rfl _ _ _) rfl ?_
        exact ⟨⟨_, rfl⟩, .inr ⟨pre ++ [x], ⟨_, by rw [HP3.out, List.map_append, List.map_cons, List.map_nil, HX.out, List.append_assoc]; rfl⟩, hJx3⟩⟩
end Go.Proofs.YtecfbncfhehdcaaDoor

