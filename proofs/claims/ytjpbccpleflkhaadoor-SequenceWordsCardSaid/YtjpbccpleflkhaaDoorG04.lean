/- readStroke of package stroke. readStroke of package stroke: its call. readWait of package stroke. readWait of package stroke: its call. The parts of a text between separators, and the iterator over them. -/
import Derived.Test.YtjpbccpleflkhaaDoorG03
import Derived.Laws.IdiomStrings
import Derived.Laws.RangeString
import Derived.Laws.RangeAny
import Derived.BigRegion
import Derived.StillTailTactics
import Derived.Lib.AtoiAllCases
import Derived.RangeFuncNested
import Derived.RangeFuncBound
import Derived.RangeFuncCalls
import Derived.RangeFuncLeaves
import Derived.RangeFuncBox
import Derived.Shelf.Abstract
import Derived.Shelf.RegionOpen
import Derived.OwnWalkIn
import Derived.TacticsInMore
import Derived.LoopNIn
import Derived.LoopIn
import Derived.Maps.OwnIn
namespace Sk
open Go
/-- The stroke with a text, if there is one. -/
def rdS : List UInt8 → Option Str
  | [a, b] => if 65 ≤ a.toNat ∧ a.toNat < 71 ∧ (b = 43 ∨ b = 45) then some ((a.toNat : Int) - 65, b == 43) else none
  | _ => none
theorem runes_size (s : ByteArray) : ∀ (bound i : Nat) (acc : Array Value), acc.size ≤ (Conv.runesFrom s bound i acc).size
  | 0, _, acc => Nat.le_refl _
  | bound + 1, i, acc => by
    unfold Conv.runesFrom
    split
    · have := runes_size s bound (i + (Utf8.decode s i).2) (acc.push (.int .i32 (Int.ofNat (Utf8.decode s i).1)))
      simp at this
      exact Nat.le_trans (by omega) this
    · exact Nat.le_refl _
theorem runes_pos {s : ByteArray} {bound i : Nat} {acc : Array Value} (hi : i < s.size) : acc.size + 1 ≤ (Conv.runesFrom s (bound + 1) i acc).size := by
  unfold Conv.runesFrom
  rw [if_pos hi]
  have := runes_size s bound (i + (Utf8.decode s i).2) (acc.push (.int .i32 (Int.ofNat (Utf8.decode s i).1)))
  simpa using this
theorem runes_step {s : ByteArray} {bound i : Nat} {acc : Array Value} (hi : i < s.size) : Conv.runesFrom s (bound + 1) i acc = Conv.runesFrom s bound (i + (Utf8.decode s i).2) (acc.push (.int .i32 (Int.ofNat (Utf8.decode s i).1))) := by
  conv => lhs; unfold Conv.runesFrom
  rw [if_pos hi]
theorem runes_pre (s : ByteArray) : ∀ (bound i : Nat) (acc : Array Value) (j : Nat), j < acc.size → (Conv.runesFrom s bound i acc)[j]? = acc[j]?
  | 0, _, acc, _, _ => rfl
  | bound + 1, i, acc, j, hj => by
    by_cases hi : i < s.size
    · rw [runes_step hi, runes_pre s bound _ _ j (by simp; omega), Array.getElem?_push_lt hj, Array.getElem?_eq_getElem hj]
    · unfold Conv.runesFrom; rw [if_neg hi]
theorem decode_asc {s : ByteArray} {i : Nat} (hi : i < s.size) (h : (Utf8.decode s i).1 < 128) : (Utf8.decode s i).1 = (s[i]'hi).toNat ∧ (Utf8.decode s i).2 = 1 := by
  by_cases ha : (s[i]'hi).toNat < 128
  · rw [decode_ascii s i hi ha]; exact ⟨rfl, rfl⟩
  · have := (decode_high s i hi (by omega)).1; omega
theorem runes_ge (s : ByteArray) : ∀ (bound i : Nat) (acc : Array Value), (∀ (j : Nat) (v : Value), acc[j]? = some v → ∃ r : Nat, v = Value.int .i32 (r : Int) ∧ r ≤ 2147483647) → ∀ (j : Nat) (v : Value), (Conv.runesFrom s bound i acc)[j]? = some v → ∃ r : Nat, v = Value.int .i32 (r : Int) ∧ r ≤ 2147483647
  | 0, _, acc, h, j, v, hj => h j v hj
  | bound + 1, i, acc, h, j, v, hj => by
    by_cases hi : i < s.size
    · rw [runes_step hi] at hj
      refine runes_ge s bound _ _ (fun j' v' hv => ?_) j v hj
      by_cases hl : j' < acc.size
      · rw [Array.getElem?_push_lt hl] at hv
        exact h j' v' (by rw [Array.getElem?_eq_getElem hl]; exact hv)
      · by_cases he : j' = acc.size
        · subst he
          rw [Array.getElem?_push_size] at hv
          exact ⟨(Utf8.decode s i).1, by simpa using hv.symm, decode_le s i⟩
        · rw [Array.getElem?_eq_none (by simp; omega)] at hv; cases hv
    · unfold Conv.runesFrom at hj; rw [if_neg hi] at hj; exact h j v hj
/-- Two runes of which both are ASCII are two bytes. -/
theorem runes_two {s : ByteArray} {r0 r1 : Nat} (hz : (Conv.runesFrom s s.size 0 #[]).size = 2) (h0 : (Conv.runesFrom s s.size 0 #[])[0]? = some (.int .i32 (r0 : Int))) (h1 : (Conv.runesFrom s s.size 0 #[])[1]? = some (.int .i32 (r1 : Int))) (k0 : r0 < 128) (k1 : r1 < 128) :
    s.data.toList = [r0.toUInt8, r1.toUInt8] := by
  have hs0 : 0 < s.size := by
    refine Nat.pos_of_ne_zero fun h => ?_
    rw [h] at hz
    simp [Conv.runesFrom] at hz
  obtain ⟨n, hn⟩ : ∃ n, s.size = n + 1 := ⟨s.size - 1, by omega⟩
  rw [hn, runes_step hs0] at hz h0 h1
  rw [runes_pre s _ _ _ 0 (by simp)] at h0
  have e0 : (Utf8.decode s 0).1 = r0 := by
    have h9 : (((Utf8.decode s 0).1 : Nat) : Int) = (r0 : Int) := by simpa using h0
    omega
  obtain ⟨d0, w0⟩ := decode_asc hs0 (by omega)
  rw [w0, Nat.zero_add] at hz h1
  have hs1 : 1 < s.size := by
    refine Nat.lt_of_not_le fun h => ?_
    have : n = 0 := by omega
    subst this
    simp [Conv.runesFrom] at hz
  obtain ⟨m, hm⟩ : ∃ m, n = m + 1 := ⟨n - 1, by omega⟩
  rw [hm, runes_step hs1] at hz h1
  rw [runes_pre s _ _ _ 1 (by simp)] at h1
  have e1 : (Utf8.decode s 1).1 = r1 := by
    have h9 : (((Utf8.decode s 1).1 : Nat) : Int) = (r1 : Int) := by simpa using h1
    omega
  obtain ⟨d1, w1⟩ := decode_asc hs1 (by omega)
  rw [w1] at hz
  have hs2 : s.size = 2 := by
    by_cases h : 2 < s.size
    · obtain ⟨q, hq⟩ : ∃ q, m = q + 1 := ⟨m - 1, by omega⟩
      rw [hq] at hz
      have := runes_pos (s := s) (bound := q) (i := 1 + 1) (acc := (#[].push (.int .i32 (Int.ofNat (Utf8.decode s 0).1))).push (.int .i32 (Int.ofNat (Utf8.decode s 1).1))) (by omega)
      simp at this
      simp at hz
      omega
    · omega
  apply List.ext_getElem
  · rw [Array.length_toList]; exact hs2
  · intro j hj1 hj2
    have hj3 : j < 2 := hj2
    rcases (show j = 0 ∨ j = 1 by omega) with rfl | rfl
    · show s[0] = _
      rw [List.getElem_cons_zero, ← e0, d0]; simp
    · show s[1] = _
      rw [List.getElem_cons_succ, List.getElem_cons_zero, ← e1, d1]; simp
/-- Two bytes that are ASCII are two runes. -/
theorem runes_of_two {s : ByteArray} {a b : UInt8} (h : s.data.toList = [a, b]) (ha : a.toNat < 128) (hb : b.toNat < 128) : Conv.runesFrom s s.size 0 #[] = #[.int .i32 (a.toNat : Int), .int .i32 (b.toNat : Int)] := by
  have hs : s.size = 2 := by
    have h9 := congrArg List.length h
    rw [Array.length_toList] at h9
    exact h9
  have e0 : s[0]'(by omega) = a := (List.getElem_of_eq h (show 0 < s.data.toList.length by rw [h]; exact Nat.zero_lt_succ _)).trans rfl
  have e1 : s[1]'(by omega) = b := (List.getElem_of_eq h (show 1 < s.data.toList.length by rw [h]; exact Nat.lt_succ_self _)).trans rfl
  have d0 := decode_ascii s 0 (by omega) (by rw [e0]; exact ha)
  have d1 := decode_ascii s 1 (by omega) (by rw [e1]; exact hb)
  rw [e0] at d0
  rw [e1] at d1
  rw [hs, runes_step (by omega), d0]
  simp only [Nat.zero_add]
  rw [runes_step (by omega), d1]
  simp [Conv.runesFrom]
end Sk

namespace Go.Proofs.YtjpbccpleflkhaaDoor
open Go.RowKit
theorem BoxP.other {W : World} {g k o : Nat} {a b : Value} (h : BoxP W g a b) (hk : k ≠ g) (u : Value) : BoxP (W.setCell ⟨k, o, none⟩ u) g a b :=
  ⟨by simpa using h.1, (World.cell?_setCell_other (w := W) (v := u) (a := ⟨k, o, none⟩) (b := ⟨g, 0, none⟩) (fun e => hk (congrArg Addr.block e))).trans h.2.1, (World.cell?_setCell_other (w := W) (v := u) (a := ⟨k, o, none⟩) (b := ⟨g, 1, none⟩) (fun e => hk (congrArg Addr.block e))).trans h.2.2⟩
/-- What readStroke leaves. -/
def RdP (l : List UInt8) (w : World) (e : Ending) (w' : World) : Prop := ∃ (a : Int) (o : Bool), e = .returned (.tuple #[.agg #[.int .i64 a, .bool o], .bool (Sk.rdS l).isSome]) ∧ (∀ y, Sk.rdS l = some y → y = (a, o)) ∧ Below w.heap.size w w'
theorem RdP.no {l : List UInt8} {w w' : World} (h : Sk.rdS l = none) (a : Int) (o : Bool) (hb : Below w.heap.size w w') : RdP l w (.returned (.tuple #[.agg #[.int .i64 a, .bool o], .bool false])) w' :=
  ⟨a, o, by rw [h]; rfl, fun y hy => (by rw [h] at hy; cases hy), hb⟩
theorem RdP.yes {l : List UInt8} {w w' : World} {a : Int} {o : Bool} (h : Sk.rdS l = some (a, o)) (hb : Below w.heap.size w w') : RdP l w (.returned (.tuple #[.agg #[.int .i64 a, .bool o], .bool true])) w' :=
  ⟨a, o, by rw [h]; rfl, fun y hy => by rw [h] at hy; cases hy; rfl, hb⟩
theorem RdP.of {l : List UInt8} {w w' : World} {a : Int} {o b : Bool} (h : Sk.rdS l = if b then some (a, o) else none) (hb : Below w.heap.size w w') : RdP l w (.returned (.tuple #[.agg #[.int .i64 a, .bool o], .bool b])) w' := by
  cases b
  · exact RdP.no h a o hb
  · exact RdP.yes h hb
/-- Either there are not two runes, or these two. -/
theorem runes_cases (s : ByteArray) : ((Conv.runesFrom s s.size 0 #[]).size ≠ 2 ∧ Sk.rdS s.data.toList = none) ∨
    ∃ r0 r1 : Nat, Conv.runesFrom s s.size 0 #[] = #[.int .i32 (r0 : Int), .int .i32 (r1 : Int)] ∧ r0 ≤ 2147483647 ∧ r1 ≤ 2147483647 ∧
      Sk.rdS s.data.toList = if 65 ≤ r0 ∧ r0 < 71 ∧ (r1 = 43 ∨ r1 = 45) then some ((r0 : Int) - 65, decide (r1 = 43)) else none := by
  by_cases hz : (Conv.runesFrom s s.size 0 #[]).size = 2
  · right
    have hg := Sk.runes_ge s s.size 0 #[] (fun j v h => by simp at h)
    obtain ⟨r0, e0, k0⟩ := hg 0 _ (Array.getElem?_eq_getElem (show 0 < (Conv.runesFrom s s.size 0 #[]).size by omega))
    obtain ⟨r1, e1, k1⟩ := hg 1 _ (Array.getElem?_eq_getElem (show 1 < (Conv.runesFrom s s.size 0 #[]).size by omega))
    have g0 : (Conv.runesFrom s s.size 0 #[])[0]? = some (.int .i32 (r0 : Int)) := by rw [Array.getElem?_eq_getElem (by omega), e0]
    have g1 : (Conv.runesFrom s s.size 0 #[])[1]? = some (.int .i32 (r1 : Int)) := by rw [Array.getElem?_eq_getElem (by omega), e1]
    refine ⟨r0, r1, ?_, k0, k1, ?_⟩
    · apply Array.ext_getElem?
      intro i
      rcases i with _ | _ | i
      · rw [g0]; rfl
      · rw [g1]; rfl
      · rw [Array.getElem?_eq_none (by omega), Array.getElem?_eq_none (by simp)]
    · by_cases hc : 65 ≤ r0 ∧ r0 < 71 ∧ (r1 = 43 ∨ r1 = 45)
      · rw [if_pos hc, Sk.runes_two hz g0 g1 (by omega) (by omega)]
        obtain ⟨h1, h2, h3⟩ := hc
        rcases (show r0 = 65 ∨ r0 = 66 ∨ r0 = 67 ∨ r0 = 68 ∨ r0 = 69 ∨ r0 = 70 by omega) with rfl | rfl | rfl | rfl | rfl | rfl <;> rcases h3 with rfl | rfl <;> decide
      · rw [if_neg hc]
        cases hr : Sk.rdS s.data.toList with
        | none => rfl
        | some y =>
          exfalso
          unfold Sk.rdS at hr
          split at hr
          · rename_i a b hl
            split at hr
            · rename_i hab
              obtain ⟨h1, h2, h3⟩ := hab
              have hb : b.toNat < 128 := by rcases h3 with rfl | rfl <;> decide
              have := Sk.runes_of_two hl (by omega) hb
              rw [this] at g0 g1
              have f0 : ((a.toNat : Nat) : Int) = (r0 : Int) := by simpa using g0
              have f1 : ((b.toNat : Nat) : Int) = (r1 : Int) := by simpa using g1
              refine hc ⟨by omega, by omega, ?_⟩
              rcases h3 with rfl | rfl
              · left; have : (43 : UInt8).toNat = 43 := rfl; omega
              · right; have : (45 : UInt8).toNat = 45 := rfl; omega
            · cases hr
          · cases hr
  · left
    refine ⟨hz, ?_⟩
    cases hr : Sk.rdS s.data.toList with
    | none => rfl
    | some y =>
      exfalso
      unfold Sk.rdS at hr
      split at hr
      · rename_i a b hl
        split at hr
        · rename_i hab
          obtain ⟨h1, h2, h3⟩ := hab
          have hb : b.toNat < 128 := by rcases h3 with rfl | rfl <;> decide
          have := Sk.runes_of_two hl (by omega) hb
          rw [this] at hz
          exact hz rfl
        · cases hr
      · cases hr
set_option maxHeartbeats 4000000 in
set_option maxRecDepth 100000 in
theorem rdS_few (s : ByteArray) (w : World) (hz : s.size ≤ 1000000) (hn : (Conv.runesFrom s s.size 0 #[]).size ≠ 2) (hr : Sk.rdS s.data.toList = none) :
    Calls Tryd.prog 85 #[.string s] w (RdP s.data.toList w) := by
  have hsz := size_runesFrom s s.size 0 #[]
  have hcv := run_runes_of_string (P := Tryd.prog) (w.alloc (.cells #[.int .i64 0, .bool false] 47)) 9 146 21 s Tryd.underlying9 Tryd.underlying146 Tryd.underlying21 (by simp at hsz; omega)
  generalize hrs : Conv.runesFrom s s.size 0 #[] = rs at *
  generalize grownCap (w.alloc (.cells #[.int .i64 0, .bool false] 47)) rs.size 0 21 = cp at *
  generalize hcs : (rs ++ Array.replicate (cp - rs.size) (Value.int .i32 0)) = cs at *
  have hne : ((rs.size : Int) == 2) = false := by simpa using (show ¬ ((rs.size : Int) = 2) by omega)
  have hne2 : ((rs.size : Int) != 2) = true := by rw [bne, hne]; rfl
  have hrz : rs.size ≤ 1000000 := by simp at hsz; omega
  rw [World.size_alloc] at hcv
  have hR := resP_new w (.int .i64 0) (.bool false) 47
  have L1 := allocB w (.cells #[.int .i64 0, .bool false] 47)
  have hL : Below w.heap.size w ((w.alloc (.cells #[.int .i64 0, .bool false] 47)).alloc (.cells cs 21)).drew := (L1.alloc (by simp) _).drew
  have hR2 : ResP ((w.alloc (.cells #[.int .i64 0, .bool false] 47)).alloc (.cells cs 21)).drew w.heap.size (.int .i64 0) (.bool false) := (hR.step (allocB _ _)).step (Below.refl _ _).drew
  have HL := Lib.hid hL
  have HR := Lib.hid hr
  clear hR L1 hL hrs hcs hn hsz hr
  obtain ⟨q0, q1, q2, q3, q4⟩ := hR2
  go_enter Tryd.func85, Tryd.ntmps85
  go_wp2
  exact bodyPost_ret (v := .tuple #[.agg #[.int .i64 0, .bool false], .bool false]) (by simp [results, Tryd.results85, go_sem, q1, q2]) rfl (RdP.no HR.out _ _ HL.out)
set_option maxHeartbeats 4000000 in
set_option maxRecDepth 100000 in
theorem rdS_two (s : ByteArray) (w : World) (r0 r1 : Nat) (hn : Conv.runesFrom s s.size 0 #[] = #[.int .i32 (r0 : Int), .int .i32 (r1 : Int)]) (k0 : r0 ≤ 2147483647) (k1 : r1 ≤ 2147483647)
    (hr : Sk.rdS s.data.toList = if 65 ≤ r0 ∧ r0 < 71 ∧ (r1 = 43 ∨ r1 = 45) then some ((r0 : Int) - 65, decide (r1 = 43)) else none) :
    Calls Tryd.prog 85 #[.string s] w (RdP s.data.toList w) := by
  have hcv := run_runes_of_string (P := Tryd.prog) (w.alloc (.cells #[.int .i64 0, .bool false] 47)) 9 146 21 s Tryd.underlying9 Tryd.underlying146 Tryd.underlying21 (by rw [hn]; simp)
  rw [hn] at hcv
  have hcap := grownCap_ge (w.alloc (.cells #[.int .i64 0, .bool false] 47)) 2 0 21
  simp only [List.size_toArray, List.length_cons, List.length_nil, Nat.zero_add, Nat.reduceAdd] at hcv
  generalize grownCap (w.alloc (.cells #[.int .i64 0, .bool false] 47)) 2 0 21 = cp at *
  have e0 : (#[Value.int .i32 (r0 : Int), .int .i32 (r1 : Int)] ++ Array.replicate (cp - 2) (Value.int .i32 0))[0]? = some (.int .i32 (r0 : Int)) := by
    rw [Array.getElem?_append_left (by show _ < 2; omega)]; rfl
  have e1 : (#[Value.int .i32 (r0 : Int), .int .i32 (r1 : Int)] ++ Array.replicate (cp - 2) (Value.int .i32 0))[1]? = some (.int .i32 (r1 : Int)) := by
    rw [Array.getElem?_append_left (by show _ < 2; omega)]; rfl
  generalize hcs : (#[Value.int .i32 (r0 : Int), .int .i32 (r1 : Int)] ++ Array.replicate (cp - 2) (Value.int .i32 0)) = cs at *
  rw [World.size_alloc] at hcv
  have hR := resP_new w (.int .i64 0) (.bool false) 47
  have L1 := allocB w (.cells #[.int .i64 0, .bool false] 47)
  have hL : Below w.heap.size w ((w.alloc (.cells #[.int .i64 0, .bool false] 47)).alloc (.cells cs 21)).drew := (L1.alloc (by simp) _).drew
  have hR2 : ResP ((w.alloc (.cells #[.int .i64 0, .bool false] 47)).alloc (.cells cs 21)).drew w.heap.size (.int .i64 0) (.bool false) := (hR.step (allocB _ _)).step (Below.refl _ _).drew
  have c0 : ((w.alloc (.cells #[.int .i64 0, .bool false] 47)).alloc (.cells cs 21)).drew.cell? ⟨w.heap.size + 1, 0, none⟩ = some (.int .i32 (r0 : Int)) := by
    rw [World.cell?_drew, World.cell?_alloc_at _ _ _ _ (by simp)]; exact e0
  have c1 : ((w.alloc (.cells #[.int .i64 0, .bool false] 47)).alloc (.cells cs 21)).drew.cell? ⟨w.heap.size + 1, 1, none⟩ = some (.int .i32 (r1 : Int)) := by
    rw [World.cell?_drew, World.cell?_alloc_at _ _ _ _ (by simp)]; exact e1
  have HL := Lib.hid hL
  have HR := Lib.hid hr
  have HP := Lib.hid hR2
  obtain ⟨X, hX⟩ : ∃ X, X = ((w.alloc (.cells #[.int .i64 0, .bool false] 47)).alloc (.cells cs 21)).drew := ⟨_, rfl⟩
  clear hR L1 hL hcs hn hr
  obtain ⟨q0, q1, q2, q3, q4⟩ := hR2
  by_cases h1 : r1 = 43
  · subst h1
    have HRX : Hid (Sk.rdS s.data.toList = if (Sk.chkS ((r0 : Int) - 65) == 0) then some ((r0 : Int) - 65, true) else none) := Lib.hid (by
      rw [HR.out]
      have hx := Sk.chkS_eq ((r0 : Int) - 65)
      by_cases h : 65 ≤ r0 ∧ r0 < 71
      · rw [if_pos ⟨h.1, h.2, by simp⟩, if_pos (by simpa using hx.2 (by omega))]; rfl
      · rw [if_neg (fun g => h ⟨g.1, g.2.1⟩), if_neg (fun g => h (by have := hx.1 (by simpa using g); omega))])
    clear HR
    have e2 : cs[1]? = some (.int .i32 43) := e1
    clear e1 c1 c0
    have w0 : IntKind.i32.wrap ((r0 : Int) - 65) = (r0 : Int) - 65 := by
      rw [show IntKind.i32.wrap ((r0 : Int) - 65) = (r0 : Int) - 65 from IntWalk.i32_in _ (by omega)]
    have h32 : (r0 : Int) ≤ 2147483647 := by omega
    have h33 : 0 ≤ (r0 : Int) := by omega
    obtain ⟨PB, LB, -⟩ := boxP_new X (.int .i64 ((r0 : Int) - 65)) (.bool true) 47
    have eX : X.heap.size = w.heap.size + 1 + 1 := by rw [hX]; simp
    rw [eX] at PB
    obtain ⟨Z, hZ⟩ : ∃ Z, Z = (X.alloc (.cells #[.int .i64 ((r0 : Int) - 65), .bool true] 47)).drew := ⟨_, rfl⟩
    have LZ : Below X.heap.size X Z := by rw [hZ]; exact LB.drew
    have PZ : BoxP Z (w.heap.size + 1 + 1) (.int .i64 ((r0 : Int) - 65)) (.bool true) := by rw [hZ]; exact PB.step (Below.refl _ _).drew
    have HRZ := Lib.hid ((show ResP X w.heap.size (.int .i64 0) (.bool false) by rw [hX]; exact HP.out).step LZ)
    have HLZ := Lib.hid (below_nxt (show Below w.heap.size w X by rw [hX]; exact HL.out) LZ)
    have HZ : Hid (Z = (((w.alloc (.cells #[.int .i64 0, .bool false] 47)).alloc (.cells cs 21)).alloc (.cells #[.int .i64 ((r0 : Int) - 65), .bool true] 47)).drew.drew) := Lib.hid (by rw [hZ, hX]; rfl)
    have HPZ := Lib.hid PZ
    clear PB LB eX hZ LZ PZ hX
    go_enter Tryd.func85, Tryd.ntmps85
    go_wp2
    go_region
    rw [← HZ.out]
    clear HZ q0 q1 q2 q3 q4 e0 e2 hcv
    have HB := Lib.hid (below_nxt HLZ.out (Below.refl Z.heap.size Z).drew)
    have HP2 := Lib.hid (HRZ.out.step (Below.refl Z.heap.size Z).drew)
    have P := HPZ.out.step (Below.refl Z.heap.size Z).drew
    clear HLZ HRZ HPZ
    obtain ⟨-, P1, P2⟩ := id P
    go_wp2
    go_region_held3 (fun W => W.cell? ⟨w.heap.size + 1 + 1, 0, none⟩ = some (.int .i64 ((r0 : Int) - 65)) ∧ W.cell? ⟨w.heap.size + 1 + 1, 1, none⟩ = some (.bool true))
      (first | (refine ⟨?_, ?_⟩ <;> with_reducible assumption) | (go_split_ands; refine ⟨?_, ?_⟩ <;> with_reducible assumption) | exact ⟨((P.other (by omega) _).other (by omega) _).2.1, ((P.other (by omega) _).other (by omega) _).2.2⟩)
      (first
        | (go_at_call 74; (with_reducible refine (sChk_any ((r0 : Int) - 65) true _).mono ?_); rintro e wn ⟨rfl, hb⟩; have HBq := Lib.hid (below_nxt HB.out hb); have HPq := Lib.hid (HP2.out.step hb); have Pq := P.step hb; clear HB HP2 P; have HB := HBq; have HP2 := HPq; have P := Pq; clear HBq HPq Pq P1 P2 hb; obtain ⟨-, P1, P2⟩ := id P; obtain ⟨q0, q1, q2, q3, q4⟩ := HP2.out))
    all_goals
      go_wp2
      obtain ⟨-, g1, g2, -, -⟩ := HP2.out.put (.int .i64 ((r0 : Int) - 65)) (.bool true)
      exact bodyPost_ret (v := .tuple #[.agg #[.int .i64 ((r0 : Int) - 65), .bool true], .bool (Sk.chkS ((r0 : Int) - 65) == 0)]) (by simp [results, Tryd.results85, go_sem, g1, g2]) rfl (RdP.of HRX.out ((HB.out.setCell (p := ⟨w.heap.size, 0, none⟩) (Nat.le_refl _) _).setCell (p := ⟨w.heap.size, 1, none⟩) (Nat.le_refl _) _))
  by_cases h2 : r1 = 45
  · subst h2
    have HRX : Hid (Sk.rdS s.data.toList = if (Sk.chkS ((r0 : Int) - 65) == 0) then some ((r0 : Int) - 65, false) else none) := Lib.hid (by
      rw [HR.out]
      have hx := Sk.chkS_eq ((r0 : Int) - 65)
      by_cases h : 65 ≤ r0 ∧ r0 < 71
      · rw [if_pos ⟨h.1, h.2, by simp⟩, if_pos (by simpa using hx.2 (by omega))]; rfl
      · rw [if_neg (fun g => h ⟨g.1, g.2.1⟩), if_neg (fun g => h (by have := hx.1 (by simpa using g); omega))])
    clear HR h1
    have e2 : cs[1]? = some (.int .i32 45) := e1
    clear e1 c1 c0
    have w0 : IntKind.i32.wrap ((r0 : Int) - 65) = (r0 : Int) - 65 := by
      rw [show IntKind.i32.wrap ((r0 : Int) - 65) = (r0 : Int) - 65 from IntWalk.i32_in _ (by omega)]
    have h32 : (r0 : Int) ≤ 2147483647 := by omega
    have h33 : 0 ≤ (r0 : Int) := by omega
    obtain ⟨PB, LB, -⟩ := boxP_new X (.int .i64 ((r0 : Int) - 65)) (.bool false) 47
    have eX : X.heap.size = w.heap.size + 1 + 1 := by rw [hX]; simp
    rw [eX] at PB
    obtain ⟨Z, hZ⟩ : ∃ Z, Z = (X.alloc (.cells #[.int .i64 ((r0 : Int) - 65), .bool false] 47)).drew := ⟨_, rfl⟩
    have LZ : Below X.heap.size X Z := by rw [hZ]; exact LB.drew
    have PZ : BoxP Z (w.heap.size + 1 + 1) (.int .i64 ((r0 : Int) - 65)) (.bool false) := by rw [hZ]; exact PB.step (Below.refl _ _).drew
    have HRZ := Lib.hid ((show ResP X w.heap.size (.int .i64 0) (.bool false) by rw [hX]; exact HP.out).step LZ)
    have HLZ := Lib.hid (below_nxt (show Below w.heap.size w X by rw [hX]; exact HL.out) LZ)
    have HZ : Hid (Z = (((w.alloc (.cells #[.int .i64 0, .bool false] 47)).alloc (.cells cs 21)).alloc (.cells #[.int .i64 ((r0 : Int) - 65), .bool false] 47)).drew.drew) := Lib.hid (by rw [hZ, hX]; rfl)
    have HPZ := Lib.hid PZ
    clear PB LB eX hZ LZ PZ hX
    go_enter Tryd.func85, Tryd.ntmps85
    go_wp2
    go_region
    rw [← HZ.out]
    clear HZ q0 q1 q2 q3 q4 e0 e2 hcv
    have HB := Lib.hid (below_nxt HLZ.out (Below.refl Z.heap.size Z).drew)
    have HP2 := Lib.hid (HRZ.out.step (Below.refl Z.heap.size Z).drew)
    have P := HPZ.out.step (Below.refl Z.heap.size Z).drew
    clear HLZ HRZ HPZ
    obtain ⟨-, P1, P2⟩ := id P
    go_wp2
    go_region_held3 (fun W => W.cell? ⟨w.heap.size + 1 + 1, 0, none⟩ = some (.int .i64 ((r0 : Int) - 65)) ∧ W.cell? ⟨w.heap.size + 1 + 1, 1, none⟩ = some (.bool false))
      (first | (refine ⟨?_, ?_⟩ <;> with_reducible assumption) | (go_split_ands; refine ⟨?_, ?_⟩ <;> with_reducible assumption) | exact ⟨((P.other (by omega) _).other (by omega) _).2.1, ((P.other (by omega) _).other (by omega) _).2.2⟩)
      (first
        | (go_at_call 74; (with_reducible refine (sChk_any ((r0 : Int) - 65) false _).mono ?_); rintro e wn ⟨rfl, hb⟩; have HBq := Lib.hid (below_nxt HB.out hb); have HPq := Lib.hid (HP2.out.step hb); have Pq := P.step hb; clear HB HP2 P; have HB := HBq; have HP2 := HPq; have P := Pq; clear HBq HPq Pq P1 P2 hb; obtain ⟨-, P1, P2⟩ := id P; obtain ⟨q0, q1, q2, q3, q4⟩ := HP2.out))
    all_goals
      go_wp2
      obtain ⟨-, g1, g2, -, -⟩ := HP2.out.put (.int .i64 ((r0 : Int) - 65)) (.bool false)
      exact bodyPost_ret (v := .tuple #[.agg #[.int .i64 ((r0 : Int) - 65), .bool false], .bool (Sk.chkS ((r0 : Int) - 65) == 0)]) (by simp [results, Tryd.results85, go_sem, g1, g2]) rfl (RdP.of HRX.out ((HB.out.setCell (p := ⟨w.heap.size, 0, none⟩) (Nat.le_refl _) _).setCell (p := ⟨w.heap.size, 1, none⟩) (Nat.le_refl _) _))
  · have hr0 : Sk.rdS s.data.toList = none := by rw [HR.out, if_neg]; rintro ⟨-, -, h | h⟩ <;> contradiction
    have HR0 := Lib.hid hr0
    have t1 : ((r1 : Int) == 43) = false := by simpa using (show ¬ ((r1 : Int) = 43) by omega)
    have t2 : ((r1 : Int) == 45) = false := by simpa using (show ¬ ((r1 : Int) = 45) by omega)
    have t3 : ((r1 : Int) != 43) = true := by rw [bne, t1]; rfl
    have t4 : ((r1 : Int) != 45) = true := by rw [bne, t2]; rfl
    clear hr0 HR hX h1 h2
    go_enter Tryd.func85, Tryd.ntmps85
    go_wp2
    exact bodyPost_ret (v := .tuple #[.agg #[.int .i64 0, .bool false], .bool false]) (by simp [results, Tryd.results85, go_sem, q1, q2]) rfl (RdP.no HR0.out _ _ HL.out)
theorem rdS_any (s : ByteArray) (w : World) (hz : s.size ≤ 1000000) : Calls Tryd.prog 85 #[.string s] w (RdP s.data.toList w) := by
  rcases runes_cases s with ⟨h1, h2⟩ | ⟨r0, r1, h1, h2, h3, h4⟩
  · exact rdS_few s w hz h1 h2
  · exact rdS_two s w r0 r1 h1 h2 h3 h4
end Go.Proofs.YtjpbccpleflkhaaDoor

namespace Sk
open Go
/-- The number with a text, if there is one that is not 0. -/
def wtV (l : List UInt8) : Int × Bool := if Tm.numOk l && decide (Fr.dv l ≠ 0) then (((Fr.dv l : Nat) : Int), true) else (0, false)
theorem numOk_render7 {n : Nat} (h : (Fr.render n).length ≤ 7) : Tm.numOk (Fr.render n) = true := by
  unfold Tm.numOk
  have h1 := Fr.render_all n
  have h2 := Fr.render_pos n
  have h4 : (Fr.render n).isEmpty = false := by cases hr : Fr.render n with | nil => rw [hr] at h2; simp at h2 | cons c l => rfl
  rw [h1, h4]
  simp only [Bool.not_false, Bool.true_and, Bool.and_true, Bool.and_eq_true, decide_eq_true_eq]
  refine ⟨h, ?_⟩
  by_cases h0 : n = 0
  · subst h0; rw [Fr.render_zero]; rfl
  · have := Fr.render_head h0
    simp [this]
theorem atoi_num {l : List UInt8} (h : Tm.numOk l = true) : Lib.atoiAll l = .ok ((Fr.dv l : Nat) : Int) := by
  obtain ⟨h1, h2, -, -⟩ := Tm.numOk_all h
  have hlt := Tm.numOk_lt h
  have hm := Fr.atoi_digs h1 h2
  rw [if_pos (by omega)] at hm
  cases l with
  | nil => exact absurd rfl h2
  | cons c r =>
    have hc : Fr.isDig c = true := by simp at h1; exact h1.1
    unfold Fr.isDig at hc
    rw [Bool.and_eq_true, decide_eq_true_iff, decide_eq_true_iff] at hc
    rw [Lib.atoiAll_plain c r (by omega) (by omega), hm]
    unfold Lib.signless
    simp only
    rw [if_neg (by omega)]
/-- Where Atoi gives a number: it is the one, or it is none. -/
theorem wt_ok {l : List UInt8} {v : Int} (h : Lib.atoiAll l = .ok v) : wtV l = if 0 < v ∧ l.length ≤ 7 ∧ Fr.render v.toNat = l then (v, true) else (0, false) := by
  unfold wtV
  by_cases hn : Tm.numOk l = true
  · have hv : v = ((Fr.dv l : Nat) : Int) := by
      have := atoi_num hn
      rw [h] at this
      cases this; rfl
    subst hv
    obtain ⟨-, -, h3, -⟩ := Tm.numOk_all hn
    have hb := Tm.numOk_back hn
    rw [hn, Bool.true_and, Int.toNat_natCast]
    by_cases h0 : Fr.dv l = 0
    · rw [if_neg (by simp [h0]), if_neg (by omega)]
    · rw [if_pos (by simpa using h0), if_pos ⟨by omega, h3, hb⟩]
  · rw [if_neg (by simp [hn]), if_neg]
    rintro ⟨h1, h2, h3⟩
    rw [← h3] at h2 hn
    exact hn (numOk_render7 h2)
theorem wt_no {l : List UInt8} (h : ∀ v, Lib.atoiAll l ≠ .ok v) : wtV l = (0, false) := by
  unfold wtV
  by_cases hn : Tm.numOk l = true
  · exact absurd (atoi_num hn) (h _)
  · rw [if_neg (by simp [hn])]
end Sk
namespace Go.Proofs.YtjpbccpleflkhaaDoor
open Go.RowKit
/-- What the package variables of the library hold when a call begins. -/
structure StQ (w : World) : Prop where
  st : St w
  range : ∃ tp p, w.var? Tryd.prog "strconv.ErrRange" = some #[.iface tp p]
  form : ∃ tp p, w.var? Tryd.prog "strconv.ErrSyntax" = some #[.iface tp p]
theorem Tryd.range_global : Tryd.prog.globalNamed "strconv.ErrRange" = some 2 := by kernel_rfl
theorem Tryd.form_global : Tryd.prog.globalNamed "strconv.ErrSyntax" = some 1 := by kernel_rfl
theorem StQ.below {w w' : World} (h : StQ w) {B : Nat} (hb : Below B w w') (hB : 4 ≤ B) : StQ w' := by
  obtain ⟨h0, ⟨t1, p1, h1⟩, ⟨t2, p2, h2⟩⟩ := h
  exact ⟨h0.below hb hB, ⟨t1, p1, var?_below hb Tryd.range_global (by omega) h1⟩, ⟨t2, p2, var?_below hb Tryd.form_global (by omega) h2⟩⟩
theorem StQ.step {w w' : World} (h : StQ w) (hb : Below w.heap.size w w') : StQ w' := h.below hb h.st.size
theorem below_bytes (w : World) (e : TypeId) (s : ByteArray) : Below w.heap.size w (Lib.bytesWorld w e s) :=
  ⟨rfl, rfl, rfl, by rw [Lib.bytesWorld_size]; omega, fun k hk => Lib.bytesWorld_at_old w e s k hk⟩
/-- strconv.Atoi. -/
theorem atoi_good (s : ByteArray) (v : Int) (w : World) (hz : s.size ≤ 1000000) (h : Lib.atoiAll s.data.toList = .ok v) :
    Calls Tryd.prog 104 #[.string s] w fun e w' => e = .returned (.tuple #[.int .i64 v, .nilIface]) ∧ Below w.heap.size w w' :=
  (Tryd.strconv_Atoi_ok s (by omega) v h w).mono (by
    rintro e w2 ⟨rfl, hw2⟩
    refine ⟨rfl, ?_⟩
    rcases hw2 with rfl | ⟨t, rfl⟩
    · exact Below.refl _ _
    · exact below_bytes _ _ _)
theorem atoi_bad (s : ByteArray) (w : World) (hst : StQ w) (hz : s.size ≤ 1000000) (h : ∀ v, Lib.atoiAll s.data.toList ≠ .ok v) :
    Calls Tryd.prog 104 #[.string s] w fun e w' => ∃ n N, e = .returned (.tuple #[.int .i64 n, .iface 167 (.pointer (some ⟨N, 0, none⟩))]) ∧ Below w.heap.size w w' := by
  obtain ⟨-, ⟨t1, p1, g1⟩, ⟨t2, p2, g2⟩⟩ := hst
  rcases h1 : Lib.atoiAll s.data.toList with v | _ | _
  · exact absurd h1 (h v)
  · have h9 : Calls Tryd.prog 104 #[.string s] w fun e w' => ∃ N, e = .returned (.tuple #[.int .i64 0, .iface 167 (.pointer (some ⟨N, 0, none⟩))]) ∧ w.heap.size ≤ N ∧ w'.heap[N]? = some (.cells #[.string ⟨#[65, 116, 111, 105]⟩, .string s, .iface t2 p2] 186 (0, 0)) ∧ Below w.heap.size w w' :=
      Any.strconv_Atoi_syntax_var Tryd.laysC172 s (by omega) h1 t2 p2 w g2
    exact h9.mono fun e w' ⟨N, r1, _, _, r4⟩ => ⟨_, N, r1, r4⟩
  · exact (Tryd.strconv_Atoi_range_var s (by omega) h1 t1 p1 w g1).mono fun e w' ⟨N, r1, _, _, r4⟩ => ⟨_, N, r1, r4⟩
end Go.Proofs.YtjpbccpleflkhaaDoor

namespace Go.Proofs.YtjpbccpleflkhaaDoor
open Go.RowKit
def WtP (q : Int × Bool) (w : World) (e : Ending) (w' : World) : Prop := e = .returned (.tuple #[.int .i64 q.1, .bool q.2]) ∧ Below w.heap.size w w'
set_option maxHeartbeats 4000000 in
set_option maxRecDepth 100000 in
theorem sWt_any (s : ByteArray) (w : World) (hst : StQ w) (hz : s.size ≤ 1000000) : Calls Tryd.prog 86 #[.string s] w (WtP (Sk.wtV s.data.toList) w) := by
  have HST := Lib.hid hst
  by_cases h : ∃ v, Lib.atoiAll s.data.toList = .ok v
  · obtain ⟨v, hv⟩ := h
    have CA := fun W => Lib.hid (atoi_good s v W hz hv)
    have hw := Sk.wt_ok hv
    have hbd := Lib.atoiAll_bounds hv
    have hlen : s.data.toList.length = s.size := Array.length_toList
    rw [hlen] at hw
    clear hv hst hlen
    by_cases h0 : 0 < v
    · by_cases h7 : s.size ≤ 7
      · have CI := fun W (h : St W) => Lib.hid (itoa_any v W h (by omega) hbd.2)
        obtain ⟨hb1, hb2⟩ := hbd
        by_cases hr : Fr.render v.toNat = s.data.toList
        · rw [if_pos ⟨h0, h7, hr⟩] at hw
          rw [hw]
          have hs : (⟨(Fr.render v.toNat).toArray⟩ : ByteArray) = s := by rw [hr]
          rw [hs] at CI
          have hz7 : (s.size : Int) ≤ 7 := by omega
          clear hw hr hs
          go_enter Tryd.func86, Tryd.ntmps86
          go_wp2_with fail
          refine ((CA _).out).mono ?_
          rintro e w1 ⟨rfl, hb1⟩
          have HB1 := Lib.hid hb1
          have HS1 := Lib.hid (HST.out.step hb1)
          clear hb1
          go_wp2_with fail
          refine ((CI _ HS1.out.st).out).mono ?_
          rintro e w2 ⟨rfl, hb2⟩
          have HB2 := Lib.hid (below_nxt HB1.out hb2)
          clear hb2
          go_wp2
          go_ret2
          exact ⟨rfl, HB2.out⟩
        · rw [if_neg (fun g => hr g.2.2)] at hw
          rw [hw]
          have hne : ((Fr.render v.toNat) == s.toList) = false := by
            rw [ByteArray.toList_eq]
            simpa using hr
          have hz7 : (s.size : Int) ≤ 7 := by omega
          clear hw
          go_enter Tryd.func86, Tryd.ntmps86
          go_wp2_with fail
          refine ((CA _).out).mono ?_
          rintro e w1 ⟨rfl, hb1⟩
          have HB1 := Lib.hid hb1
          have HS1 := Lib.hid (HST.out.step hb1)
          clear hb1
          go_wp2_with fail
          refine ((CI _ HS1.out.st).out).mono ?_
          rintro e w2 ⟨rfl, hb2⟩
          have HB2 := Lib.hid (below_nxt HB1.out hb2)
          clear hb2
          go_wp2
          go_ret2
          exact ⟨rfl, HB2.out⟩
      · rw [if_neg (fun g => h7 g.2.1)] at hw
        rw [hw]
        have hz7 : (7 : Int) < (s.size : Int) := by omega
        clear hw h7 hbd
        go_enter Tryd.func86, Tryd.ntmps86
        go_wp2_with fail
        refine ((CA _).out).mono ?_
        rintro e w1 ⟨rfl, hb1⟩
        have HB1 := Lib.hid hb1
        clear hb1
        go_wp2
        go_ret2
        exact ⟨rfl, HB1.out⟩
    · rw [if_neg (fun g => h0 g.1)] at hw
      rw [hw]
      have hv0 : v ≤ 0 := by omega
      clear hw h0 hbd
      go_enter Tryd.func86, Tryd.ntmps86
      go_wp2_with fail
      refine ((CA _).out).mono ?_
      rintro e w1 ⟨rfl, hb1⟩
      have HB1 := Lib.hid hb1
      clear hb1
      go_wp2
      go_ret2
      exact ⟨rfl, HB1.out⟩
  · have h' : ∀ v, Lib.atoiAll s.data.toList ≠ .ok v := fun v hv => h ⟨v, hv⟩
    rw [Sk.wt_no h']
    have CA := fun W (hs : StQ W) => Lib.hid (atoi_bad s W hs hz h')
    have CA0 := CA w hst
    clear h h' hst CA
    go_enter Tryd.func86, Tryd.ntmps86
    go_wp2_with fail
    refine (CA0.out).mono ?_
    rintro e w1 ⟨n, N, rfl, hb1⟩
    have HB1 := Lib.hid hb1
    clear hb1
    go_wp2
    go_ret2
    exact ⟨rfl, HB1.out⟩
end Go.Proofs.YtjpbccpleflkhaaDoor

namespace Sk
open Go
/-- The offsets and the parts, from an offset on. -/
def prt (l sep : List UInt8) : Nat → Nat → List (Int × List UInt8)
  | 0, _ => []
  | f + 1, a => ((a : Int), (Lib.cut (l.drop a) sep).1) :: (if (Lib.cut (l.drop a) sep).2.2 then prt l sep f (a + ((Lib.cut (l.drop a) sep).1.length + sep.length)) else [])
def prts (l sep : List UInt8) : List (Int × List UInt8) := prt l sep (l.length + 1) 0
/-- A part that was found is followed by the separator. -/
theorem cut_room {r sep : List UInt8} (h : (Lib.cut r sep).2.2 = true) : (Lib.cut r sep).1.length + sep.length ≤ r.length := by
  unfold Lib.cut at h ⊢
  by_cases h0 : 0 ≤ Lib.index r sep
  · have := Lib.index_room r sep h0
    rw [if_pos h0]
    simp only [List.length_take]
    omega
  · rw [if_neg h0] at h; cases h
theorem cut_le (r sep : List UInt8) : (Lib.cut r sep).1.length ≤ r.length := by
  unfold Lib.cut
  split
  · simp only [List.length_take]; omega
  · exact Nat.le_refl _
/-- One offset, and one part. -/
def Prt : Type := { x : Int × ByteArray // 0 ≤ x.1 ∧ x.1 ≤ 1000000 ∧ x.2.size ≤ 4096 }
def pv (x : Prt) : Int × List UInt8 := (x.1.1, x.1.2.data.toList)
def pe (x : Prt) : Array Value := #[.int .i64 x.1.1, .string x.1.2]
theorem pe_size (x : Prt) : (pe x).size = 2 := rfl
end Sk
namespace Go.Proofs.YtjpbccpleflkhaaDoor
open Go.RowKit Go.Shelf
attribute [local go_sem] Oper.semAt_some
theorem sPts_any (s sep : ByteArray) (w : World) : Calls Tryd.prog 52 #[.string s, .string sep] w fun e w' => e = .returned (.func (.func 83) #[] #[.pointer (some ⟨w.heap.size, 0, none⟩), .pointer (some ⟨w.heap.size + 1, 0, none⟩)]) ∧ w' = (w.alloc (.cells #[.string s] 9)).alloc (.cells #[.string sep] 9) := by
  go_enter Tryd.func52, Tryd.ntmps52
  go_wp2
  go_ret
  exact ⟨rfl, rfl⟩
theorem cutQ_any (s sep : ByteArray) (w : World) (hm0 : ∃ m : Int, w.cell? ⟨0, 0, none⟩ = some (.int .i64 m)) (hz : s.size ≤ 1000000) :
    Calls Tryd.prog 84 #[.string s, .string sep] w fun e w' => e = .returned (.tuple #[.string ⟨(Lib.cut s.data.toList sep.data.toList).1.toArray⟩, .string ⟨(Lib.cut s.data.toList sep.data.toList).2.1.toArray⟩, .bool (Lib.cut s.data.toList sep.data.toList).2.2]) ∧ ∃ n, w' = w.drewN n := by
  obtain ⟨m, hm⟩ := hm0
  exact Tryd.strings_Cut s sep m w (by omega) hm
/-- What a round over the parts must leave alone. -/
def KpT (tb sb : Nat) (W W' : World) : Prop := ∀ b, b = tb ∨ b = sb ∨ b = 0 → W'.heap[b]? = W.heap[b]?
theorem KpT.refl (tb sb : Nat) (W : World) : KpT tb sb W W := fun _ _ => rfl
theorem KpT.trans {tb sb : Nat} {A B C : World} (h : KpT tb sb A B) (k : KpT tb sb B C) : KpT tb sb A C := fun b hb => (k b hb).trans (h b hb)
theorem KpT.grown {tb sb : Nat} {W W' : World} {row : Option Nat} (hg : W.grownBy W' row) (ht : tb < W.heap.size) (hs : sb < W.heap.size) (hrow : ∀ r, row = some r → r ≠ tb ∧ r ≠ sb ∧ r ≠ 0) : KpT tb sb W W' := fun b hb => by
  refine hg.block b (by rcases hb with rfl | rfl | rfl <;> omega) (fun e => ?_)
  have := hrow b e.symm
  rcases hb with rfl | rfl | rfl <;> omega
theorem KpT.below {tb sb : Nat} {W W' : World} (hb : Below W.heap.size W W') (ht : tb < W.heap.size) (hs : sb < W.heap.size) : KpT tb sb W W' := fun b h => hb.block b (by rcases h with rfl | rfl | rfl <;> omega)
theorem KpT.cell {tb sb : Nat} {W W' : World} (h : KpT tb sb W W') {b : Nat} (hb : b = tb ∨ b = sb ∨ b = 0) (o : Nat) : W'.cell? ⟨b, o, none⟩ = W.cell? ⟨b, o, none⟩ := World.cell?_of_block (w := W) (h b hb)
theorem KpT.put {tb sb : Nat} (w : World) (ht : tb < w.heap.size) (hs : sb < w.heap.size) (W : World) (l : Nat) (o o' : Obj) (hl : w.heap.size ≤ l) (_ : W.heap[l]? = some o) (_ : o.isCells = false) (_ : o.isWalk = false) : KpT tb sb W (W.putObj l o') := fun b hb =>
  World.putObj_heap_other (by rcases hb with rfl | rfl | rfl <;> omega)
set_option maxHeartbeats 4000000 in
set_option maxRecDepth 100000 in
/-- **The iterator over the parts.** -/
theorem parts_stops (s sep : ByteArray) (tb sb : Nat) (w : World) (hz : s.size ≤ 4096) (hp1 : 0 < sep.size) (hp2 : sep.size ≤ 10) (ht : tb < w.heap.size) (hs : sb < w.heap.size) (h0 : ∃ m : Int, w.cell? ⟨0, 0, none⟩ = some (.int .i64 m)) (h1 : w.cell? ⟨tb, 0, none⟩ = some (.string s)) (h2 : w.cell? ⟨sb, 0, none⟩ = some (.string sep)) :
    SeqStopsK Fence.wide 8 Tryd.prog 83 #[.pointer (some ⟨tb, 0, none⟩), .pointer (some ⟨sb, 0, none⟩)] Sk.pe (KpT tb sb)
      (fun xs => xs.map Sk.pv = Sk.prts s.data.toList sep.data.toList) (fun pre => ∃ rest, Sk.prts s.data.toList sep.data.toList = pre.map Sk.pv ++ rest) (s.size + 1) w := by
  intro l J Jx W hW hJ hJx hY hj0
  have h00 : 0 < w.heap.size := by omega
  refine callsIn_of_wp Tryd.func83 rfl trivial ?_ rfl
  simp only [Tryd.ntmps83, List.size_toArray, List.length_cons, List.length_nil, Nat.reduceAdd, Nat.reduceSub, Array.replicate_succ, Array.replicate_zero, List.push_toArray, List.append_toArray, List.nil_append, List.cons_append]
  have HY := Lib.hid hY
  obtain ⟨m0, h0'⟩ := h0
  have H0m := Lib.hid ((hW.cell (p := ⟨0, 0, none⟩) h00).trans h0')
  have HT := Lib.hid ((hW.cell (p := ⟨tb, 0, none⟩) ht).trans h1)
  have HS := Lib.hid ((hW.cell (p := ⟨sb, 0, none⟩) hs).trans h2)
  have HJ := Lib.hid hJ
  have HJx := Lib.hid hJx
  have H0 := Lib.hid hj0
  clear hY h1 h2 hJ hJx hj0 h0'
  gi_wp2
  gi_loopw [4] (fun s4 wr => ∃ (a : Nat) (pre : List Sk.Prt) (f : Nat), s4 = .int .i64 (a : Int) ∧ a ≤ s.size ∧ Hid (pre.length ≤ a ∧ s.size + 1 ≤ f + a ∧ Sk.prts s.data.toList sep.data.toList = pre.map Sk.pv ++ Sk.prt s.data.toList sep.data.toList f a) ∧ Hid (KpT tb sb W wr) ∧ Hid (J pre wr)) (fun s4 _ => s.size + 1 - (intOf s4).toNat)
  case atStart => exact ⟨0, [], s.size + 1, rfl, Nat.zero_le _, Lib.hid ⟨Nat.zero_le _, by omega, by
    have hl : s.data.toList.length = s.size := Array.length_toList
    unfold Sk.prts; rw [hl]; rfl⟩, Lib.hid (KpT.refl _ _ _), H0⟩
  case round =>
    obtain ⟨a, pre, f, rfl, ha, HP, HB, HJr⟩ := hrel
    obtain ⟨hp1', hp2', hp3'⟩ := HP.out
    obtain ⟨g, rfl⟩ : ∃ g, f = g + 1 := ⟨f - 1, by omega⟩
    have hl : s.data.toList.length = s.size := Array.length_toList
    have hext : (s.extract a s.size).data.toList = s.data.toList.drop a := Lib.extract_to_end s a
    have hxz : (s.extract a s.size).size ≤ 1000000 := by
      have e1 : (s.extract a s.size).size = (s.extract a s.size).data.toList.length := Array.length_toList.symm
      rw [e1, hext, List.length_drop]; omega
    have CC := fun W (h : ∃ m : Int, W.cell? ⟨0, 0, none⟩ = some (.int .i64 m)) => Lib.hid (cutQ_any (s.extract a s.size) sep W h hxz)
    rw [hext] at CC
    have hc1 := Sk.cut_le (s.data.toList.drop a) sep.data.toList
    have hc2 := @Sk.cut_room (s.data.toList.drop a) sep.data.toList
    have hsl : sep.data.toList.length = sep.size := Array.length_toList
    rw [List.length_drop, hl] at hc1 hc2
    rw [hsl] at hc2
    rw [Sk.prt, hsl] at hp3'
    generalize hcv : Lib.cut (s.data.toList.drop a) sep.data.toList = c at *
    obtain ⟨x1, x2, x3⟩ := c
    simp only at hc1 hc2 hp3' CC
    obtain ⟨x, hx⟩ : ∃ x : Sk.Prt, x.1 = ((a : Int), (⟨x1.toArray⟩ : ByteArray)) := ⟨⟨((a : Int), ⟨x1.toArray⟩), by
      refine ⟨by simp, by simp; omega, ?_⟩
      rw [size_mk]; omega⟩, rfl⟩
    have HX : Hid (Sk.pv x = ((a : Int), x1)) := Lib.hid (by unfold Sk.pv; rw [hx])
    have hpe : Sk.pe x = #[.int .i64 (a : Int), .string ⟨x1.toArray⟩] := by unfold Sk.pe; rw [hx]
    have HYx := fun W1 (h : J pre W1) => Lib.hid (HY.out pre x W1 h (by omega))
    rw [hpe] at HYx
    have HP3 := Lib.hid hp3'
    have HC2 := Lib.hid hc2
    have t1 := (HB.out.cell (.inl rfl) 0).trans HT.out
    have t2 := (HB.out.cell (.inr (.inl rfl)) 0).trans HS.out
    have hai : (a : Int) ≤ (s.size : Int) := by omega
    have hx1z : (⟨x1.toArray⟩ : ByteArray).size ≤ 4096 := by rw [size_mk]; omega
    have hx1e : (⟨x1.toArray⟩ : ByteArray).size = x1.length := size_mk x1
    have HSW := Lib.hid ((HB.out.cell (.inr (.inr rfl)) 0).trans H0m.out)
    have hmx : Tryd.prog.follows .mixedOrders = true := by kernel_rfl
    have HPP : Hid (pre.length ≤ a ∧ s.size + 1 ≤ g + 1 + a) := Lib.hid ⟨hp1', hp2'⟩
    clear hp1' hp2' hp3' HP hc1 hc2 hext hxz hl hsl hcv HY hx hpe
    gi_wp2
    gi_region_with_o (refine ⟨trivial, ?_⟩; gi_at_call 84; refine (callsIn_wide.2 ((CC _ ⟨m0, by rw [World.cell?_drew]; exact HSW.out⟩).out)).mono ?_; rintro e w2 ⟨rfl, nd, hw2⟩; have HJ2 : Hid (J pre w2) := (by rw [hw2]; exact Lib.hid (HJ.out _ _ _ none HJr.out ⟨rfl, rfl, rfl, Nat.le_refl _, fun _ _ _ => rfl⟩ (fun r e => by cases e))); have HB2 : Hid (KpT tb sb W w2) := (by rw [hw2]; exact Lib.hid (HB.out.trans (fun b hb => rfl))); clear hw2)
    all_goals
      obtain ⟨fn, tmps, assign, body, hy, hR⟩ := (HYx w2 HJ2.out).out
      clear CC HYx t1 t2 HSW HJr HJ2
      gi_wp2
      refine hR.mono ?_
      clear hR hy
      rintro e W3 (⟨rfl, hJ3, hk3⟩ | ⟨rfl, hJx3⟩)
      · have HJ3 := Lib.hid hJ3
        have HB3 := Lib.hid (HB2.out.trans hk3)
        have t3 := (HB3.out.cell (.inr (.inl rfl)) 0).trans HS.out
        clear hJ3 hk3
        cases x3
        · gi_wp2
          refine bodyPost_ret (results_none rfl _ _ _) rfl ?_
          exact ⟨⟨_, rfl⟩, .inl ⟨pre ++ [x], by rw [HP3.out, List.map_append, List.map_cons, List.map_nil, HX.out]; simp, HJ3.out⟩⟩
        · have hroom := HC2.out rfl
          have hz3 : ((⟨x1.toArray⟩ : ByteArray).size : Int) ≤ 4096 := by omega
          have hz4 : (sep.size : Int) ≤ 10 := by omega
          gi_wp2
          have hpp := HPP.out
          go_roundw
          case rel => exact ⟨a + (x1.length + sep.size), pre ++ [x], g, by first | rfl | go_num | (rw [hx1e]; go_num), by omega, Lib.hid ⟨by simp; omega, by omega, by rw [HP3.out, List.map_append, List.map_cons, List.map_nil, HX.out]; simp⟩, HB3, HJ3⟩
          case measure => simp [intOf]; omega
      · gi_wp2
        refine bodyPost_ret (results_none rfl _ _ _) rfl ?_
        exact ⟨⟨_, rfl⟩, .inr ⟨pre ++ [x], ⟨_, by rw [HP3.out, List.map_append, List.map_cons, List.map_nil, HX.out, List.append_assoc]; rfl⟩, hJx3⟩⟩
end Go.Proofs.YtjpbccpleflkhaaDoor
