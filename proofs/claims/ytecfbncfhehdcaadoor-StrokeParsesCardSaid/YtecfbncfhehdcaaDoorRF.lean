/- The way of an actuator in a step, of both. -/
import Derived.Test.YtecfbncfhehdcaaDoorRE
namespace Sk
/-- The way of an actuator. -/
def wayV : List Str → Int → Int
  | [], _ => 0
  | x :: l, k => if x.1 = k then (if x.2 then 1 else -1) else wayV l k
theorem way_at {k : Int} : ∀ {l : List Str} {i : Nat}, (∀ a, a < i → (l.getD a d0).1 ≠ k) → i < l.length → (l.getD i d0).1 = k → wayV l k = if (l.getD i d0).2 then 1 else -1
  | [], i, _, hi, _ => by simp at hi
  | x :: l, 0, _, _, h => by
    have h' : x.1 = k := h
    show (if x.1 = k then _ else _) = _
    rw [if_pos h']; rfl
  | x :: l, i + 1, hb, hi, h => by
    have h0 : x.1 ≠ k := hb 0 (by omega)
    show (if x.1 = k then _ else _) = _
    rw [if_neg h0]
    exact way_at (fun a ha => hb (a + 1) (by omega)) (by simpa using hi) h
theorem way_no {k : Int} : ∀ {l : List Str}, (∀ a, a < l.length → (l.getD a d0).1 ≠ k) → wayV l k = 0
  | [], _ => rfl
  | x :: l, hb => by
    have h0 : x.1 ≠ k := hb 0 (by simp)
    show (if x.1 = k then _ else _) = _
    rw [if_neg h0]
    exact way_no (fun a ha => hb (a + 1) (by simpa using ha))
def hasV (l : List Str) (n k : Int) : Int × Int := if chkP l n = 0 then (if chkS k = 0 then (wayV l k, 0) else (0, chkS k)) else (0, chkP l n)
end Sk
namespace Go.Proofs.YtecfbncfhehdcaaDoor
open Go.RowKit
def HasP (q : Int × Int) (w : World) (e : Ending) (w' : World) : Prop := e = .returned (.tuple #[.int .i64 q.1, .int .i64 q.2]) ∧ Below w.heap.size w w'
set_option maxHeartbeats 8000000 in
set_option maxRecDepth 100000 in
theorem rWay_any (v : Value) (l : List Sk.Str) (n k : Int) (w : World) (hs : SeeK w v l) : Calls Tryd.prog 94 #[.agg #[v, .int .i64 n], .int .i64 k] w fun e w' => e = .returned (.int .i64 (Sk.wayV l k)) ∧ Below w.heap.size w w' := by
  obtain ⟨ao, cap, rfl, hcap1, hcap2, hC⟩ := hs
  have HC := Lib.hid hC
  obtain ⟨P0, L0, z0⟩ := boxP_new w (.slice ao l.length cap) (.int .i64 n) 70
  have HL := Lib.hid L0
  have HP := Lib.hid P0
  clear hC L0 P0 z0
  have HAt := Lib.hid (fun i hb hi h => Sk.way_at (l := l) (k := k) (i := i) hb hi h)
  have HNone := Lib.hid (fun hb => Sk.way_no (l := l) (k := k) hb)
  generalize Sk.wayV l k = q at *
  go_enter Tryd.func94, Tryd.ntmps94
  go_wp2
  go_loopw [5] (fun s5 wr => ∃ i : Nat, i ≤ l.length ∧ s5 = .int .i64 (i : Int) ∧ Hid (∀ a, a < i → (l.getD a Sk.d0).1 ≠ k) ∧ Hid (Below w.heap.size w wr) ∧ Hid (BoxP wr w.heap.size (.slice ao l.length cap) (.int .i64 n))) (fun s5 _ => l.length - (intOf s5).toNat)
  case atStart => exact ⟨0, Nat.zero_le _, rfl, Lib.hid (fun a h => by omega), HL, HP⟩
  case round =>
    clear HP HL
    obtain ⟨i, hi, rfl, HJ, HBW, HP⟩ := hrel
    obtain ⟨p0, p1, p2⟩ := HP.out
    by_cases hil : i < l.length
    · obtain ⟨g, off, rfl, hg, c1, c2⟩ := HC.out.at HBW.out hil
      have HAi := Lib.hid (HAt.out i HJ.out hil)
      have HJ2 : Hid ((l.getD i Sk.d0).1 ≠ k → ∀ a, a < i + 1 → (l.getD a Sk.d0).1 ≠ k) := Lib.hid (fun h a ha => by
        by_cases e : a = i
        · rw [e]; exact h
        · exact HJ.out a (by omega))
      have hwi : IntKind.i64.wrap (i : Int) = (i : Int) := IntWalk.i64_in _ (by omega)
      clear HAt HNone HJ
      generalize (l.getD i Sk.d0).1 = x at *
      generalize (l.getD i Sk.d0).2 = o at *
      by_cases hxk : x = k
      · have hq := HAi.out hxk
        have hxt : (x == k) = true := by simpa using hxk
        clear HAi HJ2
        cases o
        · rw [if_neg (by decide)] at hq
          subst hq
          go_wp2
          go_ret
          exact ⟨rfl, HBW.out⟩
        · rw [if_pos rfl] at hq
          subst hq
          go_wp2
          go_ret
          exact ⟨rfl, HBW.out⟩
      · have HJ3 := Lib.hid (HJ2.out hxk)
        have hxt : (x == k) = false := by simpa using hxk
        clear HAi HJ2
        go_wp2
        exact ⟨⟨i + 1, by omega, by first | rfl | go_num, HJ3, HBW, HP⟩, by simp [intOf]; omega⟩
    · obtain rfl : i = l.length := by omega
      have hq := HNone.out HJ.out
      subst hq
      go_wp2
      go_ret
      exact ⟨rfl, HBW.out⟩
set_option maxHeartbeats 8000000 in
set_option maxRecDepth 100000 in
theorem sHas_any (v : Value) (l : List Sk.Str) (n k : Int) (w : World) (hs : SeeK w v l) : Calls Tryd.prog 39 #[.agg #[v, .int .i64 n], .int .i64 k] w (HasP (Sk.hasV l n k) w) := by
  have CC := fun W (h : SeeK W v l) => Lib.hid (sStp_any v l n W h)
  have HS := Lib.hid hs
  obtain ⟨ao, cap, rfl, hcap1, hcap2, hC⟩ := hs
  have HC := Lib.hid hC
  obtain ⟨P0, L0, z0⟩ := boxP_new w (.slice ao l.length cap) (.int .i64 n) 70
  have HL := Lib.hid L0
  have HP := Lib.hid P0
  have HSX := Lib.hid (HS.out.step L0)
  clear hC L0 P0 z0
  obtain ⟨p0, p1, p2⟩ := HP.out
  by_cases h1 : Sk.chkP l n = 0
  · have hv : Sk.hasV l n k = if Sk.chkS k = 0 then (Sk.wayV l k, 0) else (0, Sk.chkS k) := if_pos h1
    rw [h1] at CC
    rw [hv]
    have CA := fun W => Lib.hid (sChk_any k false W)
    by_cases hck : Sk.chkS k = 0
    · rw [if_pos hck]
      rw [hck] at CA
      have HAt := Lib.hid (fun i hb hi h => Sk.way_at (l := l) (k := k) (i := i) hb hi h)
      have HNone := Lib.hid (fun hb => Sk.way_no (l := l) (k := k) hb)
      clear hv h1 hck
      generalize Sk.wayV l k = q at *
      go_enter Tryd.func39, Tryd.ntmps39
      go_wp2_with fail
      refine ((CC _ HSX.out).out).mono ?_
      rintro e w1 ⟨rfl, hb1⟩
      have HB1 := Lib.hid (below_nxt HL.out hb1)
      have HP1 := Lib.hid (HP.out.step hb1)
      clear hb1 p0 p1 p2 HP CC HL
      obtain ⟨p0, p1, p2⟩ := HP1.out
      go_wp2_with fail
      refine ((CA _).out).mono ?_
      rintro e w2 ⟨rfl, hb2⟩
      have HB2 := Lib.hid (below_nxt HB1.out hb2)
      obtain ⟨q0, q1, q2⟩ := HP1.out.step hb2
      clear hb2 p0 p1 p2 HP1 CA HB1
      go_wp2
      clear q0 q1 q2
      go_loopw [24] (fun s24 wr => ∃ i : Nat, i ≤ l.length ∧ s24 = .int .i64 (i : Int) ∧ Hid (∀ a, a < i → (l.getD a Sk.d0).1 ≠ k) ∧ Hid (Below w.heap.size w wr)) (fun s24 _ => l.length - (intOf s24).toNat)
      case atStart => exact ⟨0, Nat.zero_le _, rfl, Lib.hid (fun a h => by omega), HB2⟩
      case round =>
        clear HB2
        obtain ⟨i, hi, rfl, HJ, HBW⟩ := hrel
        by_cases hil : i < l.length
        · obtain ⟨g, off, rfl, hg, c1, c2⟩ := HC.out.at HBW.out hil
          have HAi := Lib.hid (HAt.out i HJ.out hil)
          have HJ2 : Hid ((l.getD i Sk.d0).1 ≠ k → ∀ a, a < i + 1 → (l.getD a Sk.d0).1 ≠ k) := Lib.hid (fun h a ha => by
            by_cases e : a = i
            · rw [e]; exact h
            · exact HJ.out a (by omega))
          clear HAt HNone HJ
          generalize (l.getD i Sk.d0).1 = x at *
          generalize (l.getD i Sk.d0).2 = o at *
          obtain ⟨P1, L1, z1⟩ := boxP_new wr (.int .i64 x) (.bool o) 47
          have HB3 := Lib.hid (below_nxt HBW.out L1)
          obtain ⟨p0, p1, p2⟩ := P1
          clear L1 z1
          by_cases hxk : x = k
          · have hq := HAi.out hxk
            have hxt : (x == k) = true := by simpa using hxk
            clear HAi HJ2
            cases o
            · rw [if_neg (by decide)] at hq
              subst hq
              go_wp2
              exact bodyPost_ret (v := .tuple #[.int .i64 (-1), .int .i64 0]) (by simp [results, Tryd.results39, go_sem]) rfl ⟨rfl, by rw [← hxk]; exact HB3.out⟩
            · rw [if_pos rfl] at hq
              subst hq
              go_wp2
              exact bodyPost_ret (v := .tuple #[.int .i64 1, .int .i64 0]) (by simp [results, Tryd.results39, go_sem]) rfl ⟨rfl, by rw [← hxk]; exact HB3.out⟩
          · have HJ3 := Lib.hid (HJ2.out hxk)
            have hxt : (x == k) = false := by simpa using hxk
            clear HAi HJ2
            go_wp2
            exact ⟨⟨i + 1, by omega, by first | rfl | go_num, HJ3, HB3⟩, by simp [intOf]; omega⟩
        · obtain rfl : i = l.length := by omega
          have hq := HNone.out HJ.out
          subst hq
          go_wp2
          exact bodyPost_ret (v := .tuple #[.int .i64 0, .int .i64 0]) (by simp [results, Tryd.results39, go_sem]) rfl ⟨rfl, HBW.out⟩
    · rw [if_neg hck]
      generalize Sk.chkS k = d at *
      have hd : (d == 0) = false := by rw [beq_eq_false_iff_ne]; exact hck
      clear hv h1 hck
      go_enter Tryd.func39, Tryd.ntmps39
      go_wp2_with fail
      refine ((CC _ HSX.out).out).mono ?_
      rintro e w1 ⟨rfl, hb1⟩
      have HB1 := Lib.hid (below_nxt HL.out hb1)
      clear hb1
      go_wp2_with fail
      refine ((CA _).out).mono ?_
      rintro e w2 ⟨rfl, hb2⟩
      have HB2 := Lib.hid (below_nxt HB1.out hb2)
      clear hb2
      go_wp2
      exact bodyPost_ret (v := .tuple #[.int .i64 0, .int .i64 d]) (by simp [results, Tryd.results39, go_sem]) rfl ⟨rfl, HB2.out⟩
  · have hv : Sk.hasV l n k = (0, Sk.chkP l n) := if_neg h1
    rw [hv]
    generalize Sk.chkP l n = c at *
    have hc : (c == 0) = false := by rw [beq_eq_false_iff_ne]; exact h1
    clear hv h1
    go_enter Tryd.func39, Tryd.ntmps39
    go_wp2_with fail
    refine ((CC _ HSX.out).out).mono ?_
    rintro e w1 ⟨rfl, hb1⟩
    have HB1 := Lib.hid (below_nxt HL.out hb1)
    clear hb1
    go_wp2
    exact bodyPost_ret (v := .tuple #[.int .i64 0, .int .i64 c]) (by simp [results, Tryd.results39, go_sem]) rfl ⟨rfl, HB1.out⟩
end Go.Proofs.YtecfbncfhehdcaaDoor

