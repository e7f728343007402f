/- runLength, isRun and Word of package lexer, for all texts. -/
import Derived.Test.YtnoaafhgapaicaaDoorPtf
import Derived.Test.YtnoaafhgapaicaaDoorGJ
namespace Pt
def wordE (l : List UInt8) : Int := if l.head?.any isLet then (if l.all inn then (if 24 < l.length then 17 else 0) else 3) else 3
theorem take_one (d : ByteArray) (j : Nat) (hj : j < d.size) : d.data.toList.take (j + 1) = d.data.toList.take j ++ [d[j]'hj] := by
  have h : j < d.data.toList.length := by show j < d.data.toList.length; exact hj
  rw [List.take_add_one, List.getElem?_eq_getElem h]
  rfl
theorem all_one (d : ByteArray) (j : Nat) (hj : j < d.size) : (d.data.toList.take (j + 1)).all inn = ((d.data.toList.take j).all inn && inn (d[j]'hj)) := by
  rw [take_one d j hj, List.all_append]
  simp
theorem all_no (d : ByteArray) (j : Nat) (hj : j < d.size) (h : inn (d[j]'hj) = false) : d.data.toList.all inn = false := by
  cases e : d.data.toList.all inn with
  | false => rfl
  | true =>
    have := List.all_eq_true.1 e (d[j]'hj) (by
      have h : j < d.data.toList.length := by show j < d.data.toList.length; exact hj
      exact List.getElem_mem h)
    rw [h] at this; cases this
theorem all_full (d : ByteArray) : d.data.toList.take d.size = d.data.toList := List.take_of_length_le (by show d.data.toList.length ≤ d.data.size; simp)
end Pt
namespace Go.Proofs.YtnoaafhgapaicaaDoor
open Go.RowKit
set_option maxHeartbeats 4000000 in
set_option maxRecDepth 100000 in
theorem runLen_any (s : ByteArray) (hs : s.size ≤ 1000000) (h0 : 0 < s.size) (hl : Pt.isLet (s[0]'h0) = true) (w : World) (hx : Lg w) : Calls Tryd.prog 76 #[.string s] w fun e w' => ∃ n : Nat, e = .returned (.int .i64 (n : Int)) ∧ (n = s.size ↔ s.data.toList.all Pt.inn = true) ∧ Below w.heap.size w w' := by
  have HX := Lib.hid hx
  have C0 := Lib.hid (classOf_fun (s[0]'h0) w hx.lx)
  rw [(Pt.cls_five _).2 hl] at C0
  have CC := fun (j : Nat) (hj : j < s.size) W (h : Lx W) => Lib.hid (classOf_fun (s[j]'hj) W h)
  have HI := Lib.hid (show (s.data.toList.take 1).all Pt.inn = true by
    rw [Pt.all_one s 0 h0]
    simp [Pt.inn, hl])
  clear hx hl
  have z0 : (0 : Int) < (s.size : Int) := by omega
  have zs : (s.size : Int) ≤ 1000000 := by omega
  go_enter Tryd.func76, Tryd.ntmps76
  go_wp2_with fail
  refine C0.out.mono ?_
  rintro e w1 ⟨rfl, rfl⟩
  clear C0
  go_wp2
  go_loopw [4] (fun s4 wr => ∃ n : Nat, 1 ≤ n ∧ n ≤ s.size ∧ s4 = .int .i64 (n : Int) ∧ Hid (∃ q, wr = w1.drewN q) ∧ Hid ((s.data.toList.take n).all Pt.inn = true)) (fun s4 _ => s.size - (intOf s4).toNat)
  case atStart => exact ⟨1, Nat.le_refl _, by omega, rfl, Lib.hid ⟨0, rfl⟩, HI⟩
  case round =>
    obtain ⟨n, hn1, hn, rfl, HQ, HJ⟩ := hrel
    obtain ⟨q, rfl⟩ := HQ.out
    by_cases hil : n < s.size
    · have zi : (n : Int) < (s.size : Int) := by omega
      have hc6 := Pt.cls_lt (s[n]'hil)
      have zc : (Pt.clsV (s[n]'hil) : Int) < 6 := by omega
      have g0 := HX.out.go (Pt.clsV (s[n]'hil)) hc6
      rw [Pt.cls_inn] at g0
      have d0 : (w1.drewN q).cell? ⟨1, 30 + Pt.clsV (s[n]'hil), none⟩ = some (.bool (Pt.inn (s[n]'hil))) := g0
      have HS := Lib.hid (fun (h : Pt.inn (s[n]'hil) = true) => show (s.data.toList.take (n + 1)).all Pt.inn = true by rw [Pt.all_one s n hil, HJ.out, h]; rfl)
      have HN := Lib.hid (fun (h : Pt.inn (s[n]'hil) = false) => Pt.all_no s n hil h)
      have CN := fun m => CC n hil ((w1.drewN q).drewN m) ((HX.out.lx.next (below_drewN w1 q)).next (below_drewN _ m))
      clear g0 hc6
      generalize hw : w1.drewN q = wr at *
      generalize Pt.clsV (s[n]'hil) = r at *
      generalize hbb : Pt.inn (s[n]'hil) = bb at *
      have HW := Lib.hid hw
      have HNZ := Lib.hid hil
      clear hw hbb
      cases bb
      · have hf := HN.out rfl
        have HF := Lib.hid (show (n = s.size ↔ s.data.toList.all Pt.inn = true) from ⟨fun h => by have := HNZ.out; omega, fun h => by rw [hf] at h; cases h⟩)
        clear hf
        go_wp2
        go_quiet (first | (go_at_call 75; exact Calls.quiet_of_same (CN _).out))
        go_wp2
        go_ret
        exact ⟨n, rfl, HF.out, by have := HW.out; subst this; exact (below_drewN w1 q).trans (below_drewN _ _)⟩
      · have HT := Lib.hid (HS.out rfl)
        go_wp2
        go_quiet (first | (go_at_call 75; exact Calls.quiet_of_same (CN _).out))
        go_wp2
        exact ⟨⟨n + 1, by omega, by have := HNZ.out; omega, by first | rfl | go_num, Lib.hid ⟨_, by rw [← HW.out, drew2]⟩, HT⟩, by have := HNZ.out; simp [intOf]; omega⟩
    · have hne : n = s.size := by omega
      have HF := Lib.hid (show (n = s.size ↔ s.data.toList.all Pt.inn = true) from ⟨fun _ => by rw [← Pt.all_full s, ← hne]; exact HJ.out, fun _ => hne⟩)
      have zi : ¬ ((n : Int) < (s.size : Int)) := by omega
      clear hne
      go_wp2
      go_quiet (fail)
      go_wp2
      go_ret
      exact ⟨n, rfl, HF.out, (below_drewN w1 q).trans (below_drewN _ _)⟩
set_option maxHeartbeats 4000000 in
set_option maxRecDepth 100000 in
theorem isRun_any (s : ByteArray) (hs : s.size ≤ 1000000) (w : World) (hx : Lg w) : Calls Tryd.prog 65 #[.string s, .int .i64 5] w fun e w' => e = .returned (.bool (s.data.toList.head?.any Pt.isLet && s.data.toList.all Pt.inn)) ∧ Below w.heap.size w w' := by
  have HX := Lib.hid hx
  by_cases h0 : 0 < s.size
  · have hh : s.data.toList.head? = some (s[0]'h0) := by
      have h : 0 < s.data.toList.length := by show 0 < s.data.toList.length; exact h0
      rw [List.head?_eq_getElem?, List.getElem?_eq_getElem h]
      rfl
    rw [hh, Option.any_some]
    have C0 := Lib.hid (classOf_fun (s[0]'h0) w hx.lx)
    have hne : ¬ s = ⟨#[]⟩ := fun e => by rw [e] at h0; exact absurd h0 (by decide)
    have t8 := no_txt hne
    have u8 := no_txt2 hne
    have z0 : (0 : Int) < (s.size : Int) := by omega
    cases hl : Pt.isLet (s[0]'h0)
    · have hc : ((Pt.clsV (s[0]'h0) : Int) == 5) = false := by
        have : Pt.clsV (s[0]'h0) ≠ 5 := fun e => by rw [(Pt.cls_five _).1 e] at hl; cases hl
        have : ¬ ((Pt.clsV (s[0]'h0) : Int) = 5) := by omega
        simp [this]
      rw [Bool.false_and]
      clear hx hne hl hh
      generalize (Pt.clsV (s[0]'h0) : Int) = r at *
      go_enter Tryd.func65, Tryd.ntmps65
      go_wp2_with fail
      refine C0.out.mono ?_
      rintro e w1 ⟨rfl, rfl⟩
      go_wp2
      go_ret
      exact ⟨rfl, Below.refl _ _⟩
    · have CR := Lib.hid (runLen_any s hs h0 hl w hx)
      rw [(Pt.cls_five _).2 hl] at C0
      rw [Bool.true_and]
      clear hx hne hl hh
      generalize s.data.toList.all Pt.inn = al at *
      go_enter Tryd.func65, Tryd.ntmps65
      go_wp2_with fail
      refine C0.out.mono ?_
      rintro e w1 ⟨rfl, rfl⟩
      clear C0
      go_wp2_with fail
      refine CR.out.mono ?_
      rintro e w2 ⟨n, rfl, hn, hb⟩
      have HB := Lib.hid hb
      have HE := Lib.hid (show ((n : Int) == (s.size : Int)) = al by
        cases al with
        | true => have := hn.2 rfl; rw [this]; simp
        | false =>
          have : n ≠ s.size := fun e => by have := hn.1 e; cases this
          have : ¬ ((n : Int) = (s.size : Int)) := by omega
          simp [this])
      clear hb CR hn
      go_wp2
      go_ret
      exact ⟨by rw [← HE.out]; rfl, HB.out⟩
  · have hz : s = ⟨#[]⟩ := by
      obtain ⟨⟨l⟩⟩ := s
      cases l with
      | nil => rfl
      | cons a r => exact absurd (show 0 < (a :: r).length by simp) h0
    subst hz
    clear hx
    go_enter Tryd.func65, Tryd.ntmps65
    go_wp2
    go_ret
    exact ⟨rfl, Below.refl _ _⟩
set_option maxHeartbeats 4000000 in
set_option maxRecDepth 100000 in
theorem word_all (s : ByteArray) (hs : s.size ≤ 1000000) (w : World) (hx : Lg w) : Calls Tryd.prog 42 #[.string s] w fun e w' => e = .returned (.int .i64 (Pt.wordE s.data.toList)) ∧ Below w.heap.size w w' := by
  have CR := Lib.hid (isRun_any s hs w hx)
  have hlen : s.data.toList.length = s.size := by show s.data.toList.length = s.data.size; simp
  unfold Pt.wordE
  rw [hlen]
  clear hx hlen
  generalize s.data.toList.head?.any Pt.isLet = a at *
  generalize s.data.toList.all Pt.inn = b at *
  cases a <;> cases b <;> simp only [Bool.false_eq_true, if_true, if_false, Bool.true_and, Bool.false_and] at CR ⊢
  rotate_left 3
  · by_cases h24 : 24 < s.size
    · rw [if_pos h24]
      have z : (24 : Int) < (s.size : Int) := by omega
      go_enter Tryd.func42, Tryd.ntmps42
      go_wp2_with fail
      refine CR.out.mono ?_
      rintro e w2 ⟨rfl, hb⟩
      have HB := Lib.hid hb
      clear hb
      go_wp2
      go_ret
      exact ⟨rfl, HB.out⟩
    · rw [if_neg h24]
      have z : ¬ ((24 : Int) < (s.size : Int)) := by omega
      go_enter Tryd.func42, Tryd.ntmps42
      go_wp2_with fail
      refine CR.out.mono ?_
      rintro e w2 ⟨rfl, hb⟩
      have HB := Lib.hid hb
      clear hb
      go_wp2
      go_ret
      exact ⟨rfl, HB.out⟩
  all_goals
    go_enter Tryd.func42, Tryd.ntmps42
    go_wp2_with fail
    refine CR.out.mono ?_
    rintro e w2 ⟨rfl, hb⟩
    have HB := Lib.hid hb
    clear hb
    go_wp2
    go_ret
    exact ⟨rfl, HB.out⟩
end Go.Proofs.YtnoaafhgapaicaaDoor
