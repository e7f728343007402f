/- Reach and Reverse of package digraph. -/
import Derived.Test.YtkjhockppkdakaaDB
namespace Dg
def rcL (n : Nat) (es : List (Nat × Nat)) (s j : Nat) : List Nat := (List.range j).filter fun v => decide (0 ≤ dist n es s v)
theorem rcL_succ (n : Nat) (es : List (Nat × Nat)) (s j : Nat) : rcL n es s (j + 1) = if dist n es s j = -1 then rcL n es s j else rcL n es s j ++ [j] := by
  unfold rcL
  rw [fr_succ]
  have := dist_ge (n := n) (E := es) (s := s) (v := j)
  by_cases h : dist n es s j = -1
  · rw [if_pos h]; simp [h]
  · rw [if_neg h, if_pos (by simp; omega)]
theorem rcL_len (n : Nat) (es : List (Nat × Nat)) (s j : Nat) : (rcL n es s j).length ≤ j := by
  unfold rcL; exact Nat.le_trans (List.length_filter_le _ _) (by simp)
end Dg
namespace Go.Proofs.Ytkjhockppkdakaa
open Go.RowKit Go.Shelf

set_option maxHeartbeats 4000000 in
set_option maxRecDepth 100000 in
theorem dReach_ok (n : Nat) (es : List (Nat × Nat)) (s : Nat) (v : Value) (w : World) (hE : Dg.Ok n es) (hs : s < n) (hn : n ≤ 16) (he : es.length ≤ 64) (hv : SeesE w v (Dg.cst es)) :
    Calls Try.prog 13 #[.agg #[.int .i64 n, v], .int .i64 s] w fun e w' => ∃ u, e = .returned (.tuple #[u, .int .i64 0]) ∧ SeesI w' u (Dg.ci (Dg.rcL n es s n)) ∧ Below w.heap.size w w' := by
  obtain ⟨i0, hi0, hz0, hz1, hz2⟩ := info_int
  have CD := fun W h => Lib.hid (dDist_ok n es s v W hE hs hn he h)
  have BX := fun (W : World) (o : Obj) => (Below.refl W.heap.size W).alloc (Nat.le_refl _) o
  have HV := Lib.hid hv
  obtain ⟨ao, cap, rfl⟩ := hv.slice
  obtain ⟨P0, L0, z0⟩ := gph_new w n (.slice ao (Dg.cst es).length cap) 24
  generalize hX : w.alloc (.cells #[.int .i64 n, .slice ao (Dg.cst es).length cap] 24) = X at *
  obtain ⟨p0, p1, p2⟩ := id P0
  have HL := Lib.hid L0
  clear hv L0 z0 hE
  go_enter Try.func13, Try.ntmps13
  go_wp2_with fail
  refine ((CD _ (HV.out.step HL.out)).out).mono ?_
  rintro e w1 ⟨u, rfl, hs1, hb⟩
  have HB1 := Lib.hid (below_nxt HL.out hb)
  obtain ⟨au, cu, rfl, hcu, hcu2, hCu⟩ := hs1.opened
  rw [Dg.distL_len] at *
  clear hb hs1 CD P0 p1 p2 hX
  go_wp2
  go_loopw [8, 22] (fun s8 s22 wr => ∃ j : Nat, j ≤ n ∧ s22 = .int .i64 j ∧ RowI w1.heap.size 3 wr s8 (Dg.ci (Dg.rcL n es s j)) ∧ Hid (Below w1.heap.size w1 wr)) (fun _ s22 _ => n - (intOf s22).toNat)
  case atStart => exact ⟨0, Nat.zero_le _, rfl, RowI.nil _ _ _, Lib.hid (Below.refl _ _)⟩
  case round =>
    obtain ⟨j, hj, rfl, hR, HB⟩ := hrel
    have HR := Lib.hid hR
    obtain ⟨ra, rc, rfl⟩ := hR.form
    have hwz := HB.out.size
    by_cases hjn : j < n
    · obtain ⟨b, off, rfl, hb, c1⟩ := hCu.at HB.out (i := j) (by rw [Dg.distL_len]; exact hjn)
      rw [Dg.distL_at hjn] at c1
      have HSU := Lib.hid (Dg.rcL_succ n es s j)
      have hrl := Dg.rcL_len n es s j
      have hcl : (Dg.ci (Dg.rcL n es s j)).length ≤ 16 := by rw [Dg.ci_len]; omega
      generalize Dg.dist n es s j = d at *
      clear hR
      by_cases hd : d = -1
      · subst hd
        have HF := Lib.hid (HSU.out.trans (if_pos rfl))
        clear HSU
        go_wp2
        exact ⟨⟨j + 1, by omega, by first | rfl | go_num, by rw [HF.out]; exact HR.out, HB⟩, by simp [intOf]; omega⟩
      · have HF := Lib.hid (HSU.out.trans (if_neg hd))
        have hne : (d != -1) = true := by simp [hd]
        clear HSU
        go_wp2_with (at_builtin; refine wpList_append_int rfl _ _ 27 rfl 3 i0 Try.underlying27 hi0 hz0 hz1 hz2 _ _ (Dg.ci (Dg.rcL n es s j)) [(j : Int)] rfl rfl w1.heap.size (HR.out.step (BX _ _)) (SeesI.one _ _ _) (by simp; omega) (by simp; omega) ?_; intro a5 p5 w5 hr5 hg5 ho5; have HB5 := Lib.hid ((HB.out.alloc hwz (.cells #[.int .i64 (j : Int)] 3)).trans (RowI.belowOwn (C := w1.heap.size) (HR.out.step (BX _ _)) hg5 (by simp; omega) (Nat.le_refl _))); have HR5 := Lib.hid hr5; clear hr5 hg5 ho5)
        exact ⟨⟨j + 1, by omega, by first | rfl | go_num, by rw [HF.out, Dg.ci_append]; exact HR5.out, HB5⟩, by simp [intOf]; omega⟩
    · obtain rfl : n = j := by omega
      clear hR
      go_wp2
      exact bodyPost_ret (v := .tuple #[.slice ra (Dg.ci (Dg.rcL n es s n)).length rc, .int .i64 0]) (by simp [results, Try.results13, go_sem]) rfl ⟨_, rfl, HR.out.sees, HB1.out.trans (HB.out.mono HB1.out.size)⟩

set_option maxHeartbeats 4000000 in
set_option maxRecDepth 100000 in
theorem dReach_bad (n x : Int) (E : List (Int × Int)) (v : Value) (w : World) (hk : Dg.chkV n E [x] ≠ 0) (hv : SeesE w v E) :
    Calls Try.prog 13 #[.agg #[.int .i64 n, v], .int .i64 x] w fun e w' => e = .returned (.tuple #[.slice none 0 0, .int .i64 (Dg.chkV n E [x])]) ∧ Below w.heap.size w w' := by
  have CD := fun W h => Lib.hid (dDist_bad n x E v W hk h)
  have hne : (Dg.chkV n E [x] != 0) = true := by simp [hk]
  generalize Dg.chkV n E [x] = k at *
  have HV := Lib.hid hv
  obtain ⟨ao, cap, rfl⟩ := hv.slice
  obtain ⟨P0, L0, z0⟩ := gph_new w n (.slice ao E.length cap) 24
  generalize hX : w.alloc (.cells #[.int .i64 n, .slice ao E.length cap] 24) = X at *
  obtain ⟨p0, p1, p2⟩ := id P0
  have HL := Lib.hid L0
  clear hv L0 hk z0
  go_enter Try.func13, Try.ntmps13
  go_wp2_with fail
  refine ((CD _ (HV.out.step HL.out)).out).mono ?_
  rintro e w1 ⟨rfl, hb⟩
  have HB1 := Lib.hid (below_nxt HL.out hb)
  clear hb
  go_wp2
  exact bodyPost_ret (v := .tuple #[.slice none 0 0, .int .i64 k]) (by simp [results, Try.results13, go_sem]) rfl ⟨rfl, HB1.out⟩
end Go.Proofs.Ytkjhockppkdakaa
