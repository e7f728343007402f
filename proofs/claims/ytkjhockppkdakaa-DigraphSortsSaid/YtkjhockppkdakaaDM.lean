/- Distances, Reach and Reverse of the reference; the same of the program, all errors included. -/
import Derived.Test.YtkjhockppkdakaaDJ
import Derived.Test.YtkjhockppkdakaaDK
namespace Dg
def dV (n x : Int) (E : List (Int × Int)) : List Int := if chkV n E [x] = 0 then distL n.toNat (nE E) x.toNat else []
def rcV (n x : Int) (E : List (Int × Int)) : List Int := if chkV n E [x] = 0 then ci (rcL n.toNat (nE E) x.toNat n.toNat) else []
theorem dV_ok (n : Nat) (es : List (Nat × Nat)) (s : Nat) (h : chkV n (cst es) [(s : Int)] = 0) : dV n s (cst es) = distL n es s := by unfold dV; rw [if_pos h, nE_cst]; rfl
theorem dV_bad {n x : Int} {E : List (Int × Int)} (h : chkV n E [x] ≠ 0) : dV n x E = [] := if_neg h
theorem rcV_ok (n : Nat) (es : List (Nat × Nat)) (s : Nat) (h : chkV n (cst es) [(s : Int)] = 0) : rcV n s (cst es) = ci (rcL n es s n) := by unfold rcV; rw [if_pos h, nE_cst]; rfl
theorem rcV_bad {n x : Int} {E : List (Int × Int)} (h : chkV n E [x] ≠ 0) : rcV n x E = [] := if_neg h
theorem chkV_cases {n x : Int} {E : List (Int × Int)} (h : chkV n E [x] = 0) : ∃ (m s : Nat) (es : List (Nat × Nat)), n = m ∧ x = s ∧ E = cst es ∧ m ≤ 256 ∧ es.length ≤ 4096 ∧ s < m ∧ Ok m es := by
  obtain ⟨h1, h2, h3⟩ := chkV_zero h
  obtain ⟨m, es, rfl, hm, rfl, hl, hl2, hO⟩ := chk_zero h1
  obtain ⟨s, rfl⟩ := Int.eq_ofNat_of_zero_le h2
  exact ⟨m, s, es, rfl, rfl, rfl, hm, hl2, by omega, hO⟩
end Dg
namespace Go.Proofs.Ytkjhockppkdakaa
open Go.RowKit Go.Shelf

set_option maxHeartbeats 4000000 in
set_option maxRecDepth 100000 in
theorem rDist_any (n x : Int) (E : List (Int × Int)) (v : Value) (w : World) (hv : SeesE w v E) :
    Calls Try.prog 16 #[.agg #[.int .i64 n, v], .int .i64 x] w fun e w' => ∃ u, e = .returned (.tuple #[u, .int .i64 (Dg.chkV n E [x])]) ∧ SeesI w' u (Dg.dV n x E) ∧ Below w.heap.size w w' := by
  have CG := fun W h => Lib.hid (rGiv_any n x v E W h)
  by_cases hk : Dg.chkV n E [x] = 0
  · obtain ⟨m, s, es, rfl, rfl, rfl, hm, hl, hs, hE⟩ := Dg.chkV_cases hk
    rw [Dg.dV_ok m es s hk]
    have CF := fun W h => Lib.hid (rFar_any m es s v W hE hs hm hl h)
    rw [hk] at CG ⊢
    have HV := Lib.hid hv
    obtain ⟨ao, cap, rfl⟩ := hv.slice
    obtain ⟨P0, L0, z0⟩ := gph_new w m (.slice ao (Dg.cst es).length cap) 24
    generalize hX : w.alloc (.cells #[.int .i64 m, .slice ao (Dg.cst es).length cap] 24) = X at *
    obtain ⟨p0, p1, p2⟩ := id P0
    have HL := Lib.hid L0
    clear hv L0 z0 hE hk
    go_enter Try.func16, Try.ntmps16
    go_wp2_with fail
    refine ((CG _ (HV.out.step HL.out)).out).mono ?_
    rintro e w1 ⟨rfl, hb⟩
    have HB1 := Lib.hid (below_nxt HL.out hb)
    obtain ⟨p0', q1, q2⟩ := P0.step hb
    clear hb p1 p2 p0 P0
    go_wp2_with fail
    refine ((CF _ (HV.out.step HB1.out)).out).mono ?_
    rintro e w2 ⟨u, rfl, hs2, hb⟩
    have HB2 := Lib.hid (below_nxt HB1.out hb)
    have HS := Lib.hid hs2
    clear hb hs2
    go_wp2
    exact bodyPost_ret (v := .tuple #[u, .int .i64 0]) (by simp [results, Try.results16, go_sem]) rfl ⟨_, rfl, HS.out, HB2.out⟩
  · have hne : (Dg.chkV n E [x] != 0) = true := by simp [hk]
    rw [Dg.dV_bad hk]
    generalize Dg.chkV n E [x] = k at *
    have HV := Lib.hid hv
    obtain ⟨ao, cap, rfl⟩ := hv.slice
    obtain ⟨P0, L0, z0⟩ := gph_new w n (.slice ao E.length cap) 24
    generalize hX : w.alloc (.cells #[.int .i64 n, .slice ao E.length cap] 24) = X at *
    obtain ⟨p0, p1, p2⟩ := id P0
    have HL := Lib.hid L0
    clear hv L0 hk z0
    go_enter Try.func16, Try.ntmps16
    go_wp2_with fail
    refine ((CG _ (HV.out.step HL.out)).out).mono ?_
    rintro e w1 ⟨rfl, hb⟩
    have HB1 := Lib.hid (below_nxt HL.out hb)
    clear hb
    go_wp2
    exact bodyPost_ret (v := .tuple #[.slice none 0 0, .int .i64 k]) (by simp [results, Try.results16, go_sem]) rfl ⟨_, rfl, SeesI.nil _, HB1.out⟩

set_option maxHeartbeats 4000000 in
set_option maxRecDepth 100000 in
theorem rReach_any (n x : Int) (E : List (Int × Int)) (v : Value) (w : World) (hv : SeesE w v E) :
    Calls Try.prog 14 #[.agg #[.int .i64 n, v], .int .i64 x] w fun e w' => ∃ u, e = .returned (.tuple #[u, .int .i64 (Dg.chkV n E [x])]) ∧ SeesI w' u (Dg.rcV n x E) ∧ Below w.heap.size w w' := by
  have CG := fun W h => Lib.hid (rGiv_any n x v E W h)
  by_cases hk : Dg.chkV n E [x] = 0
  · obtain ⟨m, s, es, rfl, rfl, rfl, hm, hl, hs, hE⟩ := Dg.chkV_cases hk
    obtain ⟨i0, hi0, hz0, hz1, hz2⟩ := info_int
    have BX := fun (W : World) (o : Obj) => (Below.refl W.heap.size W).alloc (Nat.le_refl _) o
    rw [Dg.rcV_ok m es s hk]
    have CF := fun W h => Lib.hid (rFar_any m es s v W hE hs hm hl h)
    rw [hk] at CG ⊢
    have HV := Lib.hid hv
    obtain ⟨ao, cap, rfl⟩ := hv.slice
    obtain ⟨P0, L0, z0⟩ := gph_new w m (.slice ao (Dg.cst es).length cap) 24
    generalize hX : w.alloc (.cells #[.int .i64 m, .slice ao (Dg.cst es).length cap] 24) = X at *
    obtain ⟨p0, p1, p2⟩ := id P0
    have HL := Lib.hid L0
    clear hv L0 z0 hE hk
    go_enter Try.func14, Try.ntmps14
    go_wp2_with fail
    refine ((CG _ (HV.out.step HL.out)).out).mono ?_
    rintro e w1 ⟨rfl, hb⟩
    have HB1 := Lib.hid (below_nxt HL.out hb)
    have P1 := P0.step hb
    obtain ⟨p0', q1, q2⟩ := id P1
    clear hb p1 p2 p0 P0
    go_wp2_with fail
    refine ((CF _ (HV.out.step HB1.out)).out).mono ?_
    rintro e w2 ⟨u, rfl, hs2, hb⟩
    have HB2 := Lib.hid (below_nxt HB1.out hb)
    have P2 := Lib.hid (P1.step hb)
    obtain ⟨au, cu, rfl, hcu, hcu2, hCu⟩ := hs2.opened
    rw [Dg.distL_len] at *
    clear hb hs2 q1 q2 P1 hX p0'
    go_wp2
    go_loopw [8, 9] (fun s8 s9 wr => ∃ j : Nat, j ≤ m ∧ s9 = .int .i64 j ∧ RowI w2.heap.size 3 wr s8 (Dg.ci (Dg.rcL m es s j)) ∧ Hid (Below w2.heap.size w2 wr)) (fun _ s9 _ => m - (intOf s9).toNat)
    case atStart => exact ⟨0, Nat.zero_le _, rfl, RowI.nil _ _ _, Lib.hid (Below.refl _ _)⟩
    case round =>
      obtain ⟨j, hj, rfl, hR, HB⟩ := hrel
      have HR := Lib.hid hR
      obtain ⟨ra, rc, rfl⟩ := hR.form
      have hwz := HB.out.size
      obtain ⟨-, g1, g2⟩ := P2.out.step HB.out
      by_cases hjn : j < m
      · obtain ⟨b, off, rfl, hb, c1⟩ := hCu.at HB.out (i := j) (by rw [Dg.distL_len]; exact hjn)
        rw [Dg.distL_at hjn] at c1
        have HSU := Lib.hid (Dg.rcL_succ m es s j)
        have hrl := Dg.rcL_len m es s j
        have hcl : (Dg.ci (Dg.rcL m es s j)).length ≤ 256 := by rw [Dg.ci_len]; omega
        have hge := Dg.dist_ge (n := m) (E := es) (s := s) (v := j)
        generalize Dg.dist m es s j = d at *
        clear hR
        by_cases hd : d = -1
        · subst hd
          have HF := Lib.hid (HSU.out.trans (if_pos rfl))
          clear HSU
          go_wp2
          exact ⟨⟨j + 1, by omega, by first | rfl | go_num, by rw [HF.out]; exact HR.out, HB⟩, by simp [intOf]; omega⟩
        · have HF := Lib.hid (HSU.out.trans (if_neg hd))
          have hd0 : 0 ≤ d := by omega
          clear HSU
          go_wp2_with (at_builtin; refine wpList_append_int rfl _ _ 27 rfl 3 i0 Try.underlying27 hi0 hz0 hz1 hz2 _ _ (Dg.ci (Dg.rcL m es s j)) [(j : Int)] rfl rfl w2.heap.size (HR.out.step (BX _ _)) (SeesI.one _ _ _) (by simp; omega) (by simp; omega) ?_; intro a5 p5 w5 hr5 hg5 ho5; have HB5 := Lib.hid ((HB.out.alloc hwz (.cells #[.int .i64 (j : Int)] 3)).trans (RowI.belowOwn (C := w2.heap.size) (HR.out.step (BX _ _)) hg5 (by simp; omega) (Nat.le_refl _))); have HR5 := Lib.hid hr5; clear hr5 hg5 ho5)
          exact ⟨⟨j + 1, by omega, by first | rfl | go_num, by rw [HF.out, Dg.ci_append]; exact HR5.out, HB5⟩, by simp [intOf]; omega⟩
      · obtain rfl : m = j := by omega
        clear hR
        go_wp2
        exact bodyPost_ret (v := .tuple #[.slice ra (Dg.ci (Dg.rcL m es s m)).length rc, .int .i64 0]) (by simp [results, Try.results14, go_sem]) rfl ⟨_, rfl, HR.out.sees, HB2.out.trans (HB.out.mono HB2.out.size)⟩
  · have hne : (Dg.chkV n E [x] != 0) = true := by simp [hk]
    rw [Dg.rcV_bad hk]
    generalize Dg.chkV n E [x] = k at *
    have HV := Lib.hid hv
    obtain ⟨ao, cap, rfl⟩ := hv.slice
    obtain ⟨P0, L0, z0⟩ := gph_new w n (.slice ao E.length cap) 24
    generalize hX : w.alloc (.cells #[.int .i64 n, .slice ao E.length cap] 24) = X at *
    obtain ⟨p0, p1, p2⟩ := id P0
    have HL := Lib.hid L0
    clear hv L0 hk z0
    go_enter Try.func14, Try.ntmps14
    go_wp2_with fail
    refine ((CG _ (HV.out.step HL.out)).out).mono ?_
    rintro e w1 ⟨rfl, hb⟩
    have HB1 := Lib.hid (below_nxt HL.out hb)
    clear hb
    go_wp2
    exact bodyPost_ret (v := .tuple #[.slice none 0 0, .int .i64 k]) (by simp [results, Try.results14, go_sem]) rfl ⟨_, rfl, SeesI.nil _, HB1.out⟩

/-- Reach of the program, for few graphs. -/
theorem dReach_few (n x : Int) (E : List (Int × Int)) (v : Value) (w : World) (hf : Dg.few n E = true) (hv : SeesE w v E) :
    Calls Try.prog 13 #[.agg #[.int .i64 n, v], .int .i64 x] w fun e w' => ∃ u, e = .returned (.tuple #[u, .int .i64 (Dg.chkV n E [x])]) ∧ SeesI w' u (Dg.rcV n x E) ∧ Below w.heap.size w w' := by
  by_cases hk : Dg.chkV n E [x] = 0
  · obtain ⟨h1, h2, h3⟩ := Dg.chkV_zero hk
    obtain ⟨m, es, rfl, hm, rfl, hl, hE⟩ := Dg.few_ok hf h1
    obtain ⟨s, rfl⟩ := Int.eq_ofNat_of_zero_le h2
    rw [Dg.rcV_ok m es s hk, hk]
    exact dReach_ok m es s v w hE (by omega) (by omega) (by omega) hv
  · rw [Dg.rcV_bad hk]
    exact (dReach_bad n x E v w hk hv).mono fun e w' ⟨h1, h2⟩ => ⟨_, h1, SeesI.nil _, h2⟩
theorem dDist_few (n x : Int) (E : List (Int × Int)) (v : Value) (w : World) (hf : Dg.few n E = true) (hv : SeesE w v E) :
    Calls Try.prog 15 #[.agg #[.int .i64 n, v], .int .i64 x] w fun e w' => ∃ u, e = .returned (.tuple #[u, .int .i64 (Dg.chkV n E [x])]) ∧ SeesI w' u (Dg.dV n x E) ∧ Below w.heap.size w w' := by
  by_cases hk : Dg.chkV n E [x] = 0
  · obtain ⟨h1, h2, h3⟩ := Dg.chkV_zero hk
    obtain ⟨m, es, rfl, hm, rfl, hl, hE⟩ := Dg.few_ok hf h1
    obtain ⟨s, rfl⟩ := Int.eq_ofNat_of_zero_le h2
    rw [Dg.dV_ok m es s hk, hk]
    exact dDist_ok m es s v w hE (by omega) (by omega) (by omega) hv
  · rw [Dg.dV_bad hk]
    exact (dDist_bad n x E v w hk hv).mono fun e w' ⟨h1, h2⟩ => ⟨_, h1, SeesI.nil _, h2⟩
end Go.Proofs.Ytkjhockppkdakaa
