/- Components and Condense of program and reference, all errors included. -/
import Derived.Test.YtkjhockppkdakaaFH
import Derived.Test.YtkjhockppkdakaaDJ
namespace Dg
def psV (n : Int) (E : List (Int × Int)) : List (List Int) := if chk n E = 0 then pL n.toNat (nE E) n.toNat else []
def cnV (n : Int) (E : List (Int × Int)) : Int := if chk n E = 0 then (cnt (isL n.toNat (nE E)) n.toNat : Nat) else 0
def ceV (n : Int) (E : List (Int × Int)) : List (Int × Int) := if chk n E = 0 then cst (ces n.toNat (nE E)) else []
def atV (n : Int) (E : List (Int × Int)) : List Int := if chk n E = 0 then ci (nums n.toNat (nE E) n.toNat) else []
theorem psV_ok (m : Nat) (es : List (Nat × Nat)) (h : chk m (cst es) = 0) : psV m (cst es) = pL m es m := by unfold psV; rw [if_pos h, nE_cst]; rfl
theorem cnV_ok (m : Nat) (es : List (Nat × Nat)) (h : chk m (cst es) = 0) : cnV m (cst es) = (cnt (isL m es) m : Nat) := by unfold cnV; rw [if_pos h, nE_cst]; rfl
theorem ceV_ok (m : Nat) (es : List (Nat × Nat)) (h : chk m (cst es) = 0) : ceV m (cst es) = cst (ces m es) := by unfold ceV; rw [if_pos h, nE_cst]; rfl
theorem atV_ok (m : Nat) (es : List (Nat × Nat)) (h : chk m (cst es) = 0) : atV m (cst es) = ci (nums m es m) := by unfold atV; rw [if_pos h, nE_cst]; rfl
theorem psV_bad {n : Int} {E : List (Int × Int)} (h : chk n E ≠ 0) : psV n E = [] := if_neg h
theorem cnV_bad {n : Int} {E : List (Int × Int)} (h : chk n E ≠ 0) : cnV n E = 0 := if_neg h
theorem ceV_bad {n : Int} {E : List (Int × Int)} (h : chk n E ≠ 0) : ceV n E = [] := if_neg h
theorem atV_bad {n : Int} {E : List (Int × Int)} (h : chk n E ≠ 0) : atV n E = [] := if_neg h
end Dg
namespace Go.Proofs.Ytkjhockppkdakaa
open Go.RowKit Go.Shelf

theorem SeesE.nil0 (w : World) : SeesE w (.slice none 0 0) [] := ⟨none, 0, rfl, Nat.le_refl _, by omega, fun h => by simp at h⟩
theorem dCompo_few (n : Int) (E : List (Int × Int)) (v : Value) (w : World) (hf : Dg.few n E = true) (hv : SeesE w v E) :
    Calls Try.prog 31 #[.agg #[.int .i64 n, v]] w fun e w' => ∃ u, e = .returned (.tuple #[u, .int .i64 (Dg.chk n E)]) ∧ SeesN w' u (Dg.psV n E) ∧ Below w.heap.size w w' := by
  by_cases hk : Dg.chk n E = 0
  · obtain ⟨m, es, rfl, hm, rfl, hl, hE⟩ := Dg.few_ok hf hk
    rw [Dg.psV_ok m es hk, hk]
    exact dCompo_ok m es v w hE (by omega) (by omega) hv
  · rw [Dg.psV_bad hk]
    exact (dCompo_bad n E v w hk hv).mono fun e w' ⟨h1, h2⟩ => ⟨_, h1, .inl ⟨rfl, rfl⟩, h2⟩
theorem dCond_few (n : Int) (E : List (Int × Int)) (v : Value) (w : World) (hf : Dg.few n E = true) (hv : SeesE w v E) :
    Calls Try.prog 33 #[.agg #[.int .i64 n, v]] w fun e w' => ∃ u t, e = .returned (.tuple #[.agg #[.int .i64 (Dg.cnV n E), u], t, .int .i64 (Dg.chk n E)]) ∧ SeesE w' u (Dg.ceV n E) ∧ SeesI w' t (Dg.atV n E) ∧ Below w.heap.size w w' := by
  by_cases hk : Dg.chk n E = 0
  · obtain ⟨m, es, rfl, hm, rfl, hl, hE⟩ := Dg.few_ok hf hk
    rw [Dg.cnV_ok m es hk, Dg.ceV_ok m es hk, Dg.atV_ok m es hk, hk]
    exact dCond_ok m es v w hE (by omega) (by omega) hv
  · rw [Dg.cnV_bad hk, Dg.ceV_bad hk, Dg.atV_bad hk]
    exact (dCond_bad n E v w hk hv).mono fun e w' ⟨h1, h2⟩ => ⟨_, _, h1, SeesE.nil0 _, SeesI.nil _, h2⟩

set_option maxHeartbeats 4000000 in
set_option maxRecDepth 100000 in
theorem rCompo_any (n : Int) (E : List (Int × Int)) (v : Value) (w : World) (hv : SeesE w v E) :
    Calls Try.prog 32 #[.agg #[.int .i64 n, v]] w fun e w' => ∃ u, e = .returned (.tuple #[u, .int .i64 (Dg.chk n E)]) ∧ SeesN w' u (Dg.psV n E) ∧ Below w.heap.size w w' := by
  have CK := fun W h => Lib.hid (rChk_any n v E W h)
  have HV := Lib.hid hv
  by_cases hk : Dg.chk n E = 0
  · obtain ⟨m, es, rfl, hm, rfl, _, hl, hE⟩ := Dg.chk_zero hk
    rw [Dg.psV_ok m es hk]
    rw [hk] at CK ⊢
    have CP := fun W h => Lib.hid (rParts_ok m es v W hE hm hl h)
    obtain ⟨ao, cap, rfl⟩ := hv.slice
    obtain ⟨P0, L0, z0⟩ := gph_new w m (.slice ao (Dg.cst es).length cap) 24
    generalize hX : w.alloc (.cells #[.int .i64 m, .slice ao (Dg.cst es).length cap] 24) = X at *
    obtain ⟨p0, p1, p2⟩ := id P0
    have HL := Lib.hid L0
    clear hv L0 z0 hk
    go_enter Try.func32, Try.ntmps32
    go_wp2_with fail
    refine ((CK _ (HV.out.step HL.out)).out).mono ?_
    rintro e w1 ⟨rfl, hb⟩
    have HB1 := Lib.hid (below_nxt HL.out hb)
    obtain ⟨p0', q1, q2⟩ := P0.step hb
    clear hb p1 p2 p0 P0
    go_wp2_with fail
    refine ((CP _ (HV.out.step HB1.out)).out).mono ?_
    rintro e w2 ⟨u, rfl, hs2, hb⟩
    have HB2 := Lib.hid (below_nxt HB1.out hb)
    have HS := Lib.hid hs2
    clear hb hs2
    go_wp2
    exact bodyPost_ret (v := .tuple #[u, .int .i64 0]) (by simp [results, Try.results32, go_sem]) rfl ⟨_, rfl, HS.out, HB2.out⟩
  · have hne : (Dg.chk n E != 0) = true := by simp [hk]
    rw [Dg.psV_bad hk]
    generalize Dg.chk n E = k at *
    obtain ⟨ao, cap, rfl⟩ := hv.slice
    obtain ⟨P0, L0, z0⟩ := gph_new w n (.slice ao E.length cap) 24
    generalize hX : w.alloc (.cells #[.int .i64 n, .slice ao E.length cap] 24) = X at *
    obtain ⟨p0, p1, p2⟩ := id P0
    have HL := Lib.hid L0
    clear hv L0 hk z0
    go_enter Try.func32, Try.ntmps32
    go_wp2_with fail
    refine ((CK _ (HV.out.step HL.out)).out).mono ?_
    rintro e w1 ⟨rfl, hb⟩
    have HB1 := Lib.hid (below_nxt HL.out hb)
    clear hb
    go_wp2
    exact bodyPost_ret (v := .tuple #[.slice none 0 0, .int .i64 k]) (by simp [results, Try.results32, go_sem]) rfl ⟨_, rfl, .inl ⟨rfl, rfl⟩, HB1.out⟩

set_option maxHeartbeats 4000000 in
set_option maxRecDepth 100000 in
theorem rCond_any (n : Int) (E : List (Int × Int)) (v : Value) (w : World) (hv : SeesE w v E) :
    Calls Try.prog 34 #[.agg #[.int .i64 n, v]] w fun e w' => ∃ u t, e = .returned (.tuple #[.agg #[.int .i64 (Dg.cnV n E), u], t, .int .i64 (Dg.chk n E)]) ∧ SeesE w' u (Dg.ceV n E) ∧ SeesI w' t (Dg.atV n E) ∧ Below w.heap.size w w' := by
  by_cases hk : Dg.chk n E = 0
  · obtain ⟨m, es, rfl, hm, rfl, _, hl, hE⟩ := Dg.chk_zero hk
    rw [Dg.cnV_ok m es hk, Dg.ceV_ok m es hk, Dg.atV_ok m es hk, hk]
    exact rCond_ok m es v w hE hm hl hv
  · have CK := fun W h => Lib.hid (rChk_any n v E W h)
    have HV := Lib.hid hv
    rw [Dg.cnV_bad hk, Dg.ceV_bad hk, Dg.atV_bad hk]
    have hne : (Dg.chk n E != 0) = true := by simp [hk]
    generalize Dg.chk n E = k at *
    obtain ⟨ao, cap, rfl⟩ := hv.slice
    obtain ⟨P0, L0, z0⟩ := gph_new w n (.slice ao E.length cap) 24
    have R0 := gphW_new (w.alloc (.cells #[.int .i64 n, .slice ao E.length cap] 24)) 0 (.slice none 0 0) 24
    rw [z0] at R0
    have BX := fun (W : World) (o : Obj) => (Below.refl W.heap.size W).alloc (Nat.le_refl _) o
    have P1 := P0.step (BX _ (.cells #[.int .i64 0, .slice none 0 0] 24))
    have L1 := below_nxt L0 (BX _ (.cells #[.int .i64 0, .slice none 0 0] 24))
    generalize hX : (w.alloc (.cells #[.int .i64 n, .slice ao E.length cap] 24)).alloc (.cells #[.int .i64 0, .slice none 0 0] 24) = X at *
    obtain ⟨-, p1, p2⟩ := id P1
    have HL := Lib.hid L1
    have HR0 := Lib.hid R0
    clear hv L0 z0 L1 P0 R0 hk
    go_enter Try.func34, Try.ntmps34
    go_wp2_with fail
    refine ((CK _ (HV.out.step HL.out)).out).mono ?_
    rintro e w1 ⟨rfl, hb⟩
    have HB1 := Lib.hid (below_nxt HL.out hb)
    have R1 := HR0.out.step hb
    have HR1 := Lib.hid R1
    obtain ⟨r0, r1, r2, r3, r4⟩ := R1
    clear hb p1 p2 hX HR0
    go_wp2
    obtain ⟨-, e0, e1, -, -⟩ := (HR1.out.put0 0).put (.slice none 0 0)
    have HBE := Lib.hid ((HB1.out.setCell (p := ⟨w.heap.size + 1, 0, none⟩) (by simp) (.int .i64 0)).setCell (p := ⟨w.heap.size + 1, 1, none⟩) (by simp) (.slice none 0 0))
    exact bodyPost_ret (v := .tuple #[.agg #[.int .i64 0, .slice none 0 0], .slice none 0 0, .int .i64 k]) (by simp [results, Try.results34, go_sem, e0, e1]) rfl ⟨_, _, rfl, SeesE.nil0 _, SeesI.nil _, HBE.out⟩
end Go.Proofs.Ytkjhockppkdakaa
