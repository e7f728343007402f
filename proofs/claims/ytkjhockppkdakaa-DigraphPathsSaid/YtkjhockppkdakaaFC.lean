/- Path and Reverse of the reference; the same of the program, all errors included. -/
import Derived.Test.YtkjhockppkdakaaFB

import Derived.Test.YtkjhockppkdakaaDV
namespace Dg
def kV (n x y : Int) (E : List (Int × Int)) : Int := if chkV n E [x, y] ≠ 0 then chkV n E [x, y] else if dt n.toNat (nE E) y.toNat x.toNat = -1 then 6 else 0
def pV (n x y : Int) (E : List (Int × Int)) : List Int := if kV n x y E = 0 then ci (pth n.toNat (nE E) y.toNat x.toNat (dt n.toNat (nE E) y.toNat x.toNat).toNat) else []
theorem chkV2_cases {n x y : Int} {E : List (Int × Int)} (h : chkV n E [x, y] = 0) : ∃ (m s t : Nat) (es : List (Nat × Nat)), n = m ∧ x = s ∧ y = t ∧ E = cst es ∧ m ≤ 256 ∧ es.length ≤ 4096 ∧ s < m ∧ t < m ∧ Ok m es := by
  unfold chkV at h
  split at h
  · next hc =>
    split at h
    · next hv =>
      simp [vtx] at hv
      obtain ⟨m, es, rfl, hm, rfl, hl, hl2, hO⟩ := chk_zero hc
      obtain ⟨s, rfl⟩ := Int.eq_ofNat_of_zero_le hv.1.1
      obtain ⟨t, rfl⟩ := Int.eq_ofNat_of_zero_le hv.2.1
      exact ⟨m, s, t, es, rfl, rfl, rfl, rfl, hm, hl2, by omega, by omega, hO⟩
    · cases h
  · next hc => exact absurd h hc
theorem chkV2 (n x y : Int) (E : List (Int × Int)) : chkV n E [x, y] = if chkV n E [x] ≠ 0 then chkV n E [x] else if vtx n y then 0 else 2 := by
  unfold chkV
  by_cases hc : chk n E = 0
  · simp only [hc, if_true, List.all_cons, List.all_nil, Bool.and_true]
    cases vtx n x <;> cases vtx n y <;> simp
  · simp [hc]
end Dg
namespace Go.Proofs.Ytkjhockppkdakaa
open Go.RowKit Go.Shelf

/-- Path of the program, for few graphs. -/
theorem dPath_few (n x y : Int) (E : List (Int × Int)) (v : Value) (w : World) (hf : Dg.few n E = true) (hv : SeesE w v E) :
    Calls Try.prog 20 #[.agg #[.int .i64 n, v], .int .i64 x, .int .i64 y] w fun e w' => ∃ u, e = .returned (.tuple #[u, .int .i64 (Dg.kV n x y E)]) ∧ SeesI w' u (Dg.pV n x y E) ∧ Below w.heap.size w w' := by
  by_cases hk : Dg.chkV n E [x, y] = 0
  · obtain ⟨m, s, t, es, rfl, rfl, rfl, rfl, hm, hl, hs, ht, hE⟩ := Dg.chkV2_cases hk
    have hfw : m ≤ 8 ∧ es.length ≤ 16 := by
      unfold Dg.few at hf
      simp only [decide_eq_true_eq, Dg.cst_len] at hf
      omega
    rcases Dg.dist_cases m (Dg.rv es) t s with hD | ⟨k, -, hD⟩
    · have h1 : Dg.kV m s t (Dg.cst es) = 6 := by
        unfold Dg.kV; rw [if_neg (by simp [hk]), Dg.nE_cst, if_pos (by simpa [Dg.dt] using hD)]
      have h2 : Dg.pV m s t (Dg.cst es) = [] := by unfold Dg.pV; rw [h1]; rfl
      rw [h1, h2]
      exact (dPath_none m es s t v w hE hs ht (by omega) (by omega) hD hv).mono fun e w' ⟨h1, h2⟩ => ⟨_, h1, SeesI.nil _, h2⟩
    · have h1 : Dg.kV m s t (Dg.cst es) = 0 := by
        unfold Dg.kV
        rw [if_neg (by simp [hk]), Dg.nE_cst, if_neg]
        intro h
        have h' : Dg.dist m (Dg.rv es) t s = -1 := by simpa [Dg.dt] using h
        omega
      have h2 : Dg.pV m s t (Dg.cst es) = Dg.ci (Dg.pth m es t s k) := by
        unfold Dg.pV
        rw [if_pos h1, Dg.nE_cst]
        simp only [Int.toNat_natCast]
        rw [show Dg.dt m es t s = (k : Int) from hD, Int.toNat_natCast]
      rw [h1, h2]
      exact dPath_ok m es s t k v w hE hs ht (by omega) (by omega) hD hv
  · have h1 : Dg.kV n x y E = Dg.chkV n E [x, y] := if_pos hk
    have h2 : Dg.pV n x y E = [] := by unfold Dg.pV; rw [h1, if_neg hk]
    rw [h1, h2]
    exact (dPath_bad n x y E v w hk hv).mono fun e w' ⟨h1, h2⟩ => ⟨_, h1, SeesI.nil _, h2⟩

set_option maxHeartbeats 4000000 in
set_option maxRecDepth 100000 in
theorem rPath_any (n x y : Int) (E : List (Int × Int)) (v : Value) (w : World) (hv : SeesE w v E) :
    Calls Try.prog 21 #[.agg #[.int .i64 n, v], .int .i64 x, .int .i64 y] w fun e w' => ∃ u, e = .returned (.tuple #[u, .int .i64 (Dg.kV n x y E)]) ∧ SeesI w' u (Dg.pV n x y E) ∧ Below w.heap.size w w' := by
  have CG := fun W h => Lib.hid (rGiv_any n x v E W h)
  have HV := Lib.hid hv
  have h22 := Dg.chkV2 n x y E
  by_cases hk1 : Dg.chkV n E [x] = 0
  · rw [if_neg (by simp [hk1])] at h22
    rw [hk1] at CG
    cases hvy : Dg.vtx n y
    · rw [hvy] at h22
      have hk2 : Dg.chkV n E [x, y] = 2 := by rw [h22]; rfl
      have h1 : Dg.kV n x y E = 2 := by unfold Dg.kV; rw [hk2]; rfl
      have h2 : Dg.pV n x y E = [] := by unfold Dg.pV; rw [h1]; rfl
      rw [h1, h2]
      obtain ⟨ao, cap, rfl⟩ := hv.slice
      have CV := fun W => Lib.hid (rIsV_any n y ao E.length cap W)
      rw [hvy] at CV
      obtain ⟨P0, L0, z0⟩ := gph_new w n (.slice ao E.length cap) 24
      generalize hX : w.alloc (.cells #[.int .i64 n, .slice ao E.length cap] 24) = X at *
      obtain ⟨p0, p1, p2⟩ := id P0
      have HL := Lib.hid L0
      clear hv L0 z0 h22 hk2 h1 h2 hk1 hvy
      go_enter Try.func21, Try.ntmps21
      go_wp2_with fail
      refine ((CG _ (HV.out.step HL.out)).out).mono ?_
      rintro e w1 ⟨rfl, hb⟩
      have HB1 := Lib.hid (below_nxt HL.out hb)
      obtain ⟨p0', q1, q2⟩ := P0.step hb
      clear hb p1 p2 p0 P0
      go_wp2_with fail
      refine ((CV _).out).mono ?_
      rintro e w2 ⟨rfl, hb⟩
      have HB2 := Lib.hid (below_nxt HB1.out hb)
      clear hb
      go_wp2
      exact bodyPost_ret (v := .tuple #[.slice none 0 0, .int .i64 2]) (by simp [results, Try.results21, go_sem]) rfl ⟨_, rfl, SeesI.nil _, HB2.out⟩
    · rw [hvy] at h22
      have hk2 : Dg.chkV n E [x, y] = 0 := by rw [h22]; rfl
      obtain ⟨m, s, t, es, rfl, rfl, rfl, rfl, hm, hl, hs, ht, hE⟩ := Dg.chkV2_cases hk2
      have CF := fun W h => Lib.hid (rFar_any m es s v W hE hs hm hl h)
      have CW := fun k (hk : Dg.dt m es t s = (k : Nat)) W h => Lib.hid (rWay_ok m es s t k v W hE hs ht hm hl hk h)
      obtain ⟨ao, cap, rfl⟩ := hv.slice
      have CV := fun W => Lib.hid (rIsV_any (m : Int) (t : Int) ao (Dg.cst es).length cap W)
      rw [hvy] at CV
      have HDT := Lib.hid (Dg.dist_dt m es s t)
      have hkv : Dg.kV m s t (Dg.cst es) = if Dg.dt m es t s = -1 then 6 else 0 := by
        unfold Dg.kV
        rw [if_neg (by simp [hk2]), Dg.nE_cst]
        simp only [Int.toNat_natCast]
      have hpv : ∀ k : Nat, Dg.dt m es t s = k → Dg.kV m s t (Dg.cst es) = 0 → Dg.pV m s t (Dg.cst es) = Dg.ci (Dg.pth m es t s k) := fun k hk h => by
        unfold Dg.pV
        rw [if_pos h, Dg.nE_cst]
        simp only [Int.toNat_natCast]
        rw [hk, Int.toNat_natCast]
      have hpn : Dg.kV m s t (Dg.cst es) = 6 → Dg.pV m s t (Dg.cst es) = [] := fun h => by unfold Dg.pV; rw [h]; rfl
      rcases Dg.dist_cases m (Dg.rv es) t s with hD | ⟨k, -, hD⟩
      · rw [if_pos (show Dg.dt m es t s = -1 from hD)] at hkv
        rw [hkv, hpn hkv]
        clear hkv hpv hpn CW
        obtain ⟨P0, L0, z0⟩ := gph_new w m (.slice ao (Dg.cst es).length cap) 24
        generalize hX : w.alloc (.cells #[.int .i64 m, .slice ao (Dg.cst es).length cap] 24) = X at *
        obtain ⟨p0, p1, p2⟩ := id P0
        have HL := Lib.hid L0
        clear hv L0 z0 h22 hk2 hk1 hvy
        go_enter Try.func21, Try.ntmps21
        go_wp2_with fail
        refine ((CG _ (HV.out.step HL.out)).out).mono ?_
        rintro e w1 ⟨rfl, hb⟩
        have HB1 := Lib.hid (below_nxt HL.out hb)
        have P1 := P0.step hb
        obtain ⟨p0', q1, q2⟩ := id P1
        clear hb p1 p2 p0 P0 CG
        go_wp2_with fail
        refine ((CV _).out).mono ?_
        rintro e w2 ⟨rfl, hb⟩
        have HB2 := Lib.hid (below_nxt HB1.out hb)
        have P2 := P1.step hb
        obtain ⟨p0'', r1, r2⟩ := id P2
        clear hb q1 q2 P1 CV
        go_wp2_with fail
        refine ((CF _ (HV.out.step HB2.out)).out).mono ?_
        rintro e w3 ⟨uf, rfl, hs3, hb⟩
        have HB3 := Lib.hid (below_nxt HB2.out hb)
        obtain ⟨p0''', t1, t2⟩ := P2.step hb
        obtain ⟨af, cf, rfl, hcf1, hcf2, hCf⟩ := hs3.opened
        obtain ⟨bf, of, rfl, hbf, df⟩ := hCf.at (Below.refl _ _) (i := t) (by rw [Dg.distL_len]; exact ht)
        rw [Dg.distL_at ht, HDT.out] at df
        simp only [Dg.distL_len] at hcf1 ⊢
        clear hb hs3 r1 r2 P2 CF hCf
        rw [show Dg.dt m es t s = -1 from hD] at df
        clear hD
        go_wp2
        exact bodyPost_ret (v := .tuple #[.slice none 0 0, .int .i64 6]) (by simp [results, Try.results21, go_sem]) rfl ⟨_, rfl, SeesI.nil _, HB3.out⟩
      · have CWk := CW k hD
        rw [if_neg (show ¬ Dg.dt m es t s = -1 from fun h => by have h2 : Dg.dt m es t s = (k : Int) := hD; omega)] at hkv
        rw [hkv, hpv k hD hkv]
        clear hkv hpv hpn CW
        obtain ⟨P0, L0, z0⟩ := gph_new w m (.slice ao (Dg.cst es).length cap) 24
        generalize hX : w.alloc (.cells #[.int .i64 m, .slice ao (Dg.cst es).length cap] 24) = X at *
        obtain ⟨p0, p1, p2⟩ := id P0
        have HL := Lib.hid L0
        clear hv L0 z0 h22 hk2 hk1 hvy
        go_enter Try.func21, Try.ntmps21
        go_wp2_with fail
        refine ((CG _ (HV.out.step HL.out)).out).mono ?_
        rintro e w1 ⟨rfl, hb⟩
        have HB1 := Lib.hid (below_nxt HL.out hb)
        have P1 := P0.step hb
        obtain ⟨p0', q1, q2⟩ := id P1
        clear hb p1 p2 p0 P0 CG
        go_wp2_with fail
        refine ((CV _).out).mono ?_
        rintro e w2 ⟨rfl, hb⟩
        have HB2 := Lib.hid (below_nxt HB1.out hb)
        have P2 := P1.step hb
        obtain ⟨p0'', r1, r2⟩ := id P2
        clear hb q1 q2 P1 CV
        go_wp2_with fail
        refine ((CF _ (HV.out.step HB2.out)).out).mono ?_
        rintro e w3 ⟨uf, rfl, hs3, hb⟩
        have HB3 := Lib.hid (below_nxt HB2.out hb)
        obtain ⟨p0''', t1, t2⟩ := P2.step hb
        obtain ⟨af, cf, rfl, hcf1, hcf2, hCf⟩ := hs3.opened
        obtain ⟨bf, of, rfl, hbf, df⟩ := hCf.at (Below.refl _ _) (i := t) (by rw [Dg.distL_len]; exact ht)
        rw [Dg.distL_at ht, HDT.out] at df
        simp only [Dg.distL_len] at hcf1 ⊢
        clear hb hs3 r1 r2 P2 CF hCf
        rw [show Dg.dt m es t s = (k : Int) from hD] at df
        have hk0 : ¬ ((k : Int) < 0) := by omega
        clear hD
        go_wp2_with fail
        refine ((CWk _ (HV.out.step HB3.out)).out).mono ?_
        rintro e w4 ⟨uw, rfl, hs4, hb⟩
        have HB4 := Lib.hid (below_nxt HB3.out hb)
        have HS4 := Lib.hid hs4
        clear hb hs4
        go_wp2
        exact bodyPost_ret (v := .tuple #[uw, .int .i64 0]) (by simp [results, Try.results21, go_sem]) rfl ⟨_, rfl, HS4.out, HB4.out⟩
  · have h1 : Dg.kV n x y E = Dg.chkV n E [x] := by
      rw [if_pos hk1] at h22
      unfold Dg.kV; rw [h22, if_pos hk1]
    have h2 : Dg.pV n x y E = [] := by unfold Dg.pV; rw [h1, if_neg hk1]
    rw [h1, h2]
    have hne : (Dg.chkV n E [x] != 0) = true := by simp [hk1]
    clear h1 h2 h22
    generalize Dg.chkV n E [x] = k at *
    obtain ⟨ao, cap, rfl⟩ := hv.slice
    obtain ⟨P0, L0, z0⟩ := gph_new w n (.slice ao E.length cap) 24
    generalize hX : w.alloc (.cells #[.int .i64 n, .slice ao E.length cap] 24) = X at *
    obtain ⟨p0, p1, p2⟩ := id P0
    have HL := Lib.hid L0
    clear hv L0 hk1 z0
    go_enter Try.func21, Try.ntmps21
    go_wp2_with fail
    refine ((CG _ (HV.out.step HL.out)).out).mono ?_
    rintro e w1 ⟨rfl, hb⟩
    have HB1 := Lib.hid (below_nxt HL.out hb)
    clear hb
    go_wp2
    exact bodyPost_ret (v := .tuple #[.slice none 0 0, .int .i64 k]) (by simp [results, Try.results21, go_sem]) rfl ⟨_, rfl, SeesI.nil _, HB1.out⟩
end Go.Proofs.Ytkjhockppkdakaa
