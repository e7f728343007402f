/- Path where there is none. -/
import Derived.Test.YtkjhockppkdakaaDn
namespace Go.Proofs.Ytkjhockppkdakaa
open Go.RowKit Go.Shelf

set_option maxHeartbeats 4000000 in
set_option maxRecDepth 100000 in
theorem dPath_none (n : Nat) (es : List (Nat × Nat)) (s t : Nat) (v : Value) (w : World) (hE : Dg.Ok n es) (hs : s < n) (ht : t < n) (hn : n ≤ 16) (he : es.length ≤ 64) (hk : Dg.dt n es t s = -1) (hv : SeesE w v (Dg.cst es)) :
    Calls Try.prog 20 #[.agg #[.int .i64 n, v], .int .i64 s, .int .i64 t] w fun e w' => e = .returned (.tuple #[.slice none 0 0, .int .i64 6]) ∧ Below w.heap.size w w' := by
  have CK := fun lv W h1 h2 => Lib.hid (dChkV_any n v lv (Dg.cst es) [(s : Int), (t : Int)] W h1 h2)
  rw [Dg.chkV_nat2 (by omega) (by omega) hE hs ht] at CK
  have CR := fun W h => Lib.hid (dRev_any n v (Dg.cst es) W (by rw [Dg.cst_len]; omega) h)
  rw [Dg.swp_cst] at CR
  have CNr := fun rv W h => Lib.hid (dNb_any n rv (Dg.rv es) W (by omega) (by rw [Dg.rv_len]; omega) (Dg.rv_ok hE) h)
  have CD := fun nv W h => Lib.hid (dDists_any n (Dg.rv es) t nv W (Dg.rv_ok hE) ht hn (by rw [Dg.rv_len]; omega) h)
  have hds : (Dg.distL n (Dg.rv es) t).getD s 0 = -1 := by rw [Dg.distL_at hs]; exact hk
  have HDL := Lib.hid (Dg.distL_len (n := n) (es := Dg.rv es) (s := t))
  have HV := Lib.hid hv
  obtain ⟨ao, cap, rfl⟩ := hv.slice
  obtain ⟨P0, L0, z0⟩ := gph_new w n (.slice ao (Dg.cst es).length cap) 24
  generalize hX : w.alloc (.cells #[.int .i64 n, .slice ao (Dg.cst es).length cap] 24) = X at *
  obtain ⟨p0, p1, p2⟩ := id P0
  have HL := Lib.hid L0
  have BX := fun (W : World) (o : Obj) => (Below.refl W.heap.size W).alloc (Nat.le_refl _) o
  clear hv L0 hE hk z0
  go_enter Try.func20, Try.ntmps20
  go_wp2_with fail
  refine ((CK _ _ ((HV.out.step HL.out).step (BX _ _)) (SeesI.two _ _ _ _)).out).mono ?_
  rintro e w1 ⟨rfl, hb⟩
  have HB1 := Lib.hid (below_box HL.out hb)
  have P1 := (P0.step (BX _ _)).step hb
  obtain ⟨p0', q1, q2⟩ := id P1
  clear hb p1 p2
  go_wp2_with fail
  refine ((CR _ (HV.out.step HB1.out)).out).mono ?_
  rintro e w2 ⟨rv, rfl, hs2, hb⟩
  have HB2 := Lib.hid (below_nxt HB1.out hb)
  have P2 := P1.step hb
  have HS2 := Lib.hid hs2
  clear hb hs2 q1 q2
  go_wp2_with fail
  refine ((CNr _ _ HS2.out).out).mono ?_
  rintro e w3 ⟨nr, rfl, hs3, hb⟩
  have HB3 := Lib.hid (below_nxt HB2.out hb)
  have P3 := P2.step hb
  have HS3 := Lib.hid hs3
  clear hb hs3
  go_wp2_with fail
  refine ((CD _ _ HS3.out).out).mono ?_
  rintro e w4 ⟨lv, rfl, hs4, hb⟩
  have HB4 := Lib.hid (below_nxt HB3.out hb)
  have P4 := P3.step hb
  obtain ⟨p0'', r1, r2⟩ := id P4
  have HS4 := Lib.hid hs4
  obtain ⟨al, cl, rfl, hl1, hl2, hCl⟩ := hs4.opened
  obtain ⟨bl, ol, rfl, hbl, l1⟩ := hCl.at (Below.refl _ _) (i := s) (by rw [HDL.out]; exact hs)
  rw [hds] at l1
  rw [HDL.out] at *
  clear hb hs4 hCl
  go_wp2
  exact bodyPost_ret (v := .tuple #[.slice none 0 0, .int .i64 6]) (by simp [results, Try.results20, go_sem]) rfl ⟨rfl, HB4.out⟩
end Go.Proofs.Ytkjhockppkdakaa
