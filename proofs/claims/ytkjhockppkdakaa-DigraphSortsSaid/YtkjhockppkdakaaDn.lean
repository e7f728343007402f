/- Distances, Path, Cycle of package digraph. -/
import Derived.Test.YtkjhockppkdakaaDm
namespace Dg
theorem chkV_nat {n s : Nat} {es : List (Nat × Nat)} (hn : n ≤ 256) (he : es.length ≤ 4096) (hE : Ok n es) (hs : s < n) : chkV n (cst es) [(s : Int)] = 0 :=
  chkV_ok (ok_chk hn he hE) fun j hj => by
    obtain rfl : j = 0 := by simp at hj; omega
    exact vtx_nat.2 hs
theorem chkV_nat2 {n s t : Nat} {es : List (Nat × Nat)} (hn : n ≤ 256) (he : es.length ≤ 4096) (hE : Ok n es) (hs : s < n) (ht : t < n) : chkV n (cst es) [(s : Int), (t : Int)] = 0 :=
  chkV_ok (ok_chk hn he hE) fun j hj => by
    rcases (show j = 0 ∨ j = 1 by simp at hj; omega) with rfl | rfl
    · exact vtx_nat.2 hs
    · exact vtx_nat.2 ht
end Dg
namespace Go.Proofs.Ytkjhockppkdakaa
open Go.RowKit Go.Shelf

theorem SeesE.slice {w : World} {v : Value} {E : List (Int × Int)} (h : SeesE w v E) : ∃ ao cap, v = .slice ao E.length cap := by
  obtain ⟨ao, cap, rfl, _⟩ := h; exact ⟨ao, cap, rfl⟩
theorem SeesI.two (w : World) (x y : Int) (T : TypeId) : SeesI (w.alloc (.cells #[.int .i64 x, .int .i64 y] T)) (.slice (some ⟨w.heap.size, 0, none⟩) 2 2) [x, y] :=
  .inr ⟨w.heap.size, 0, 2, rfl, Nat.le_refl _, by unfold maxLen; omega, by simp, fun i hi => by
    rcases (show i = 0 ∨ i = 1 by simp at hi; omega) with rfl | rfl <;> simp⟩

set_option maxHeartbeats 4000000 in
set_option maxRecDepth 100000 in
theorem dDist_ok (n : Nat) (es : List (Nat × Nat)) (s : Nat) (v : Value) (w : World) (hE : Dg.Ok n es) (hs : s < n) (hn : n ≤ 16) (he : es.length ≤ 64) (hv : SeesE w v (Dg.cst es)) :
    Calls Try.prog 15 #[.agg #[.int .i64 n, v], .int .i64 s] w fun e w' => ∃ u, e = .returned (.tuple #[u, .int .i64 0]) ∧ SeesI w' u (Dg.distL n es s) ∧ Below w.heap.size w w' := by
  have CK := fun lv W h1 h2 => Lib.hid (dChkV_any n v lv (Dg.cst es) [(s : Int)] W h1 h2)
  rw [Dg.chkV_nat (by omega) (by omega) hE hs] at CK
  have CN := fun W h => Lib.hid (dNb_any n v es W (by omega) (by omega) hE h)
  have CD := fun nv W h => Lib.hid (dDists_any n es s nv W hE hs hn he h)
  have HV := Lib.hid hv
  obtain ⟨ao, cap, rfl⟩ := hv.slice
  obtain ⟨P0, L0, z0⟩ := gph_new w n (.slice ao (Dg.cst es).length cap) 24
  generalize hX : w.alloc (.cells #[.int .i64 n, .slice ao (Dg.cst es).length cap] 24) = X at *
  obtain ⟨p0, p1, p2⟩ := id P0
  have HL := Lib.hid L0
  have BX := fun (W : World) (o : Obj) => (Below.refl W.heap.size W).alloc (Nat.le_refl _) o
  clear hv L0 hE z0
  go_enter Try.func15, Try.ntmps15
  go_wp2_with fail
  refine ((CK _ _ ((HV.out.step HL.out).step (BX _ _)) (SeesI.one _ _ _)).out).mono ?_
  rintro e w1 ⟨rfl, hb⟩
  have HB1 := Lib.hid (below_box HL.out hb)
  obtain ⟨p0', q1, q2⟩ := (P0.step (BX _ _)).step hb
  clear hb p1 p2
  go_wp2_with fail
  refine ((CN _ (HV.out.step HB1.out)).out).mono ?_
  rintro e w2 ⟨nv, rfl, hs2, hb⟩
  have HB2 := Lib.hid (below_nxt HB1.out hb)
  have HS2 := Lib.hid hs2
  clear hb hs2 q1 q2
  go_wp2_with fail
  refine ((CD _ _ HS2.out).out).mono ?_
  rintro e w3 ⟨u, rfl, hs3, hb⟩
  have HB3 := Lib.hid (below_nxt HB2.out hb)
  have HS3 := Lib.hid hs3
  clear hb hs3
  go_wp2
  exact bodyPost_ret (v := .tuple #[u, .int .i64 0]) (by simp [results, Try.results15, go_sem]) rfl ⟨u, rfl, HS3.out, HB3.out⟩

set_option maxHeartbeats 4000000 in
set_option maxRecDepth 100000 in
theorem dDist_bad (n x : Int) (E : List (Int × Int)) (v : Value) (w : World) (hk : Dg.chkV n E [x] ≠ 0) (hv : SeesE w v E) :
    Calls Try.prog 15 #[.agg #[.int .i64 n, v], .int .i64 x] w fun e w' => e = .returned (.tuple #[.slice none 0 0, .int .i64 (Dg.chkV n E [x])]) ∧ Below w.heap.size w w' := by
  have CK := fun lv W h1 h2 => Lib.hid (dChkV_any n v lv E [x] W h1 h2)
  have hne : (Dg.chkV n E [x] != 0) = true := by simp [hk]
  generalize Dg.chkV n E [x] = k at *
  have HV := Lib.hid hv
  obtain ⟨ao, cap, rfl⟩ := hv.slice
  obtain ⟨P0, L0, z0⟩ := gph_new w n (.slice ao E.length cap) 24
  generalize hX : w.alloc (.cells #[.int .i64 n, .slice ao E.length cap] 24) = X at *
  obtain ⟨p0, p1, p2⟩ := id P0
  have HL := Lib.hid L0
  have BX := fun (W : World) (o : Obj) => (Below.refl W.heap.size W).alloc (Nat.le_refl _) o
  clear hv L0 hk z0
  go_enter Try.func15, Try.ntmps15
  go_wp2_with fail
  refine ((CK _ _ ((HV.out.step HL.out).step (BX _ _)) (SeesI.one _ _ _)).out).mono ?_
  rintro e w1 ⟨rfl, hb⟩
  have HB1 := Lib.hid (below_box HL.out hb)
  clear hb
  go_wp2
  exact bodyPost_ret (v := .tuple #[.slice none 0 0, .int .i64 k]) (by simp [results, Try.results15, go_sem]) rfl ⟨rfl, HB1.out⟩

set_option maxHeartbeats 4000000 in
set_option maxRecDepth 100000 in
theorem dPath_ok (n : Nat) (es : List (Nat × Nat)) (s t k : Nat) (v : Value) (w : World) (hE : Dg.Ok n es) (hs : s < n) (ht : t < n) (hn : n ≤ 16) (he : es.length ≤ 64) (hk : Dg.dt n es t s = k) (hv : SeesE w v (Dg.cst es)) :
    Calls Try.prog 20 #[.agg #[.int .i64 n, v], .int .i64 s, .int .i64 t] w fun e w' => ∃ u, e = .returned (.tuple #[u, .int .i64 0]) ∧ SeesI w' u (Dg.ci (Dg.pth n es t s k)) ∧ Below w.heap.size w w' := by
  have CK := fun lv W h1 h2 => Lib.hid (dChkV_any n v lv (Dg.cst es) [(s : Int), (t : Int)] W h1 h2)
  rw [Dg.chkV_nat2 (by omega) (by omega) hE hs ht] at CK
  have CR := fun W h => Lib.hid (dRev_any n v (Dg.cst es) W (by rw [Dg.cst_len]; omega) h)
  rw [Dg.swp_cst] at CR
  have CN := fun W h => Lib.hid (dNb_any n v es W (by omega) (by omega) hE h)
  have CNr := fun rv W h => Lib.hid (dNb_any n rv (Dg.rv es) W (by omega) (by rw [Dg.rv_len]; omega) (Dg.rv_ok hE) h)
  have CD := fun nv W h => Lib.hid (dDists_any n (Dg.rv es) t nv W (Dg.rv_ok hE) ht hn (by rw [Dg.rv_len]; omega) h)
  have CDe := fun nv lv W h1 h2 => Lib.hid (dDesc_any n es t s k nv lv W hE ht (by omega) hs hk h1 h2)
  have hds : (Dg.distL n (Dg.rv es) t).getD s 0 = (k : Int) := by rw [Dg.distL_at hs]; exact hk
  have HDL := Lib.hid (Dg.distL_len (n := n) (es := Dg.rv es) (s := t))
  have HV := Lib.hid hv
  obtain ⟨ao, cap, rfl⟩ := hv.slice
  obtain ⟨P0, L0, z0⟩ := gph_new w n (.slice ao (Dg.cst es).length cap) 24
  generalize hX : w.alloc (.cells #[.int .i64 n, .slice ao (Dg.cst es).length cap] 24) = X at *
  obtain ⟨p0, p1, p2⟩ := id P0
  have HL := Lib.hid L0
  have BX := fun (W : World) (o : Obj) => (Below.refl W.heap.size W).alloc (Nat.le_refl _) o
  clear hv L0 hE hk z0
  go_enter Try.func20, Try.ntmps20
  go_wp2_with fail
  refine ((CK _ _ ((HV.out.step HL.out).step (BX _ _)) (SeesI.two _ _ _ _)).out).mono ?_
  rintro e w1 ⟨rfl, hb⟩
  have HB1 := Lib.hid (below_box HL.out hb)
  have P1 := (P0.step (BX _ _)).step hb
  obtain ⟨p0', q1, q2⟩ := id P1
  clear hb p1 p2
  go_wp2_with fail
  refine ((CR _ (HV.out.step HB1.out)).out).mono ?_
  rintro e w2 ⟨rv, rfl, hs2, hb⟩
  have HB2 := Lib.hid (below_nxt HB1.out hb)
  have P2 := P1.step hb
  have HS2 := Lib.hid hs2
  clear hb hs2 q1 q2
  go_wp2_with fail
  refine ((CNr _ _ HS2.out).out).mono ?_
  rintro e w3 ⟨nr, rfl, hs3, hb⟩
  have HB3 := Lib.hid (below_nxt HB2.out hb)
  have P3 := P2.step hb
  have HS3 := Lib.hid hs3
  clear hb hs3
  go_wp2_with fail
  refine ((CD _ _ HS3.out).out).mono ?_
  rintro e w4 ⟨lv, rfl, hs4, hb⟩
  have HB4 := Lib.hid (below_nxt HB3.out hb)
  have P4 := P3.step hb
  obtain ⟨p0'', r1, r2⟩ := id P4
  have HS4 := Lib.hid hs4
  obtain ⟨al, cl, rfl, hl1, hl2, hCl⟩ := hs4.opened
  obtain ⟨bl, ol, rfl, hbl, l1⟩ := hCl.at (Below.refl _ _) (i := s) (by rw [HDL.out]; exact hs)
  rw [hds] at l1
  rw [HDL.out] at *
  clear hb hs4 hCl
  go_wp2_with fail
  refine ((CN _ (HV.out.step HB4.out)).out).mono ?_
  rintro e w5 ⟨nv, rfl, hs5, hb⟩
  have HB5 := Lib.hid (below_nxt HB4.out hb)
  have HS5 := Lib.hid hs5
  have HS45 := Lib.hid (HS4.out.step hb)
  clear hb hs5 r1 r2 l1
  go_wp2_with fail
  refine ((CDe _ _ _ HS5.out HS45.out).out).mono ?_
  rintro e w6 ⟨u, rfl, hr6, hb⟩
  have HB6 := Lib.hid (below_nxt HB5.out hb)
  have HS6 := Lib.hid hr6.sees
  clear hb hr6
  go_wp2
  exact bodyPost_ret (v := .tuple #[u, .int .i64 0]) (by simp [results, Try.results20, go_sem]) rfl ⟨u, rfl, HS6.out, HB6.out⟩
end Go.Proofs.Ytkjhockppkdakaa
