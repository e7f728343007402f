/- The texts of steps, of package stroke. -/
import Derived.Test.YtecfbncfhehdcaaDoorQJ
namespace Sk
open Go
/-- The text of a step. -/
def stpT (x : Stp) : List UInt8 := lnT x.1 ++ (if x.2 = 0 then [] else 32 :: Fr.render x.2.toNat)
theorem stpT_len {x : Stp} (h : x.1.length ≤ 6) (h0 : 0 ≤ x.2) (h1 : x.2 ≤ 1000000) : (stpT x).length ≤ 26 := by
  have a := lnT_len h
  have b := Tm.render_seven (n := x.2.toNat) (by omega)
  unfold stpT
  rw [List.length_append]
  split
  · simp; omega
  · simp; omega
end Sk
namespace Go.Proofs.YtecfbncfhehdcaaDoor
open Go.RowKit
theorem size_mk (l : List UInt8) : (ByteArray.mk l.toArray).size = l.length := by simp [ByteArray.size]
set_option maxHeartbeats 4000000 in
set_option maxRecDepth 100000 in
theorem sStT_any (v : Value) (l : List Sk.Str) (n : Int) (w : World) (hst : St w) (hs : SeeK w v l) (hc : Sk.chkP l n = 0) :
    Calls Tryd.prog 82 #[.agg #[v, .int .i64 n]] w fun e w' => e = .returned (.string ⟨(Sk.stpT (l, n)).toArray⟩) ∧ Below w.heap.size w w' := by
  obtain ⟨hr, hn0, hn1⟩ := Sk.chkP_ok hc
  have CJ := fun W (h : SeeK W v l) => Lib.hid (jnS_any v l W h hr)
  have HS := Lib.hid hs
  have HST := Lib.hid hst
  obtain ⟨ao, cap, rfl, hcap1, hcap2, -⟩ := hs
  obtain ⟨P0, L0, z0⟩ := boxP_new w (.slice ao l.length cap) (.int .i64 n) 70
  have HL := Lib.hid L0
  have HP := Lib.hid P0
  have HSX := Lib.hid (HS.out.step L0)
  have hlen := Sk.lnT_len hr.le6
  clear L0 P0 z0 hc hst
  by_cases h0 : n = 0
  · subst h0
    have hv : Sk.stpT (l, 0) = Sk.lnT l := by unfold Sk.stpT; simp
    rw [hv]
    clear hv hlen hr
    generalize Sk.lnT l = lt at *
    go_enter Tryd.func82, Tryd.ntmps82
    go_wp2_with fail
    refine ((CJ _ HSX.out).out).mono ?_
    rintro e w1 ⟨rfl, hb1⟩
    have HB1 := Lib.hid (below_nxt HL.out hb1)
    obtain ⟨p0, p1, p2⟩ := HP.out.step hb1
    clear hb1
    go_wp2
    go_ret
    exact ⟨rfl, HB1.out⟩
  · have hv : Sk.stpT (l, n) = Sk.lnT l ++ (32 :: Fr.render n.toNat) := by unfold Sk.stpT; simp only [if_neg h0]
    have hq : (ByteArray.mk (Sk.lnT l).toArray) ++ (ByteArray.mk #[32]) ++ (ByteArray.mk (Fr.render n.toNat).toArray) = ⟨(Sk.stpT (l, n)).toArray⟩ := by
      rw [hv, show (ByteArray.mk #[32]) = ByteArray.mk [(32 : UInt8)].toArray from rfl, cat_lists, cat_lists]; simp
    have h0' : (n == 0) = false := by simpa using h0
    have hrl := Tm.render_seven (n := n.toNat) (by omega)
    have CI := fun W (h : St W) => Lib.hid (itoa_any n W h hn0 (by omega))
    have z1 : (ByteArray.mk (Sk.lnT l).toArray).size ≤ 18 := by rw [size_mk]; exact hlen
    have z2 : (ByteArray.mk (Fr.render n.toNat).toArray).size ≤ 7 := by rw [size_mk]; exact hrl
    rw [← hq]
    clear hv hlen hr hrl h0 hq
    generalize (ByteArray.mk (Sk.lnT l).toArray) = T1 at *
    generalize (ByteArray.mk (Fr.render n.toNat).toArray) = T2 at *
    go_enter Tryd.func82, Tryd.ntmps82
    go_wp2_with fail
    refine ((CJ _ HSX.out).out).mono ?_
    rintro e w1 ⟨rfl, hb1⟩
    have HB1 := Lib.hid (below_nxt HL.out hb1)
    obtain ⟨p0, p1, p2⟩ := HP.out.step hb1
    have HS1 := Lib.hid (HST.out.below HB1.out HST.out.size)
    clear hb1
    go_wp2_with fail
    refine ((CI _ HS1.out).out).mono ?_
    rintro e w2 ⟨rfl, hb2⟩
    have HB2 := Lib.hid (below_nxt HB1.out hb2)
    clear hb2
    go_wp2
    go_ret
    exact ⟨rfl, HB2.out⟩
end Go.Proofs.YtecfbncfhehdcaaDoor

