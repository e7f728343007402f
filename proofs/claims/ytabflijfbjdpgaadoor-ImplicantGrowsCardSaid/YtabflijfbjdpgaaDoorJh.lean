/- The call of ImplicantCovers. -/
import Derived.Test.YtabflijfbjdpgaaDoorIw
import Derived.Test.YtabflijfbjdpgaaDoorIz
import Derived.Test.YtabflijfbjdpgaaDoorJc
import Derived.Test.YtabflijfbjdpgaaDoorJd
import Derived.Test.YtabflijfbjdpgaaDoorJr
namespace Go.Proofs.YtabflijfbjdpgaaDoor
open Go.RowKit Go.Shelf

set_option linter.unusedSimpArgs false in
set_option maxHeartbeats 8000000 in
set_option maxRecDepth 100000 in
theorem lawCovers_ok (n on : Nat) (m : Int) (fr : Nat) (w : World) (hst : St w) (hn : n ≤ 6) (hon : on < 2 ^ 2 ^ n) (ho : on < 2 ^ 64) (hf : fr < 2 ^ 64) (hchk : Ic.tchk n on m fr = 0) :
    Calls Tryd.prog 9 #[.agg #[.int .i64 n, .int .u64 on, .int .i64 m, .int .u64 fr]] w fun e w' => e = .returned (.bool true) ∧ Below w.heap.size w w' := by
  have K1 := fun W => Lib.hid (rcCheckTask_any n on m fr W ho hf)
  rw [hchk] at K1
  have CP := fun W (h : St W) => Lib.hid (iPrimes_ok n on m fr W hn ho hf h hchk)
  have CC := fun W => Lib.hid (tConst_ok n false W hn)
  rw [cond_false] at CC
  simp only [Int.natCast_zero] at CC
  have hlen := Ic.primesS_len (on := on) (fr := fr) hn
  have HAP := Lib.hid (fun (i j : Nat) (hij : j < i) (hi : i < (Ic.primesS n on fr).length) => Ic.primes_apart hn ho hf hij hi)
  have HAT := Lib.hid (fun (i : Nat) (hi : i < (Ic.primesS n on fr).length) => Ic.primesS_mem.1 (Ic.getD_mem hi))
  have HCOV := Lib.hid (Ic.cover_on hn hon hf)
  have HALL := Lib.hid (fun (e : fr = 0) => show (Ic.onc n (Ic.primesS n on fr)).1 = on by subst e; exact Ic.cover_all hn hon)
  generalize Ic.primesS n on fr = l at *
  have HS := Lib.hid (fun i (hi : i < l.length) => Ic.onc_take (n := n) hi)
  have HF := Lib.hid (fun i => Ic.onc_fits (n := n) (l.take i))
  have HE : Hid (Ic.onc n (l.take l.length) = Ic.onc n l) := Lib.hid (by rw [List.take_length])
  have HC0 : Hid ((Ic.onc n (l.take 0)).1 = 0) := Lib.hid (by simp [Ic.onc])
  have CT := fun (i : Nat) (hi : i < l.length) W (h : St W) => Lib.hid (iTab_any n (l.getD i (0, 0)).1 (l.getD i (0, 0)).2 W (Ic.w64 hn (HAT.out i hi).1.1) (Ic.w64 hn ((HAT.out i hi).1.2.lt (HAT.out i hi).1.1)) h)
  have CI := fun (i : Nat) (hi : i < l.length) W (h : St W) => Lib.hid (iImplies_any n on m fr (l.getD i (0, 0)).1 (l.getD i (0, 0)).2 W ho hf (Ic.w64 hn (HAT.out i hi).1.1) (Ic.w64 hn ((HAT.out i hi).1.2.lt (HAT.out i hi).1.1)) h)
  have CN := fun (i j : Nat) (hi : i < l.length) (hj : j < l.length) W => Lib.hid (iIns_any n (l.getD i (0, 0)).1 (l.getD i (0, 0)).2 (l.getD j (0, 0)).1 (l.getD j (0, 0)).2 W (Ic.w64 hn (HAT.out i hi).1.1) (Ic.w64 hn ((HAT.out i hi).1.2.lt (HAT.out i hi).1.1)) (Ic.w64 hn (HAT.out j hj).1.1) (Ic.w64 hn ((HAT.out j hj).1.2.lt (HAT.out j hj).1.1)))
  have HTV := Lib.hid (fun i (hi : i < l.length) => show Ic.tabV n (l.getD i (0, 0)).1 (l.getD i (0, 0)).2 = (((n : Int), Ic.tab n (l.getD i (0, 0)).1 (l.getD i (0, 0)).2), (0 : Int)) by
    unfold Ic.tabV; rw [if_neg (by rw [Ic.chk_of hn (HAT.out i hi).1.1 (HAT.out i hi).1.2]; simp), Int.toNat_natCast])
  have HIV := Lib.hid (fun i (hi : i < l.length) => show Ic.impV n on m fr (l.getD i (0, 0)).1 (l.getD i (0, 0)).2 = (true, 0) by
    unfold Ic.impV; rw [if_neg (by rw [hchk]; simp), if_neg (by rw [Ic.chk_of hn (HAT.out i hi).1.1 (HAT.out i hi).1.2]; simp), Int.toNat_natCast, (Ic.prime_iff.1 (HAT.out i hi).2).2.1])
  have HNE := Lib.hid (fun i (hi : i < l.length) => (Ic.prime_iff.1 (HAT.out i hi).2).1)
  have HT64 := Lib.hid (fun i => Tt.w64 hn (Ic.tab_lt n (l.getD i (0, 0)).1 (l.getD i (0, 0)).2))
  have HTF := Lib.hid (fun i => Tt.chk_ok hn (Ic.tab_lt n (l.getD i (0, 0)).1 (l.getD i (0, 0)).2))
  have HST := Lib.hid hst
  obtain ⟨P0, L0, z0⟩ := task_new w n on m fr 58
  generalize hX : w.alloc (.cells #[.int .i64 n, .int .u64 (on : Int), .int .i64 m, .int .u64 (fr : Int)] 58) = X at *
  have HL0 := Lib.hid L0
  obtain ⟨p0, p1, p2, p3, p4⟩ := id P0
  clear hst hchk L0
  go_enter Tryd.func9, Tryd.ntmps9
  go_wp2_with (first | (go_at_call 31; refine ((K1 _).out).mono ?_; rintro e v1 ⟨rfl, hb⟩; have HV1 := Lib.hid (below_nxt HL0.out hb); have Q1 := Lib.hid (P0.step hb); clear hb p0 p1 p2 p3 p4; obtain ⟨p0, p1, p2, p3, p4⟩ := Q1.out) | (go_at_call 33; refine ((CP _ (HST.out.next HV1.out)).out).mono ?_; rintro e w1 ⟨pv, rfl, hsee, hb⟩; obtain ⟨ao, cap, rfl, hcap1, hcap2, hcells⟩ := hsee.opened; have HCE := Lib.hid hcells; have HW1 := Lib.hid (below_nxt HV1.out hb); have Q2 := Lib.hid (Q1.out.step hb); clear hb hsee hcells p0 p1 p2 p3 p4; obtain ⟨p0, p1, p2, p3, p4⟩ := Q2.out) | (go_at_call 39; refine ((CC _).out).mono ?_; rintro e w2 ⟨rfl, hb⟩; have HW2 := Lib.hid hb; clear hb))
  obtain ⟨A0, LA, zA⟩ := tab1_new w2 n 0 32
  simp only [Int.natCast_zero] at A0 LA zA
  have HWA := Lib.hid (HW2.out.trans (LA.mono HW2.out.size))
  have hw12 := HW2.out.size
  generalize (w2.alloc (.cells #[.int .i64 n, .int .u64 0] 32)) = Y at *
  have HQ := Lib.hid Q2.out
  clear LA Q1 Q2 P0 p1 p2 p3 p4 K1 CP CC
  generalize hA : w2.heap.size = A at *
  go_loopw [48] (fun s48 wr => ∃ i : Nat, i ≤ l.length ∧ s48 = .int .i64 i ∧ TabI wr A n (Ic.onc n (l.take i)).1 ∧ Hid (Below w1.heap.size w1 wr)) (fun s48 _ => l.length - (intOf s48).toNat)
  case atStart => exact ⟨0, Nat.zero_le _, rfl, by rw [HC0.out]; exact A0, HWA⟩
  case round =>
    clear A0 HWA zA
    obtain ⟨i, hi, rfl, R, HB⟩ := hrel
    by_cases hil : i < l.length
    · obtain ⟨g, rfl, hg, c1, c2⟩ := HCE.out.at HB.out hil
      have CTi := CT i hil
      rw [HTV.out i hil] at CTi
      have CIi := CI i hil
      rw [HIV.out i hil] at CIi
      dsimp only at CTi CIi
      have hafit := HF.out i
      have COi := fun W => Lib.hid (tOr_ok n (Ic.onc n (l.take i)).1 (Ic.tab n (l.getD i (0, 0)).1 (l.getD i (0, 0)).2) W (Tt.w64 hn hafit) (HT64.out i) (Tt.chk_ok hn hafit) (HTF.out i))
      have e2 := u64_and_nat (Ic.tab n (l.getD i (0, 0)).1 (l.getD i (0, 0)).2) on (by simpa using HT64.out i) (by simpa using ho)
      have hne : (((Ic.tab n (l.getD i (0, 0)).1 (l.getD i (0, 0)).2 &&& on : Nat) : Int) == 0) = false := by rw [beq_eq_false_iff_ne]; exact fun h => HNE.out i hil (Int.natCast_eq_zero.1 h)
      have HSi : Hid ((Ic.onc n (l.take (i + 1))).1 = (Ic.onc n (l.take i)).1 ||| Ic.tab n (l.getD i (0, 0)).1 (l.getD i (0, 0)).2) := Lib.hid (by rw [HS.out i hil])
      have CNi := fun j (hj : j < l.length) => CN i j hil hj
      have CNj := fun j (hj : j < l.length) => CN j i hj hil
      have HAPi := Lib.hid (fun j (hj : j < i) => HAP.out i j hj hil)
      have HWR := Lib.hid (below_nxt HW1.out HB.out)
      obtain ⟨t0, t1, t2, t3, t4⟩ := HQ.out.step HB.out
      obtain ⟨r0, r1, r2, r3, r4⟩ := id R
      generalize (l.getD i (0, 0)) = x at *
      generalize Ic.tab n x.1 x.2 = tb at *
      generalize (Ic.onc n (l.take i)).1 = a at *
      generalize a ||| tb = a' at *
      generalize tb &&& on = zz at *
      have hwr := HB.out.size
      have hAw : A ≠ wr.heap.size := by omega
      clear HS HF HE HC0 CT CI CN HTV HIV HNE HT64 HTF HAP HAT hafit HCOV HALL
      go_wp2_with (first | (go_at_call 13; refine ((CTi _ (HST.out.next (below_nxt HWR.out ((Below.refl _ _).alloc (Nat.le_refl _) _)))).out).mono ?_; rintro e w3 ⟨rfl, hb⟩; have HB3 := Lib.hid (HB.out.trans ((((Below.refl _ _).alloc (Nat.le_refl _) _).trans (hb.mono (by simp))).mono HB.out.size)); have R3 := Lib.hid (R.box hb); have X3 := Lib.hid (cubI_box (c := x.1) (v := x.2) hb); clear hb r1 r2 r3 r4 t1 t2 t3 t4; obtain ⟨r0', r1, r2, r3, r4⟩ := R3.out; obtain ⟨x0, x1, x2, x3, x4⟩ := X3.out; obtain ⟨t0', t1, t2, t3, t4⟩ := HQ.out.step HB3.out) | (go_at_call 28; refine ((CIi _ (HST.out.next (below_nxt (below_nxt HW1.out HB3.out) ((Below.refl _ _).alloc (Nat.le_refl _) _)))).out).mono ?_; rintro e w4 ⟨rfl, hb⟩; have HB4 := Lib.hid (HB3.out.trans ((((Below.refl _ _).alloc (Nat.le_refl _) _).trans (hb.mono (by simp))).mono HB3.out.size)); have R4 := Lib.hid (R3.out.box hb); have X4 := Lib.hid (X3.out.box hb); have Z4 := Lib.hid (tabI_box hb); clear hb r1 r2 r3 r4 x1 x2 x3 x4 t1 t2 t3 t4; obtain ⟨r0'', r1, r2, r3, r4⟩ := R4.out; obtain ⟨x0', x1, x2, x3, x4⟩ := X4.out; obtain ⟨z0', z1, z2, z3, z4⟩ := Z4.out; obtain ⟨t0'', t1, t2, t3, t4⟩ := HQ.out.step HB4.out) | (go_at_call 40; refine ((COi _).out).mono ?_; rintro e w5 ⟨rfl, hb⟩; have HB5 := Lib.hid (HB4.out.trans (hb.mono HB4.out.size)); have R5 := Lib.hid (R4.out.step hb); have X5 := Lib.hid (X4.out.step hb); clear hb r1 r2 r3 r4 x1 x2 x3 x4 z1 z2 z3 z4 t1 t2 t3 t4; obtain ⟨r0''', r1, r2, r3, r4⟩ := R5.out))
      have R6 := Lib.hid (R5.out.put n a')
      have X6 := Lib.hid ((X5.out.other (g' := A) (j := 0) (.int .i64 n) hAw).other (g' := A) (j := 1) (.int .u64 (a' : Int)) hAw)
      have HB6 := Lib.hid (below_put2 (g := A) HB5.out hw12 (.int .i64 n) (.int .u64 (a' : Int)))
      clear R3 R4 R5 X3 X4 X5 Z4 HB3 HB4 r1 r2 r3 r4 R
      generalize ((w5.setCell ⟨A, 0, none⟩ (.int .i64 n)).setCell ⟨A, 1, none⟩ (.int .u64 (a' : Int))) = W6 at *
      go_loopw [98] (fun s98 wq => ∃ j : Nat, j ≤ i ∧ s98 = .int .i64 j ∧ TabI wq A n a' ∧ CubI wq wr.heap.size x.1 x.2 ∧ Hid (Below w1.heap.size w1 wq)) (fun s98 _ => i - (intOf s98).toNat)
      case atStart => exact ⟨0, Nat.zero_le _, rfl, R6.out, X6.out, HB6⟩
      case round =>
        clear R6 X6 HB6
        obtain ⟨j, hj, rfl, Rq, Xq, HBq⟩ := hrel
        by_cases hji : j < i
        · obtain ⟨g', he, hg', d1, d2⟩ := HCE.out.at HBq.out (show j < l.length by omega)
          obtain rfl : g = g' := by simpa using he
          have hap := HAPi.out j hji
          have CA := CNi j (by omega)
          have CB := CNj j (by omega)
          rw [hap.1] at CA
          rw [hap.2] at CB
          dsimp only at CA CB
          clear CNi CNj hap HAPi c1 c2 he
          generalize (l.getD j (0, 0)) = y at *
          obtain ⟨t0, t1, t2, t3, t4⟩ := HQ.out.step HBq.out
          obtain ⟨x0, x1, x2, x3, x4⟩ := id Xq
          go_wp2_with (first | (go_at_call 18; (with_reducible refine ((CA _).out).mono ?_); rintro e w7 ⟨rfl, hb⟩; have HB7 := Lib.hid (HBq.out.trans ((((Below.refl _ _).alloc (Nat.le_refl _) _).trans (hb.mono (by simp))).mono HBq.out.size)); have R7 := Lib.hid (Rq.box hb); have X7 := Lib.hid (Xq.box hb); have Y7 := Lib.hid (cubI_box (c := y.1) (v := y.2) hb); clear hb x1 x2 x3 x4 t1 t2 t3 t4; obtain ⟨x0', x1, x2, x3, x4⟩ := X7.out; obtain ⟨y0, y1, y2, y3, y4⟩ := Y7.out; obtain ⟨t0', t1, t2, t3, t4⟩ := HQ.out.step HB7.out) | (go_at_call 18; (with_reducible refine ((CB _).out).mono ?_); rintro e w8 ⟨rfl, hb⟩; have HB8 := Lib.hid (HB7.out.trans (hb.mono HB7.out.size)); have R8 := Lib.hid (R7.out.step hb); have X8 := Lib.hid (X7.out.step hb); clear hb))
          exact ⟨⟨j + 1, by omega, rfl, R8.out, X8.out, HB8⟩, by simp [intOf]; omega⟩
        · obtain rfl : j = i := by omega
          go_wp2
          exact ⟨⟨j + 1, by omega, rfl, by rw [HSi.out]; exact Rq, HBq⟩, by simp [intOf]; omega⟩
    · obtain rfl : i = l.length := by omega
      rw [HE.out] at R
      obtain ⟨t0, t1, t2, t3, t4⟩ := HQ.out.step HB.out
      obtain ⟨r0, r1, r2, r3, r4⟩ := id R
      have HF2 := HF.out l.length
      rw [HE.out] at HF2
      have e1 := u64_andNot_nat on (Ic.onc n l).1 (by simpa using ho) (by simpa using Tt.w64 hn HF2)
      rw [HCOV.out] at e1
      simp only [Int.natCast_zero] at e1
      have HWR := Lib.hid (below_nxt HW1.out HB.out)
      clear HS HF HE HC0 CT CI CN HTV HIV HNE HT64 HTF HAP HAT HF2
      by_cases hfr : fr = 0
      · have hall := HALL.out hfr
        subst hfr
        rw [hall] at R r2 e1
        go_wp2_with (go_at_call 17; refine (awake_any _ (HST.out.next HWR.out)).mono ?_; rintro e wz ⟨rfl, hb⟩; have HZ := Lib.hid (below_nxt HWR.out hb); clear hb)
        go_ret
        exact ⟨rfl, HZ.out⟩
      · have hfr' := int_ne0 hfr
        generalize (Ic.onc n l).1 = al at *
        go_wp2_with (go_at_call 17; refine (awake_any _ (HST.out.next HWR.out)).mono ?_; rintro e wz ⟨rfl, hb⟩; have HZ := Lib.hid (below_nxt HWR.out hb); clear hb)
        go_ret
        exact ⟨rfl, HZ.out⟩

set_option maxHeartbeats 2000000 in
set_option maxRecDepth 100000 in
theorem lawCovers_bad (n : Int) (on : Nat) (m : Int) (fr : Nat) (w : World) (hst : St w) (ho : on < 2 ^ 64) (hf : fr < 2 ^ 64) (hchk : Ic.tchk n on m fr ≠ 0) :
    Calls Tryd.prog 9 #[.agg #[.int .i64 n, .int .u64 on, .int .i64 m, .int .u64 fr]] w fun e w' => e = .returned (.bool true) ∧ Below w.heap.size w w' := by
  have K1 := fun W => Lib.hid (rcCheckTask_any n on m fr W ho hf)
  have hk : (Ic.tchk n on m fr != 0) = true := by simp [hchk]
  generalize Ic.tchk n on m fr = k at *
  have HST := Lib.hid hst
  obtain ⟨P0, L0, z0⟩ := task_new w n on m fr 58
  generalize hX : w.alloc (.cells #[.int .i64 n, .int .u64 (on : Int), .int .i64 m, .int .u64 (fr : Int)] 58) = X at *
  have HL0 := Lib.hid L0
  obtain ⟨p0, p1, p2, p3, p4⟩ := id P0
  clear hst hchk L0 ho hf
  go_enter Tryd.func9, Tryd.ntmps9
  go_wp2_with (first | (go_at_call 31; refine ((K1 _).out).mono ?_; rintro e v1 ⟨rfl, hb⟩; have HV1 := Lib.hid (below_nxt HL0.out hb); clear hb) | (go_at_call 17; refine (awake_any _ (HST.out.next HV1.out)).mono ?_; rintro e wz ⟨rfl, hb⟩; have HZ := Lib.hid (below_nxt HV1.out hb); clear hb))
  go_ret
  exact ⟨rfl, HZ.out⟩
theorem lawCovers_card (x0 y0 z0 u0 : Int) (W : World) (hst : St W) (_ : -9223372036854775808 ≤ x0) (_ : x0 ≤ 9223372036854775807) (h0 : 0 ≤ y0) (h1 : y0 ≤ 18446744073709551615) (_ : -9223372036854775808 ≤ z0) (_ : z0 ≤ 9223372036854775807) (h2 : 0 ≤ u0) (h3 : u0 ≤ 18446744073709551615) :
    Calls Tryd.prog 9 #[.agg #[.int .i64 x0, .int .u64 y0, .int .i64 z0, .int .u64 u0]] W fun e w' => e = .returned (.bool true) ∧ Below W.heap.size W w' := by
  obtain ⟨on, rfl⟩ := Int.eq_ofNat_of_zero_le h0
  obtain ⟨fr, rfl⟩ := Int.eq_ofNat_of_zero_le h2
  by_cases h : Ic.tchk x0 on z0 fr = 0
  · obtain ⟨m, rfl, hm, hon⟩ := chk_nat (Ic.tchk_zero.1 h).1
    exact lawCovers_ok m on z0 fr W hst hm hon (by omega) (by omega) h
  · exact lawCovers_bad x0 on z0 fr W hst (by omega) (by omega) h
end Go.Proofs.YtabflijfbjdpgaaDoor
