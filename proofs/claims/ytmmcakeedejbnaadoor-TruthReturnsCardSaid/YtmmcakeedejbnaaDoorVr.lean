/- The call of the statement TruthReturns. -/
import Derived.Test.YtmmcakeedejbnaaDoorVn
namespace Go.Proofs.YtmmcakeedejbnaaDoor
open Go.RowKit

set_option maxRecDepth 100000 in
set_option maxHeartbeats 4000000 in
theorem lawReturns_any (n : Int) (b o0 o1 o2 o3 o4 o5 : Nat) (w : World) (hst : St w) (hb : b < 2 ^ 64) (ho : ∀ i, i < 6 → [o0, o1, o2, o3, o4, o5].getD i 0 < 256) :
    Calls Tryd.prog 10 #[.agg #[.int .i64 n, .int .u64 b], .agg #[.int .u8 o0, .int .u8 o1, .int .u8 o2, .int .u8 o3, .int .u8 o4, .int .u8 o5]] w fun e w' => e = .returned (.bool true) ∧ Below w.heap.size w w' := by
  have HST := Lib.hid hst
  clear hst
  have C1 := fun W => Lib.hid (rCheck_any n b W hb)
  obtain ⟨X, hX, P0, S0, L0, z0⟩ := ret_new w n b o0 o1 o2 o3 o4 o5 24 75
  have HX := Lib.hid hX
  clear hX
  have HO6 := Lib.hid ho
  clear ho
  by_cases hc : Tt.chk n b = 0
  · rw [hc] at C1
    obtain ⟨m, rfl, hm, hb2⟩ := chk_nat hc
    clear hc hb
    have hmk := run_make_row' (P := Tryd.prog) 36 3 (.int .i64 0) 8 Tryd.underlying36 Tryd.infoI64 rfl .i64 .i64 m (by omega) (by omega)
    have HB2 := Lib.hid hb2
    clear hb2
    generalize hos : [o0, o1, o2, o3, o4, o5] = os at *
    clear hos
    go_enter Tryd.func10, Tryd.ntmps10
    go_wp2_with fail
    rw [HX.out]
    refine ((C1 _).out).mono ?_
    rintro e w1 ⟨rfl, hb1⟩
    have zb1 := hb1.size
    have V1 := P0.below (by omega) hb1
    have S1 := S0.below (by omega) hb1
    have hB := L0.trans (hb1.mono (by omega))
    have hg : w.heap.size + 2 ≤ w1.heap.size := by omega
    clear P0 S0 L0 hb1 HX C1 z0 zb1
    obtain ⟨a0, a1, a2, a3, a4⟩ := id V1
    have HV := Lib.hid V1
    have HS := Lib.hid S1
    have HB := Lib.hid hB
    clear V1 S1 hB
    go_wp2
    go_loopw [33] (fun s33 wr => ∃ (i : Nat) (ls : List Nat), i ≤ m ∧ s33 = .int .i64 i ∧ Hid (Fil ls m i) ∧ Hid (IntsI wr w1.heap.size ls) ∧ Hid (TabI wr w.heap.size m b) ∧ Hid (SixI wr (w.heap.size + 1) os) ∧ Hid (Below w.heap.size w wr)) (fun s33 _ => m - (intOf s33).toNat)
    case atStart =>
      have hal := (Below.refl w1.heap.size w1).alloc (Nat.le_refl _) (.cells (madeCells #[.int .i64 0] m) 3)
      exact ⟨0, List.replicate m 0, Nat.zero_le _, rfl, Lib.hid ⟨by simp, fun j hj => by omega⟩, Lib.hid (IntsI.new w1 m _), Lib.hid (HV.out.step hal), Lib.hid (HS.out.below HS.out.1 hal), Lib.hid (below_nxt HB.out hal)⟩
    case round =>
      clear HV HS HB a0 a1 a2 a3 a4
      obtain ⟨i, ls, hi, rfl, HF, HI, T0, O0, HW⟩ := hrel
      by_cases him : i < m
      · have hli : i < ls.length := by rw [HF.out.1]; exact him
        obtain ⟨c0, f0⟩ := HI.out.2 i hli
        have g0 := HI.out.1
        have HL := Lib.hid hli
        clear hli
        go_wp2
        go_roundw
        case rel =>
          have hst2 := (Below.refl w1.heap.size wr).setCell (p := ⟨w1.heap.size, i, none⟩) (Nat.le_refl _) (.int .i64 (i : Int))
          have hst3 := hst2.mono (show w.heap.size + 2 ≤ w1.heap.size from hg)
          exact ⟨i + 1, ls.set i i, by omega, by go_num, Lib.hid (HF.out.put him), Lib.hid (HI.out.put HL.out), Lib.hid (T0.out.below (by omega) hst3), Lib.hid (O0.out.below (by omega) hst3), Lib.hid (HW.out.trans (hst3.mono (by omega)))⟩
        case measure => simp [intOf]; omega
      · obtain rfl : m = i := by omega
        have HO := Lib.hid HF.out.ord
        have hz := HI.out.1
        clear HF him hi
        go_wp2
        go_loopw [43] (fun s43 wr => ∃ (i : Nat) (ls : List Nat), i ≤ m ∧ s43 = .int .i64 i ∧ Hid (Tt.Ord m ls) ∧ Hid (IntsI wr w1.heap.size ls) ∧ Hid (TabI wr w.heap.size m b) ∧ Hid (SixI wr (w.heap.size + 1) os) ∧ Hid (Below w.heap.size w wr)) (fun s43 _ => m - (intOf s43).toNat)
        case atStart => exact ⟨0, ls, Nat.zero_le _, rfl, HO, HI, T0, O0, HW⟩
        case round =>
          clear HO HI T0 O0 HW hz
          obtain ⟨i, ls, hi, rfl, HO, HI, T0, O0, HW⟩ := hrel
          by_cases him : i < m
          · have hk6 : i < 6 := by omega
            have c6 := O0.out.2 i hk6
            have h256 := HO6.out i hk6
            obtain ⟨o, hoo⟩ : ∃ o, os.getD i 0 = o := ⟨_, rfl⟩
            rw [hoo] at c6 h256
            obtain ⟨k, hk⟩ : ∃ k, o % m = k := ⟨_, rfl⟩
            have hkm : k < m := by rw [← hk]; exact Nat.mod_lt _ (by omega)
            have hxm : (o : Int) % (m : Int) = (k : Int) := by rw [← hk]; simp
            have hm0 : ((m : Int) == 0) = false := by simp; omega
            have hmp : (0 : Int) < (m : Int) := by omega
            have hl := HO.out.len
            have hli : i < ls.length := by omega
            have hlk : k < ls.length := by omega
            obtain ⟨ci, fi⟩ := HI.out.2 i hli
            obtain ⟨ck, fk⟩ := HI.out.2 k hlk
            have HL := Lib.hid (And.intro hli hlk)
            have hb6 := O0.out.1
            have hg6 := HI.out.1
            obtain ⟨t0, t1, t2, t3, t4⟩ := id T0.out
            have HOS := Lib.hid (HO.out.swap him hkm)
            clear hli hlk hl hk hoo
            go_wp2_with fail
            go_quiet (fail)
            go_wp2_with fail
            rw [hxm]
            clear hxm c6 h256 t0 t1 t2 t3 t4 hb6 hg6
            have hdw : Below w.heap.size wr (wr.drewN nq) := below_drewN wr nq
            obtain ⟨wd, hwd⟩ : ∃ wd, wr.drewN nq = wd := ⟨_, rfl⟩
            rw [hwd]
            have ci' : wd.cell? ⟨w1.heap.size, i, none⟩ = some (.int .i64 ((ls.getD i 0 : Nat) : Int)) := by rw [← hwd]; exact ci
            have ck' : wd.cell? ⟨w1.heap.size, k, none⟩ = some (.int .i64 ((ls.getD k 0 : Nat) : Int)) := by rw [← hwd]; exact ck
            have fi' : wd.frozen? ⟨w1.heap.size, i, none⟩ = false := by rw [← hwd]; exact fi
            have fk' : wd.frozen? ⟨w1.heap.size, k, none⟩ = false := by rw [← hwd]; exact fk
            have HI' : Hid (IntsI wd w1.heap.size ls) := by rw [← hwd]; exact Lib.hid (show IntsI wr w1.heap.size ls from HI.out)
            have T0' : Hid (TabI wd w.heap.size m b) := by rw [← hwd]; exact Lib.hid (show TabI wr w.heap.size m b from T0.out)
            have O0' : Hid (SixI wd (w.heap.size + 1) os) := by rw [← hwd]; exact Lib.hid (show SixI wr (w.heap.size + 1) os from O0.out)
            have HW' : Hid (Below w.heap.size w wd) := by rw [← hwd]; exact Lib.hid (HW.out.trans hdw)
            clear ci ck fi fk HI T0 O0 HW hdw hwd
            have gw := HI'.out.1
            have HIS := Lib.hid (HI'.out.swap HL.out.1 HL.out.2)
            generalize Tt.swap ls i k = ls2 at *
            generalize ls.getD i 0 = p at *
            generalize ls.getD k 0 = q at *
            clear HI' HO HL
            obtain ⟨v', hy'⟩ := cell?_setCell_some (w := wd) (p := ⟨w1.heap.size, i, none⟩) (x := .int .i64 (q : Int)) (q := ⟨w1.heap.size, k, none⟩) (v := .int .i64 (q : Int)) ck'
            go_region
            go_wp2
            go_roundw
            case rel =>
              have h1 := (((Below.refl w1.heap.size wd).setCell (p := ⟨w1.heap.size, i, none⟩) (Nat.le_refl _) (.int .i64 (q : Int))).setCell (p := ⟨w1.heap.size, k, none⟩) (Nat.le_refl _) (.int .i64 (p : Int))).trans (below_drewN _ 1)
              have h2 := h1.mono (show w.heap.size + 2 ≤ w1.heap.size from hg)
              exact ⟨i + 1, ls2, by omega, by go_num, HOS, Lib.hid (HIS.out.drew), Lib.hid (T0'.out.below (by omega) h2), Lib.hid (O0'.out.below (by omega) h2), Lib.hid (HW'.out.trans (h2.mono (by omega)))⟩
            case measure => simp [intOf]; omega
          · obtain rfl : m = i := by omega
            have hz := HI.out.1
            clear him hi
            obtain ⟨t0, t1, t2, t3, t4⟩ := id T0.out
            go_wp2
            obtain ⟨wo, rfl⟩ : ∃ wo : World, wo = wr := ⟨_, rfl⟩
            have hg2 : w1.heap.size + 1 ≤ wo.heap.size := hz
            clear t1 t2 t3 t4 hmk
            go_loopw [73] (fun s73 wr => ∃ (i : Nat) (bk : List Nat), i ≤ m ∧ s73 = .int .i64 i ∧ Hid (Tt.Bck m ls bk i) ∧ Hid (IntsI wr wo.heap.size bk) ∧ Hid (IntsI wr w1.heap.size ls) ∧ Hid (TabI wr w.heap.size m b) ∧ Hid (Below w.heap.size w wr)) (fun s73 _ => m - (intOf s73).toNat)
            case atStart =>
              have hal := (Below.refl wo.heap.size wo).alloc (Nat.le_refl _) (.cells (madeCells #[.int .i64 0] m) 3)
              exact ⟨0, List.replicate m 0, Nat.zero_le _, rfl, Lib.hid ⟨by simp, fun j hj => by omega⟩, Lib.hid (IntsI.new wo m _), Lib.hid (HI.out.below hz hal), Lib.hid (T0.out.step hal), Lib.hid (below_nxt HW.out hal)⟩
            case round =>
              clear HI T0 O0 HW hz t0
              obtain ⟨i, bk, hi, rfl, HK, HJ, HI, T0, HW⟩ := hrel
              by_cases him : i < m
              · have hli : i < ls.length := by rw [HO.out.len]; exact him
                obtain ⟨ci, _⟩ := HI.out.2 i hli
                have hpm := HO.out.at him
                have hpb : ls.getD i 0 < bk.length := by rw [HK.out.len]; exact hpm
                obtain ⟨cb, fb⟩ := HJ.out.2 _ hpb
                have HK2 := Lib.hid (HK.out.put HO.out him)
                have HJ2 := Lib.hid (HJ.out.put (x := i) hpb)
                have gi := HI.out.1
                have gj := HJ.out.1
                clear hli hpb HK
                generalize hp : ls.getD i 0 = p at *
                clear hp
                generalize bk.getD p 0 = z at *
                go_wp2
                go_roundw
                case rel =>
                  have h1 := (Below.refl wo.heap.size wr).setCell (p := ⟨wo.heap.size, p, none⟩) (Nat.le_refl _) (.int .i64 (i : Int))
                  have h2 := h1.mono (show w.heap.size + 2 ≤ wo.heap.size by omega)
                  exact ⟨i + 1, _, by omega, by go_num, HK2, HJ2, Lib.hid (HI.out.below (by omega) h1), Lib.hid (T0.out.below (by omega) h2), Lib.hid (HW.out.trans (h2.mono (by omega)))⟩
                case measure => simp [intOf]; omega
              · obtain rfl : m = i := by omega
                clear him hi
                have hsl1 := HI.out.sees HO.out.len hm
                have hsl2 := HJ.out.sees HK.out.len hm
                have CR := ret_calls hm HB2.out HO.out HK.out
                generalize Tt.mk m (fun x => b.testBit (Tt.refY ls x m)) = c at *
                generalize Tt.ints ls = l1 at *
                generalize Tt.ints bk = l2 at *
                generalize (Tt.ptsL m b).length = k at *
                obtain ⟨C2, C3, C4, C5, s, N, hsz, C6, C7, CS⟩ := CR
                have V1 := T0.out
                have hB := HW.out
                clear HI HJ HO HK HB2 T0 HW HO6
                obtain ⟨a10, a11, a12, a13, a14⟩ := id V1
                have H1 := Lib.hid V1
                clear V1
                go_wp2_with fail
                have hE := hB
                refine ((C2 _ _ (HST.out.next hE) hsl1).out).mono ?_
                rintro e w1 ⟨rfl, hb⟩
                clear hE
                have V1 := H1.out.step hb
                have hB' := below_nxt hB hb
                have hsl2' := hsl2.below (hb) (Nat.le_refl _)
                clear hsl2
                have hsl2 := hsl2'
                clear hsl2'
                clear hb hB a10 a11 a12 a13 a14 H1
                have hB := hB'
                clear hB'
                have n1_1 : w.heap.size < w1.heap.size := V1.1
                obtain ⟨a10, a11, a12, a13, a14⟩ := id V1
                have H1 := Lib.hid V1
                clear V1
                clear hsl1 C2
                go_wp2_with fail
                have hE := hB.alloc hB.size (.cells #[.int .i64 m, .int .u64 c] 24)
                refine ((C3 _ _ (HST.out.next hE) (hsl2.below ((Below.refl _ _).alloc (Nat.le_refl _) _) (Nat.le_refl _))).out).mono ?_
                rintro e w2 ⟨rfl, hb⟩
                clear hE
                have V1 := H1.out.box hb
                have V2 := tabI_box hb
                have hB' := below_nxtb hB hb
                clear hb hB a10 a11 a12 a13 a14 H1
                have hB := hB'
                clear hB'
                have n2_1 : w.heap.size < w2.heap.size := V1.1
                have n2_2 : w1.heap.size < w2.heap.size := V2.1
                obtain ⟨a10, a11, a12, a13, a14⟩ := id V1
                obtain ⟨a20, a21, a22, a23, a24⟩ := id V2
                have H1 := Lib.hid V1
                have H2 := Lib.hid V2
                clear V1 V2
                clear hsl2 C3
                go_wp2_with fail
                have hE := hB.alloc hB.size (.cells #[.int .i64 m, .int .u64 b] 24)
                refine ((C4 _ (HST.out.next hE)).out).mono ?_
                rintro e w3 ⟨ao3, cap3, rfl, hs3, hb⟩
                clear hE
                have V1 := H1.out.box hb
                have V2 := H2.out.box hb
                have V3 := tabI_box hb
                have hB' := below_nxtb hB hb
                clear hb hB a10 a11 a12 a13 a14 H1 a20 a21 a22 a23 a24 H2
                have hB := hB'
                clear hB'
                obtain ⟨a10, a11, a12, a13, a14⟩ := id V1
                obtain ⟨a20, a21, a22, a23, a24⟩ := id V2
                obtain ⟨a30, a31, a32, a33, a34⟩ := id V3
                have H1 := Lib.hid V1
                have H2 := Lib.hid V2
                have H3 := Lib.hid V3
                clear V1 V2 V3
                go_wp2_with fail
                have hE := hB
                refine ((C5 _ (HST.out.next hE)).out).mono ?_
                rintro e w4 ⟨ao4, cap4, rfl, hs4, hb⟩
                clear hE
                have V1 := H1.out.step hb
                have V2 := H2.out.step hb
                have V3 := H3.out.step hb
                have hB' := below_nxt hB hb
                clear hb hB a10 a11 a12 a13 a14 H1 a20 a21 a22 a23 a24 H2 a30 a31 a32 a33 a34 H3
                have hB := hB'
                clear hB'
                obtain ⟨a10, a11, a12, a13, a14⟩ := id V1
                obtain ⟨a20, a21, a22, a23, a24⟩ := id V2
                obtain ⟨a30, a31, a32, a33, a34⟩ := id V3
                have H1 := Lib.hid V1
                have H2 := Lib.hid V2
                have H3 := Lib.hid V3
                clear V1 V2 V3
                go_wp2_with fail
                have hE := hB
                refine ((C6 _ (HST.out.next hE)).out).mono ?_
                rintro e w5 ⟨rfl, hb⟩
                clear hE
                have V1 := H1.out.step hb
                have V2 := H2.out.step hb
                have V3 := H3.out.step hb
                have hB' := below_nxt hB hb
                clear hb hB a10 a11 a12 a13 a14 H1 a20 a21 a22 a23 a24 H2 a30 a31 a32 a33 a34 H3
                have hB := hB'
                clear hB'
                obtain ⟨a10, a11, a12, a13, a14⟩ := id V1
                obtain ⟨a20, a21, a22, a23, a24⟩ := id V2
                obtain ⟨a30, a31, a32, a33, a34⟩ := id V3
                have H1 := Lib.hid V1
                have H2 := Lib.hid V2
                have H3 := Lib.hid V3
                clear V1 V2 V3
                go_wp2_with fail
                have hE := hB
                refine ((C7 _ (HST.out.next hE)).out).mono ?_
                rintro e w6 ⟨rfl, hb⟩
                clear hE
                have V1 := H1.out.step hb
                have V2 := H2.out.step hb
                have V3 := H3.out.step hb
                have hB' := below_nxt hB hb
                clear hb hB a10 a11 a12 a13 a14 H1 a20 a21 a22 a23 a24 H2 a30 a31 a32 a33 a34 H3
                have hB := hB'
                clear hB'
                have n6_1 : w.heap.size < w6.heap.size := V1.1
                have n6_2 : w1.heap.size < w6.heap.size := V2.1
                have n6_3 : w2.heap.size < w6.heap.size := V3.1
                obtain ⟨a10, a11, a12, a13, a14⟩ := id V1
                obtain ⟨a20, a21, a22, a23, a24⟩ := id V2
                obtain ⟨a30, a31, a32, a33, a34⟩ := id V3
                have H1 := Lib.hid V1
                have H2 := Lib.hid V2
                have H3 := Lib.hid V3
                clear V1 V2 V3
                go_wp2_with fail
                refine ((CS _).out).mono ?_
                rintro e wS ⟨rfl, rfl⟩
                go_wp2_with fail
                have hE := hB.alloc hB.size (.cells #[.int .i64 m, .int .u64 b] 24)
                refine (awake_any _ (HST.out.next hE)).mono ?_
                rintro e wz ⟨rfl, hb⟩
                have hF := below_nxt hE hb
                go_wp2
                go_ret
                exact ⟨rfl, hF⟩
  · generalize Tt.chk n b = k at *
    have g4 : (k != 0) = true := by simpa using hc
    clear hc hb HO6
    generalize [o0, o1, o2, o3, o4, o5] = os at *
    go_enter Tryd.func10, Tryd.ntmps10
    go_wp2_with fail
    rw [HX.out]
    refine ((C1 _).out).mono ?_
    rintro e w1 ⟨rfl, hb1⟩
    have hB := L0.trans (hb1.mono (by omega))
    go_wp2_with fail
    refine (awake_any _ (HST.out.next hB)).mono ?_
    rintro e wz ⟨rfl, hb⟩
    have hF := below_nxt hB hb
    go_wp2
    go_ret
    exact ⟨rfl, hF⟩
end Go.Proofs.YtmmcakeedejbnaaDoor
