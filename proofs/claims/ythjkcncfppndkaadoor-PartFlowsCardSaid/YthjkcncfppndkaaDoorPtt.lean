/- The statement PartFlows: the walk. -/
import Derived.Test.YthjkcncfppndkaaDoorPts
namespace Go.Proofs.YthjkcncfppndkaaDoor
open Go.RowKit
theorem cell_later {w w' : World} {g o : Nat} {v : Value} (h : Below w.heap.size w w') (hg : g < w.heap.size) (hc : w.cell? ⟨g, o, none⟩ = some v) : w'.cell? ⟨g, o, none⟩ = some v := (h.cell (p := ⟨g, o, none⟩) hg).trans hc
set_option maxHeartbeats 8000000 in
set_option maxRecDepth 100000 in
theorem flows_any (k b : Nat) (w : World) (hk : k < 256) (hb : b < 256) (hx : Lx w) :
    Calls Tryd.prog 8 #[.int .u8 (k : Int), .int .u8 (b : Int)] w fun e w' => e = .returned (.bool true) ∧ Below w.heap.size w w' := by
  obtain ⟨c, hc⟩ : ∃ c, c = k % 14 := ⟨_, rfl⟩
  have hc14 : c < 14 := by omega
  have hmod : (k : Int).tmod 14 = (c : Int) := by rw [Int.tmod_eq_emod_of_nonneg (by omega), hc]; omega
  have h12 := Pt.pos12f c hc14
  obtain ⟨d, hd⟩ : ∃ d, d = b % (Pt.cat c).pos.toNat := ⟨_, rfl⟩
  have hd0 : (d : Int) < (Pt.cat c).pos := by
    have := Nat.mod_lt b (show 0 < (Pt.cat c).pos.toNat by omega)
    omega
  have hmod2 : (b : Int).tmod (Pt.cat c).pos = (d : Int) := by
    rw [Int.tmod_eq_emod_of_nonneg (by omega), hd]
    have e : (((Pt.cat c).pos.toNat : Nat) : Int) = (Pt.cat c).pos := by omega
    rw [Int.natCast_emod, e]
  clear hd
  have hd2 : d < 2 := by omega
  have hd00 : (0 : Int) ≤ (d : Int) := by omega
  have PF := Lib.hid (Pt.pass_fact c d hc14 hd2)
  have QF := Lib.hid (Pt.port_fact c d hc14 hd2 hd0)
  have HX := Lib.hid hx
  have CP := fun W => Lib.hid (pos_any c hc14 W)
  have CS := fun W => Lib.hid (passes_any c d hc14 hd00 hd0 W)
  have CV := fun W => Lib.hid (vents_any c d hc14 hd00 hd0 W)
  have CO := fun W => Lib.hid (ports_any c hc14 W)
  have CR := fun s W => Lib.hid (role_fst c hc14 s W)
  have CA := fun W (h : Lx W) => Lib.hid (awake20_any W h)
  have KL := Lib.hid (Pt.keys_le (Pt.effV (Pt.cat c).eff d).1)
  clear hx hc hd2
  generalize Pt.cat c = R at *
  generalize (Pt.effV R.eff (d : Int)).1 = o at *
  generalize (Pt.effV R.eff (d : Int)).2 = vl at *
  obtain ⟨P, hP⟩ : ∃ P, P = Pt.srt (Pt.pre R 5) := ⟨_, rfl⟩
  have HP := Lib.hid (show ∀ s, s ∈ P → s ∈ Pt.pre R 5 from fun s h => Pt.mem_srt.1 (hP ▸ h))
  rw [← hP] at CO
  clear hP
  obtain ⟨q, hq⟩ : ∃ q, q = R.pos := ⟨_, rfl⟩
  rw [← hq] at QF CP hmod2 hd0 h12
  clear hq
  obtain ⟨K, hK⟩ : ∃ K, K = Pt.keysO o := ⟨_, rfl⟩
  have HK := Lib.hid hK
  obtain ⟨L, hL⟩ : ∃ L, L = K.length := ⟨_, rfl⟩
  have HL := Lib.hid hL
  have hL1 : L ≤ 1 := by rw [hL, hK]; exact KL.out
  clear hK hL KL
  have hz7 : ¬ q = 0 := by omega
  have hl7 : ¬ q < 1 := by omega
  clear hd0 hd00 h12
  have hmm := @run_makeMap Tryd.prog
  go_enter Tryd.func8, Tryd.ntmps8
  go_wp2_with fail
  refine (CP _).out.mono ?_
  rintro e w1 ⟨rfl, hb1⟩
  have HB1 := Lib.hid hb1
  clear hb1 CP
  go_wp2_with fail
  refine (CS _).out.mono ?_
  rintro e w2 ⟨v2, rfl, h2, hb2⟩
  have HB2 := Lib.hid (below_nxt HB1.out hb2)
  have H2 := Lib.hid h2
  clear hb2 h2 HB1 CS
  go_wp2_with fail
  refine (CV _).out.mono ?_
  rintro e w3 ⟨v3, rfl, h3, hb3⟩
  have HB3 := Lib.hid (below_nxt HB2.out hb3)
  have H23 := Lib.hid (H2.out.step hb3)
  have H3 := Lib.hid h3
  clear hb3 h3 HB2 H2 CV
  go_wp2_with fail
  refine (CO _).out.mono ?_
  rintro e w4 ⟨v4, rfl, h4, hb4⟩
  have HB4 := Lib.hid (below_nxt HB3.out hb4)
  have H24 := Lib.hid (H23.out.step hb4)
  have H34 := Lib.hid (H3.out.step hb4)
  have H4 := Lib.hid h4
  clear hb4 h4 HB3 H23 H3 CO
  obtain ⟨a2, e2, h2⟩ := H24.out.at
  rw [← HK.out, ← HL.out] at e2 h2
  subst e2
  have H2 := Lib.hid h2
  obtain ⟨a4, c4, e4, -, -⟩ := H4.out.at
  subst e4
  clear h2 H24
  go_wp2_with fail
  have M0 := MapT.new w4
  have B0 := (Below.refl w4.heap.size w4).alloc (Nat.le_refl _) (Obj.map #[] 0)
  have HM0 := Lib.hid (show Below w4.heap.size w4 (w4.alloc (Obj.map #[] 0)) ∧ MapT (w4.alloc (Obj.map #[] 0)) w4.heap.size 0 (K.take 0) from ⟨B0, by rw [List.take_zero]; exact M0⟩)
  clear M0 B0 hmm
  go_loopw [72] (fun s72 wr => ∃ i : Nat, i ≤ L ∧ s72 = .int .i64 (i : Int) ∧ Hid (Below w4.heap.size w4 wr ∧ MapT wr w4.heap.size i (K.take i))) (fun s72 _ => L - (intOf s72).toNat)
  case atStart => exact ⟨0, Nat.zero_le _, rfl, HM0⟩
  case round =>
    obtain ⟨i, hi, rfl, HMi⟩ := hrel
    clear HM0
    by_cases hil : i < L
    · obtain rfl : i = 0 := by omega
      obtain ⟨t, fr, bb, g, u, ho, hk, rfl, hg, q0, q1, q2, hu⟩ := H2.out (by omega)
      obtain ⟨f1, f2, f3, f4, f5, f6⟩ := PF.out t fr bb ho
      have HBr := Lib.hid HMi.out.1
      have c0 := (HBr.out.cell (p := ⟨g, 0, none⟩) hg).trans q0
      have c1 := (HBr.out.cell (p := ⟨g, 1, none⟩) hg).trans q1
      have c2 := (HBr.out.cell (p := ⟨g, 2, none⟩) hg).trans q2
      have HU := Lib.hid (show SeeS wr u fr from hu.step HBr.out)
      obtain ⟨au, cu, eu, hfl, -⟩ := hu.at
      have zfl : (fr.length : Int) ≤ 9223372036854775807 := by omega
      clear hfl
      subst eu
      have HVr := Lib.hid (show SeeS wr v3 vl from H34.out.step HBr.out)
      have F1 := Lib.hid f1
      have F2 := Lib.hid f2
      have F4 := Lib.hid f4
      have F5 := Lib.hid f5
      have F6 := Lib.hid f6
      have HKK := Lib.hid hk
      have HO := Lib.hid ho
      clear q0 q1 q2 hu f1 f2 f4 f5 f6 hk ho hg
      have f3i : ((fr.length : Int) == 0) = false := by simpa using f3
      clear f3
      have zi : (0 : Int) < (L : Int) := by omega
      have BX := Lib.hid ((Below.refl wr.heap.size wr).alloc (Nat.le_refl _) (.cells #[.string t, .slice au fr.length cu, .bool bb] 75))
      have CX := Lib.hid (show wr.heap.size < (wr.alloc (.cells #[.string t, .slice au fr.length cu, .bool bb] 75)).heap.size ∧ (wr.alloc (.cells #[.string t, .slice au fr.length cu, .bool bb] 75)).cell? ⟨wr.heap.size, 0, none⟩ = some (.string t) ∧ (wr.alloc (.cells #[.string t, .slice au fr.length cu, .bool bb] 75)).cell? ⟨wr.heap.size, 1, none⟩ = some (.slice au fr.length cu) from ⟨by simp, by simp, by simp⟩)
      go_wp2_with fail
      clear c0 c1 c2
      refine (CR t _).out.mono ?_
      rintro e w5 ⟨n, er, rfl, hr, hb5⟩
      obtain ⟨rfl, rfl⟩ := Pt.role_out hr F1.out F2.out
      have HB5 := Lib.hid (below_nxt BX.out hb5)
      have c0 := Lib.hid ((hb5.cell (p := ⟨wr.heap.size, 0, none⟩) CX.out.1).trans CX.out.2.1)
      have c1 := Lib.hid ((hb5.cell (p := ⟨wr.heap.size, 1, none⟩) CX.out.1).trans CX.out.2.2)
      have HL5 := Lib.hid (Nat.lt_of_lt_of_le CX.out.1 hb5.size)
      clear hb5 hr CX BX
      have p0 := c0.out
      have p1 := c1.out
      go_wp2_with fail
      clear p0 p1
      refine (contains_any v3 vl t w5 (HVr.out.step HB5.out)).mono ?_
      rintro e w6 ⟨b6, rfl, hbm, rfl⟩
      obtain rfl : b6 = false := by
        cases b6
        · rfl
        · exact absurd (hbm.1 rfl) F4.out
      clear hbm
      have p0 := c0.out
      have p1 := c1.out
      go_wp2_with fail
      clear p0 p1
      have HBX := Lib.hid (below_nxt HBr.out HB5.out)
      have HMX := Lib.hid (HMi.out.2.step HB5.out)
      have HUX := Lib.hid (HU.out.step HB5.out)
      clear HB5 HU HMi HBr HVr f3i
      go_loopw [104] (fun s104 wr => ∃ j : Nat, j ≤ fr.length ∧ s104 = .int .i64 (j : Int) ∧ Hid (Below w6.heap.size w6 wr)) (fun s104 _ => fr.length - (intOf s104).toNat)
      case atStart => exact ⟨0, Nat.zero_le _, rfl, Lib.hid (Below.refl _ _)⟩
      case round =>
        obtain ⟨j, hj, rfl, HBj⟩ := hrel
        by_cases hjl : j < fr.length
        · have zj : (j : Int) < (fr.length : Int) := by omega
          obtain ⟨a', c', e', -, hc'⟩ := (HUX.out.step HBj.out).at
          obtain ⟨rfl, -, rfl⟩ := Value.slice.inj e'
          obtain ⟨g2, off2, rfl, k0⟩ := hc' j hjl
          have HX2 := Lib.hid (F5.out _ (show fr.getD j ⟨#[]⟩ ∈ fr by rw [List.getD_eq_getElem?_getD, List.getElem?_eq_getElem hjl]; exact List.getElem_mem hjl))
          clear hc' e'
          generalize fr.getD j ⟨#[]⟩ = y at *
          go_wp2_with fail
          clear k0
          refine (CR y _).out.mono ?_
          rintro e w7 ⟨n, er, rfl, hr, hb7⟩
          obtain ⟨rfl, rfl⟩ := Pt.role_in hr HX2.out
          have HB7 := Lib.hid (below_nxt HBj.out hb7)
          clear hb7 hr HBj HX2
          go_wp2
          exact ⟨⟨j + 1, by omega, by first | rfl | go_num, HB7⟩, by simp [intOf]; omega⟩
        · obtain rfl : j = fr.length := by omega
          have p0 := cell_later HBj.out HL5.out c0.out
          have HMY := Lib.hid (HMX.out.step HBj.out)
          have HBY := Lib.hid (below_nxt HBX.out HBj.out)
          clear HBj
          have HT := Lib.hid (show t :: K.take 0 = K.take (0 + 1) by rw [HKK.out]; rfl)
          have HS6 := Lib.hid F6.out
          clear c0 c1 HL5 HBX HMX HUX F1 F2 F4 F5 HO HKK
          go_wp2_with (at_mapUpdate; refine wpList_putT rfl _ _ _ rfl w4.heap.size 0 _ t rfl HMY.out (by omega) rfl rfl (Nat.le_trans HS6.out (by unfold maxLen; omega)) ?_; intro w8 hM8 hg8; have HR8 := Lib.hid (show Below w4.heap.size w4 w8 ∧ MapT w8 w4.heap.size (0 + 1) (K.take (0 + 1)) from ⟨HBY.out.grown hg8 HBY.out.size (fun k hk => by cases hk; exact Nat.le_refl _), by rw [← HT.out]; exact hM8⟩); clear hM8 hg8)
          exact ⟨⟨0 + 1, by omega, by first | rfl | go_num, HR8⟩, by simp [intOf]; omega⟩
    · obtain rfl : i = L := by omega
      have HMK := Lib.hid (show MapT wr w4.heap.size i K by have := HMi.out.2; rw [List.take_of_length_le (by rw [HL.out]; exact Nat.le_refl _)] at this; exact this)
      have HBr := Lib.hid HMi.out.1
      obtain ⟨a', c', e', hpl, -⟩ := H4.out.at
      have zpl : (P.length : Int) ≤ 9223372036854775807 := by omega
      clear HMi H2 hpl e'
      go_wp2
      have hkn : K.length = i := HL.out.symm
      have HBi := Lib.hid (Below.refl wr.heap.size wr)
      obtain ⟨wk, hwk⟩ : ∃ wk, wk = wr := ⟨_, rfl⟩
      have HRK := Lib.hid (show Below w4.heap.size w4 wr ∧ MapT wr w4.heap.size i K from ⟨HBr.out, HMK.out⟩)
      clear hkn HBi hwk HBr HMK
      go_loopw [127] (fun s127 wr => ∃ j : Nat, j ≤ P.length ∧ s127 = .int .i64 (j : Int) ∧ Hid (Below w4.heap.size w4 wr ∧ MapT wr w4.heap.size i K)) (fun s127 _ => P.length - (intOf s127).toNat)
      case atStart => exact ⟨0, Nat.zero_le _, rfl, HRK⟩
      case round =>
        obtain ⟨j, hj, rfl, HRj⟩ := hrel
        by_cases hjl : j < P.length
        · have zj : (j : Int) < (P.length : Int) := by omega
          obtain ⟨a', c', e', -, hc'⟩ := (H4.out.step HRj.out.1).at
          obtain ⟨rfl, -, rfl⟩ := Value.slice.inj e'
          obtain ⟨g2, off2, rfl, k0⟩ := hc' j hjl
          have HX2 := Lib.hid (HP.out _ (show P.getD j ⟨#[]⟩ ∈ P by rw [List.getD_eq_getElem?_getD, List.getElem?_eq_getElem hjl]; exact List.getElem_mem hjl))
          clear hc' e'
          generalize P.getD j ⟨#[]⟩ = y at *
          obtain ⟨x1, x2, x3⟩ := QF.out y HX2.out
          rw [← HK.out] at x2
          have X1 := Lib.hid x1
          have X2 := Lib.hid x2
          have X3 := Lib.hid x3
          clear x1 x2 x3
          go_wp2_with fail
          clear k0
          refine (CR y _).out.mono ?_
          rintro e w7 ⟨n, er, rfl, hr, hb7⟩
          obtain rfl := Pt.pre_roleR HX2.out hr
          have HR7 := Lib.hid (show Below w4.heap.size w4 w7 ∧ MapT w7 w4.heap.size i K from ⟨below_nxt HRj.out.1 hb7, HRj.out.2.step hb7⟩)
          have HV7 := Lib.hid (H34.out.step HR7.out.1)
          have HRo := Lib.hid hr
          clear hb7 HRj hr
          go_wp2_with fail
          refine (contains_any v3 vl y w7 HV7.out).mono ?_
          rintro e w8 ⟨b8, rfl, hbm, rfl⟩
          have hlook := HR7.out.2.look (s := y) (Nat.le_trans X3.out (by unfold maxLen; omega))
          by_cases hn1 : n = 1
          · subst hn1
            obtain ⟨o1, o2⟩ := Pt.out_role HRo.out
            have X4 := Lib.hid (fun h1 => X2.out h1 o1 o2)
            clear o1 o2 HRo
            by_cases hq1 : 1 < q
            · have hmb : Pt.memB y K = !b8 := by
                have := X4.out hq1
                cases b8
                · exact Pt.memB_iff.2 (this.2 (fun h => by have := hbm.2 h; cases this))
                · have h2 : ¬ y ∈ K := fun h => this.1 h (hbm.1 rfl)
                  cases h' : Pt.memB y K
                  · rfl
                  · exact absurd (Pt.memB_iff.1 h') h2
              rw [hmb] at hlook
              clear hmb hbm X4
              cases b8
              · go_wp2
                exact ⟨⟨j + 1, by omega, by first | rfl | go_num, HR7⟩, by simp [intOf]; omega⟩
              · go_wp2
                exact ⟨⟨j + 1, by omega, by first | rfl | go_num, HR7⟩, by simp [intOf]; omega⟩
            · clear hbm X4 hlook
              cases b8
              · go_wp2
                exact ⟨⟨j + 1, by omega, by first | rfl | go_num, HR7⟩, by simp [intOf]; omega⟩
              · go_wp2
                exact ⟨⟨j + 1, by omega, by first | rfl | go_num, HR7⟩, by simp [intOf]; omega⟩
          · have hb8 : b8 = false := by
              cases b8
              · rfl
              · obtain ⟨o1, o2⟩ := X1.out (hbm.1 rfl)
                exact absurd (Pt.role_out HRo.out o1 o2).1 hn1
            subst hb8
            have zn : ((n : Int) == 1) = false := by simp; omega
            clear hbm hlook HRo
            by_cases hq1 : 1 < q
            · go_wp2
              exact ⟨⟨j + 1, by omega, by first | rfl | go_num, HR7⟩, by simp [intOf]; omega⟩
            · go_wp2
              exact ⟨⟨j + 1, by omega, by first | rfl | go_num, HR7⟩, by simp [intOf]; omega⟩
        · obtain rfl : j = P.length := by omega
          have HBz := Lib.hid (HB4.out.trans (HRj.out.1.mono HB4.out.size))
          clear HRj
          go_wp2_with fail
          refine (CA _ (HX.out.next HBz.out)).out.mono ?_
          rintro e w9 ⟨rfl, hb9⟩
          have HB9 := Lib.hid (below_nxt HBz.out hb9)
          clear hb9 CA
          go_wp2
          go_ret
          exact ⟨rfl, HB9.out⟩
theorem flows_card (k b : Int) (w : World) (hst : Lx w) (h0 : 0 ≤ k) (h1 : k ≤ 255) (h2 : 0 ≤ b) (h3 : b ≤ 255) :
    Calls Tryd.prog 8 #[.int .u8 k, .int .u8 b] w fun e w' => e = .returned (.bool true) ∧ Below w.heap.size w w' := by
  obtain ⟨k', rfl⟩ := Int.eq_ofNat_of_zero_le h0
  obtain ⟨b', rfl⟩ := Int.eq_ofNat_of_zero_le h2
  exact flows_any k' b' w (by omega) (by omega) hst
end Go.Proofs.YthjkcncfppndkaaDoor
