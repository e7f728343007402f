/- order and Order of package digraph. -/
import Derived.Test.YtkjhockppkdakaaDq
namespace Dg
theorem ix_some {n : Nat} {es : List (Nat × Nat)} {l : List Nat} {v : Nat} (h : pk n es l = some v) : ix n es l = v := by unfold ix; rw [h]
theorem ix_none {n : Nat} {es : List (Nat × Nat)} {l : List Nat} (h : pk n es l = none) : ix n es l = -1 := by unfold ix; rw [h]
end Dg
namespace Go.Proofs.Ytkjhockppkdakaa
open Go.RowKit Go.Shelf

def sLen : Value → Nat
  | .slice _ l _ => l
  | _ => 0
theorem RowI.setA {B A i : Nat} {e : TypeId} {w : World} {v x : Value} {l : List Int} (h : RowI B e w v l) (hA : A < B) : RowI B e (w.setCell ⟨A, i, none⟩ x) v l :=
  h.kept (grown_set (grown_refl w _)) (.inr fun he => by have := (World.ownsRow.lt h A he).1; omega)
theorem cI (ls : List Int) {W : World} {g : Nat} (h : ArrI W g ls) : ∀ j, j < ls.length → W.cell? ⟨g, 0 + j, none⟩ = some (.int .i64 (ls.getD j 0)) := fun j hj => by rw [Nat.zero_add]; exact (h.2 j hj).1

set_option maxHeartbeats 4000000 in
set_option maxRecDepth 100000 in
theorem dOrd_any (n : Nat) (es : List (Nat × Nat)) (nv : Value) (w : World) (hE : Dg.Ok n es) (hn : n ≤ 256) (he : es.length ≤ 4096) (hN : SeesL w nv (Dg.nbL n es)) :
    Calls Try.prog 56 #[nv] w fun e w' => ∃ u, e = .returned u ∧ SeesI w' u (Dg.ci (Dg.ordL n es)) ∧ Below w.heap.size w w' := by
  obtain ⟨i0, hi0, hz0, hz1, hz2⟩ := info_int
  obtain ⟨N, cap, rfl, hcap1, hcap2, hNlt, hNc⟩ := hN
  rw [Dg.nbL_len] at *
  have HNC := Lib.hid hNc
  have hmk := run_make_row' (P := Try.prog) 27 3 (.int .i64 0) 8 Try.underlying27 (by kernel_rfl) rfl .i64 .i64 n (by omega) (by omega)
  have BX := fun (W : World) (o : Obj) => (Below.refl W.heap.size W).alloc (Nat.le_refl _) o
  have A0 := ArrI.new w n 3
  have h00 : List.replicate n (0 : Int) = Dg.rm n (Dg.inc es 0 0) := Dg.ext_getD 0 (by simp [Dg.rm_len]) (fun i hi => by
    have hi' : i < n := by simpa using hi
    rw [Dg.rm_at _ hi', Dg.inc_zero]; simp [List.getD_eq_getElem?_getD, hi'])
  rw [h00] at A0
  have HA0 := Lib.hid A0
  have HL := Lib.hid (BX w (.cells (madeCells #[.int .i64 0] n) 3))
  have HE := Lib.hid hE
  clear hNc h00 A0 hE
  go_enter Try.func56, Try.ntmps56
  go_wp2
  go_loopw [17] (fun s17 wr => ∃ i : Nat, i ≤ n ∧ s17 = .int .i64 i ∧ ArrI wr w.heap.size (Dg.rm n (Dg.inc es i 0)) ∧ Hid (Below w.heap.size w wr)) (fun s17 _ => n - (intOf s17).toNat)
  case atStart => exact ⟨0, Nat.zero_le _, rfl, HA0.out, HL⟩
  case round =>
    clear HA0 HL hmk
    obtain ⟨i, hi, rfl, hA, HB⟩ := hrel
    have HAR := Lib.hid hA
    by_cases hin : i < n
    · obtain ⟨uv, n1, n2⟩ := HNC.out _ hin
      rw [Dg.nbL_at es hin] at n2
      obtain ⟨au, cu, rfl, hu1, hu2, hCu⟩ := n2.opened
      have n3 := (HB.out.cell (p := ⟨N, i, none⟩) hNlt).trans n1
      have HNX := Lib.hid (fun x => Dg.inc_next es i x)
      have HNB := Lib.hid (Dg.nb_ok HE.out i)
      clear hA n1 n2
      go_wp2
      go_loopw [23] (fun s23 wr => ∃ m : Nat, m ≤ (Dg.nb es i).length ∧ s23 = .int .i64 m ∧ ArrI wr w.heap.size (Dg.rm n (Dg.inc es i m)) ∧ Hid (Below w.heap.size w wr)) (fun s23 _ => (Dg.nb es i).length - (intOf s23).toNat)
      case atStart => exact ⟨0, Nat.zero_le _, rfl, HAR.out, HB⟩
      case round =>
        clear HAR HB n3
        obtain ⟨m, hm, rfl, hA, HB⟩ := hrel
        have HAR := Lib.hid hA
        by_cases hml : m < (Dg.nb es i).length
        · obtain ⟨b, off, rfl, hb, c1⟩ := hCu.at HB.out hml
          obtain ⟨u, hu, hun⟩ := HNB.out _ (Dg.getD_mem (d := 0) hml)
          rw [hu] at c1
          obtain ⟨a1, a2⟩ := hA.2 u (by rw [Dg.rm_len]; exact hun)
          rw [Dg.rm_at _ hun] at a1
          have hbd := Dg.inc_bound (es := es) i m u he
          have HA2 : Hid (ArrI (wr.setCell ⟨w.heap.size, u, none⟩ (.int .i64 (Dg.inc es i m u + 1))) w.heap.size (Dg.rm n (Dg.inc es i (m + 1)))) := Lib.hid (by
            have h := HAR.out.put (i := u) (by rw [Dg.rm_len]; exact hun) (Dg.inc es i m u + 1)
            rw [Dg.rm_set _ hun, Dg.rm_congr (fun y _ => (Dg.inc_step hml hu y).symm)] at h
            exact h)
          have HB2 := Lib.hid (HB.out.setCell (p := ⟨w.heap.size, u, none⟩) (Nat.le_refl _) (.int .i64 (Dg.inc es i m u + 1)))
          clear hA hu HNX HAR
          generalize Dg.inc es i m u = k at *
          go_wp2
          exact ⟨⟨m + 1, by omega, by first | rfl | go_num, HA2.out, HB2⟩, by simp [intOf]; omega⟩
        · obtain rfl : m = (Dg.nb es i).length := by omega
          have HA2 : Hid (ArrI wr w.heap.size (Dg.rm n (Dg.inc es (i + 1) 0))) := Lib.hid (by rw [Dg.rm_congr (fun y _ => HNX.out y)]; exact HAR.out)
          clear hA HNX HAR hCu
          go_wp2
          exact ⟨⟨i + 1, by omega, by first | rfl | go_num, HA2.out, HB⟩, by simp [intOf]; omega⟩
    · obtain rfl : n = i := by omega
      have HA1 : Hid (ArrI wr w.heap.size (Dg.rm n (Dg.wt es []))) := Lib.hid (by rw [← Dg.rm_congr (fun y _ => Dg.inc_all HE.out y)]; exact HAR.out)
      have CI := fun W l (h : ArrI W w.heap.size (Dg.rm n (Dg.wt es l))) => Lib.hid (Try.slices_Index_int w.heap.size 0 n n (Dg.rm n (Dg.wt es l)) 0 W (by rw [Dg.rm_len]; exact Nat.le_refl _) (by omega) (cI _ h))
      simp only [Dg.idx_rm] at CI
      clear hA HAR
      have HOK := Lib.hid (Dg.ords_ok n es)
      go_wp2_with fail
      refine ((CI _ _ HA1.out).out).mono ?_
      rintro e w1 ⟨rfl, rfl⟩
      go_wp2
      go_loopw [8, 9] (fun s8 s9 wr => ∃ j : Nat, (Dg.ords n es j).length = j ∧ s9 = .int .i64 (Dg.ix n es (Dg.ords n es j)) ∧ RowI (w.heap.size + 1) 3 wr s8 (Dg.ci (Dg.ords n es j)) ∧ ArrI wr w.heap.size (Dg.rm n (Dg.wt es (Dg.ords n es j))) ∧ Hid (Below w.heap.size w wr)) (fun s8 _ _ => n - sLen s8)
      case atStart => exact ⟨0, rfl, rfl, RowI.nil _ _ _, HA1.out, HB⟩
      case round =>
        clear HA1 HB
        obtain ⟨j, hj, rfl, hR, hA, HB⟩ := hrel
        obtain ⟨ra, rc, rfl⟩ := hR.form
        have HR := Lib.hid hR
        have HAR := Lib.hid hA
        have hjl := (HOK.out j).len_n
        rw [hj] at hjl
        rw [Dg.ci_len, hj]
        have HJL := Lib.hid hj
        cases hp : Dg.pk n es (Dg.ords n es j) with
        | none =>
          rw [Dg.ix_none hp]
          have HO := Lib.hid (Dg.ordL_none hjl hp)
          have HS := Lib.hid hR.sees
          rw [Dg.ci_len, hj] at HS
          clear hR hA hp hj
          go_wp2
          exact bodyPost_ret (v := .slice ra j rc) (by simp [results, Try.results56, go_sem]) rfl ⟨_, rfl, by rw [HO.out]; exact HS.out, HB.out⟩
        | some v =>
          rw [Dg.ix_some hp]
          obtain ⟨hvn, ⟨hv1, hv2⟩, -⟩ := Dg.pk_some.1 hp
          have HV := Lib.hid (And.intro hv1 hv2)
          have HSN := Lib.hid (Dg.ords_some hp)
          have HOJ := Lib.hid ((HOK.out j).closed)
          have HOK1 := HOK.out (j + 1)
          obtain ⟨uv, n1, n2⟩ := HNC.out _ hvn
          rw [Dg.nbL_at es hvn] at n2
          obtain ⟨au, cu, rfl, hu1, hu2, hCu⟩ := n2.opened
          have N1 := Lib.hid n1
          have hj1 : j + 1 ≤ n := by
            have := HOK1.len_n
            rw [HSN.out, List.length_append, HJL.out] at this
            simpa using this
          have HNB := Lib.hid (Dg.nb_ok HE.out v)
          have hRs := HR.out
          rw [Dg.ci_len, HJL.out] at hRs
          have HRs := Lib.hid hRs
          clear hR hA hp hj hv1 hv2 n1 n2 HOK1 hRs
          go_wp2_with (at_builtin; refine wpList_append_int rfl _ _ 27 rfl 3 i0 Try.underlying27 hi0 hz0 hz1 hz2 _ _ (Dg.ci (Dg.ords n es j)) [(v : Int)] rfl rfl (w.heap.size + 1) (HRs.out.step ((Below.refl _ _).alloc (Nat.le_refl _) _)) (SeesI.one _ _ _) (by rw [Dg.ci_len, HJL.out]; simp; omega) (by simp; have := HAR.out.1; omega) ?_; intro a5 p5 w5 hr5 hg5 ho5; have hb5 := RowI.belowOwn (C := w.heap.size + 1) (HRs.out.step ((Below.refl _ _).alloc (Nat.le_refl _) _)) hg5 (by simp; have := HAR.out.1; omega) (Nat.le_refl _); rw [show (Dg.ci (Dg.ords n es j)).length + [(v : Int)].length = j + 1 by rw [Dg.ci_len, HJL.out]; rfl] at *; have HA5 := Lib.hid ((HAR.out.step ((Below.refl wr.heap.size wr).alloc (Nat.le_refl _) (.cells #[.int .i64 (v : Int)] 3))).below (Nat.lt_succ_self _) hb5); have HB5 := Lib.hid ((HB.out.alloc HB.out.size (.cells #[.int .i64 (v : Int)] 3)).trans (hb5.mono (Nat.le_succ _))); have HR5 := Lib.hid hr5; obtain ⟨a1, a2⟩ := HA5.out.2 v (by rw [Dg.rm_len]; exact hvn); have HB6 := Lib.hid (HB5.out.setCell (p := ⟨w.heap.size, v, none⟩) (Nat.le_refl _) (.int .i64 (-1))); have n3 := (HB6.out.cell (p := ⟨N, v, none⟩) hNlt).trans N1.out; clear hr5 hg5 ho5 hb5)
          have HA6 : Hid (ArrI (w5.setCell ⟨w.heap.size, v, none⟩ (.int .i64 (-1))) w.heap.size (Dg.rm n (Dg.dec es (Dg.ords n es j) v 0))) := Lib.hid (by
            have h := HA5.out.put (i := v) (by rw [Dg.rm_len]; exact hvn) (-1)
            rw [Dg.rm_set _ hvn, Dg.rm_congr (fun y _ => (Dg.dec_zero es (Dg.ords n es j) v y).symm)] at h
            exact h)
          have HR6 : Hid (RowI (w.heap.size + 1) 3 (w5.setCell ⟨w.heap.size, v, none⟩ (.int .i64 (-1))) (.slice a5 (j + 1) p5) (Dg.ci (Dg.ords n es (j + 1)))) := Lib.hid (by
            rw [HSN.out, Dg.ci_append]
            exact HR5.out.setA (Nat.lt_succ_self _))
          have HDA : Hid (Dg.rm n (Dg.dec es (Dg.ords n es j) v (Dg.nb es v).length) = Dg.rm n (Dg.wt es (Dg.ords n es (j + 1)))) := Lib.hid (by rw [HSN.out]; exact Dg.rm_congr fun y _ => Dg.dec_all HV.out.1 y)
          clear HA5 HB5 HR5 a1 a2 n3 HR HRs HAR
          go_loopw [53] (fun s53 wr => ∃ m : Nat, m ≤ (Dg.nb es v).length ∧ s53 = .int .i64 m ∧ ArrI wr w.heap.size (Dg.rm n (Dg.dec es (Dg.ords n es j) v m)) ∧ RowI (w.heap.size + 1) 3 wr (.slice a5 (j + 1) p5) (Dg.ci (Dg.ords n es (j + 1))) ∧ Hid (Below w.heap.size w wr)) (fun s53 _ => (Dg.nb es v).length - (intOf s53).toNat)
          case atStart => exact ⟨0, Nat.zero_le _, rfl, HA6.out, HR6.out, HB6⟩
          case round =>
            clear HA6 HR6 HB6 HB
            obtain ⟨m, hm, rfl, hA, hR, HB⟩ := hrel
            have HAR := Lib.hid hA
            have HR := Lib.hid hR
            by_cases hml : m < (Dg.nb es v).length
            · obtain ⟨b, off, rfl, hb, c1⟩ := hCu.at HB.out hml
              have hum := Dg.getD_mem (d := (0 : Int)) hml
              obtain ⟨u, hu, hun⟩ := HNB.out _ hum
              have hue : (v, u) ∈ es := by
                obtain ⟨u2, h1, h2⟩ := Dg.nb_mem.1 hum
                have : u = u2 := by omega
                rw [this]; exact h2
              have hul : u ∉ Dg.ords n es j := fun h => HV.out.1 (HOJ.out u h v hue)
              have huv : u ≠ v := fun h => HV.out.1 (HV.out.2 v (by rw [h] at hue; exact hue))
              rw [hu] at c1
              obtain ⟨a1, a2⟩ := hA.2 u (by rw [Dg.rm_len]; exact hun)
              rw [Dg.rm_at _ hun] at a1
              have hbd := Dg.dec_bound (es := es) (Dg.ords n es j) v m u he
              have HA2 : Hid (ArrI (wr.setCell ⟨w.heap.size, u, none⟩ (.int .i64 (Dg.dec es (Dg.ords n es j) v m u - 1))) w.heap.size (Dg.rm n (Dg.dec es (Dg.ords n es j) v (m + 1)))) := Lib.hid (by
                have h := HAR.out.put (i := u) (by rw [Dg.rm_len]; exact hun) (Dg.dec es (Dg.ords n es j) v m u - 1)
                rw [Dg.rm_set _ hun, Dg.rm_congr (fun y _ => (Dg.dec_step hml hu hul huv y).symm)] at h
                exact h)
              have HB2 := Lib.hid (HB.out.setCell (p := ⟨w.heap.size, u, none⟩) (Nat.le_refl _) (.int .i64 (Dg.dec es (Dg.ords n es j) v m u - 1)))
              have HR2 := Lib.hid (HR.out.setA (A := w.heap.size) (i := u) (x := .int .i64 (Dg.dec es (Dg.ords n es j) v m u - 1)) (Nat.lt_succ_self _))
              clear hA hR hu HAR HR hum hue hul huv HDA HV HOJ HSN
              generalize Dg.dec es (Dg.ords n es j) v m u = k at *
              go_wp2
              exact ⟨⟨m + 1, by omega, by first | rfl | go_num, HA2.out, HR2.out, HB2⟩, by simp [intOf]; omega⟩
            · obtain rfl : m = (Dg.nb es v).length := by omega
              rw [HDA.out] at hA
              have CIj := Lib.hid (CI _ _ hA)
              have HL1 : Hid ((Dg.ords n es (j + 1)).length = j + 1) := Lib.hid (by rw [HSN.out, List.length_append, HJL.out]; rfl)
              have HA7 := Lib.hid hA
              clear hA hR HAR hCu CI HV HOJ HSN HDA
              go_wp2_with fail
              refine (CIj.out.out).mono ?_
              rintro e w7 ⟨rfl, rfl⟩
              go_wp2
              exact ⟨⟨j + 1, HL1.out, rfl, HR.out, HA7.out, HB⟩, by show n - (j + 1) < n - j; omega⟩

set_option maxHeartbeats 4000000 in
set_option maxRecDepth 100000 in
theorem dOrder_ok (n : Nat) (es : List (Nat × Nat)) (v : Value) (w : World) (hE : Dg.Ok n es) (hn : n ≤ 256) (he : es.length ≤ 4096) (hv : SeesE w v (Dg.cst es)) :
    Calls Try.prog 27 #[.agg #[.int .i64 n, v]] w fun e w' => Below w.heap.size w w' ∧ ((∃ u, (Dg.ordL n es).length = n ∧ e = .returned (.tuple #[u, .int .i64 0]) ∧ SeesI w' u (Dg.ci (Dg.ordL n es))) ∨ ((Dg.ordL n es).length < n ∧ e = .returned (.tuple #[.slice none 0 0, .int .i64 20]))) := by
  have CK := fun W h => Lib.hid (dChk_any n v (Dg.cst es) W h)
  rw [Dg.ok_chk (by omega) (by omega) hE] at CK
  have CN := fun W h => Lib.hid (dNb_any n v es W (by omega) (by omega) hE h)
  have CO := fun nv W h => Lib.hid (dOrd_any n es nv W hE hn he h)
  have HLE := Lib.hid ((Dg.ords_ok n es n).len_n)
  have HV := Lib.hid hv
  obtain ⟨ao, cap, rfl⟩ := hv.slice
  obtain ⟨P0, L0, z0⟩ := gph_new w n (.slice ao (Dg.cst es).length cap) 24
  generalize hX : w.alloc (.cells #[.int .i64 n, .slice ao (Dg.cst es).length cap] 24) = X at *
  obtain ⟨p0, p1, p2⟩ := id P0
  have HL := Lib.hid L0
  clear hv L0 z0 hE
  go_enter Try.func27, Try.ntmps27
  go_wp2_with fail
  refine ((CK _ (HV.out.step HL.out)).out).mono ?_
  rintro e w1 ⟨rfl, hb⟩
  have HB1 := Lib.hid (below_nxt HL.out hb)
  have P1 := P0.step hb
  obtain ⟨p0', q1, q2⟩ := id P1
  clear hb p1 p2 p0
  go_wp2_with fail
  refine ((CN _ (HV.out.step HB1.out)).out).mono ?_
  rintro e w2 ⟨nv, rfl, hs2, hb⟩
  have HB2 := Lib.hid (below_nxt HB1.out hb)
  have P2 := P1.step hb
  have HS2 := Lib.hid hs2
  clear hb hs2
  go_wp2_with fail
  refine ((CO _ _ HS2.out).out).mono ?_
  rintro e w3 ⟨u, rfl, hs3, hb⟩
  have HB3 := Lib.hid (below_nxt HB2.out hb)
  obtain ⟨p0'', r1, r2⟩ := P2.step hb
  have HS3 := Lib.hid hs3
  obtain ⟨au, cu, rfl, hcu, hcu2, -⟩ := hs3.opened
  rw [Dg.ci_len] at *
  have hle : (Dg.ordL n es).length ≤ n := HLE.out
  have HC : Hid (SeesI w3 (.slice au (Dg.ordL n es).length cu) (Dg.ci (Dg.ordL n es))) := HS3
  clear hb hs3 q1 q2 P0 P1 P2 HS3 HLE CK CN CO
  by_cases hl : (Dg.ordL n es).length < n
  · go_wp2
    exact bodyPost_ret (v := .tuple #[.slice none 0 0, .int .i64 20]) (by simp [results, Try.results27, go_sem]) rfl ⟨HB3.out, .inr ⟨hl, rfl⟩⟩
  · go_wp2
    exact bodyPost_ret (v := .tuple #[.slice au (Dg.ordL n es).length cu, .int .i64 0]) (by simp [results, Try.results27, go_sem]) rfl ⟨HB3.out, .inl ⟨_, by omega, rfl, HC.out⟩⟩
end Go.Proofs.Ytkjhockppkdakaa
