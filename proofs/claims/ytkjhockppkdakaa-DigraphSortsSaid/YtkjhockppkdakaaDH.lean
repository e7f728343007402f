/- Layers of package digraph. -/
import Derived.Test.YtkjhockppkdakaaDG
import Derived.Test.YtkjhockppkdakaaDP
namespace Dg
/-- The edges that Layers has taken. -/
def Sx (es : List (Nat × Nat)) (l : List Nat) (i m : Nat) (u x : Nat) : Prop := (u, x) ∈ es ∧ (u ∈ l.take i ∨ (u = l.getD i 0 ∧ (x : Int) ∈ (nb es u).take m))
theorem Sx.start {es : List (Nat × Nat)} {l : List Nat} {u x : Nat} (h : Sx es l 0 0 u x) : False := by
  rcases h.2 with h | ⟨_, h⟩ <;> simp at h
theorem Sx.step {es : List (Nat × Nat)} {l : List Nat} {i m w : Nat} (hm : m < (nb es (l.getD i 0)).length) (hw : (nb es (l.getD i 0)).getD m 0 = w) {u x : Nat} (h : Sx es l i (m + 1) u x) : Sx es l i m u x ∨ (u = l.getD i 0 ∧ x = w) := by
  obtain ⟨he, h | ⟨rfl, h⟩⟩ := h
  · exact .inl ⟨he, .inl h⟩
  · rw [take_at 0 hm, List.mem_append, List.mem_singleton, hw] at h
    rcases h with h | h
    · exact .inl ⟨he, .inr ⟨rfl, h⟩⟩
    · exact .inr ⟨rfl, by omega⟩
theorem Sx.next {es : List (Nat × Nat)} {l : List Nat} {i : Nat} (hi : i < l.length) {u x : Nat} (h : Sx es l (i + 1) 0 u x) : Sx es l i (nb es (l.getD i 0)).length u x := by
  obtain ⟨he, h | ⟨_, h⟩⟩ := h
  · rw [take_at 0 hi, List.mem_append, List.mem_singleton] at h
    rcases h with h | rfl
    · exact ⟨he, .inl h⟩
    · exact ⟨he, .inr ⟨rfl, by rw [List.take_length]; exact nb_mem.2 ⟨x, rfl, he⟩⟩⟩
  · simp at h
theorem Sx.all {n : Nat} {es : List (Nat × Nat)} (hE : Ok n es) (hF : (ordL n es).length = n) {u x : Nat} (he : (u, x) ∈ es) : Sx es (ordL n es) n 0 u x := by
  obtain ⟨i, hi, h⟩ := full_all hF (hE _ he).1
  refine ⟨he, .inl ?_⟩
  rw [List.take_of_length_le (by omega)]
  show u ∈ ordL n es
  rw [← (show (ordL n es).getD i 0 = u from h)]
  exact getD_mem (by omega)
end Dg
namespace Go.Proofs.Ytkjhockppkdakaa
open Go.RowKit Go.Shelf

theorem NbrI.elem {e : TypeId} {w : World} {N v len cap m : Nat} {us : List Value} {L : List (List Int)} {ao : Option Addr} (h : NbrI e w N us L) (hv : v < L.length) (hu : us.getD v (.slice none 0 0) = .slice ao len cap) (hm : m < (L.getD v []).length) :
    ∃ b off, ao = some ⟨b, off, none⟩ ∧ w.cell? ⟨b, off + m, none⟩ = some (.int .i64 ((L.getD v []).getD m 0)) := by
  rcases (h.row v hv).sees with ⟨_, h0⟩ | ⟨b, off, cap', h1, _, _, _, h4⟩
  · rw [h0] at hm; simp at hm
  · rw [hu] at h1
    simp only [Value.slice.injEq] at h1
    exact ⟨b, off, h1.1, h4 m hm⟩

set_option maxHeartbeats 4000000 in
set_option maxRecDepth 100000 in
theorem dLayers_ok (n : Nat) (es : List (Nat × Nat)) (v : Value) (w : World) (hE : Dg.Ok n es) (hn : n ≤ 256) (he : es.length ≤ 4096) (hv : SeesE w v (Dg.cst es)) :
    Calls Try.prog 29 #[.agg #[.int .i64 n, v]] w fun e w' => Below w.heap.size w w' ∧ ((∃ u L, (Dg.ordL n es).length = n ∧ Dg.Top n es L ∧ e = .returned (.tuple #[u, .int .i64 0]) ∧ SeesI w' u L) ∨ ((Dg.ordL n es).length < n ∧ e = .returned (.tuple #[.slice none 0 0, .int .i64 20]))) := by
  have CO := fun W h => Lib.hid (dOrder_ok n es v W hE hn he h)
  have CN := fun W h => Lib.hid (dNb_row n v es W (by omega) (by omega) hE h)
  have hmk := run_make_row' (P := Try.prog) 27 3 (.int .i64 0) 8 Try.underlying27 (by kernel_rfl) rfl .i64 .i64 n (by omega) (by omega)
  have HV := Lib.hid hv
  obtain ⟨ao, cap, rfl⟩ := hv.slice
  obtain ⟨P0, L0, z0⟩ := gph_new w n (.slice ao (Dg.cst es).length cap) 24
  generalize hX : w.alloc (.cells #[.int .i64 n, .slice ao (Dg.cst es).length cap] 24) = X at *
  obtain ⟨p0, p1, p2⟩ := id P0
  have HL := Lib.hid L0
  have HE := Lib.hid hE
  clear hv L0 z0 hE
  go_enter Try.func29, Try.ntmps29
  go_wp2_with fail
  refine ((CO _ (HV.out.step HL.out)).out).mono ?_
  rintro e w1 ⟨hb, ⟨u, hF, rfl, hs⟩ | ⟨hlt, rfl⟩⟩
  · have HB1 := Lib.hid (below_nxt HL.out hb)
    have P1 := P0.step hb
    obtain ⟨p0', q1, q2⟩ := id P1
    obtain ⟨au, cu, rfl, hcu, hcu2, hCu⟩ := hs.opened
    have HF := Lib.hid hF
    rw [Dg.ci_len, hF] at hcu ⊢
    have HD := Lib.hid (HB1.out.drew)
    have g1 : w1.drew.cell? ⟨w.heap.size, 0, none⟩ = some (.int .i64 n) := q1
    have g2 : w1.drew.cell? ⟨w.heap.size, 1, none⟩ = some (.slice ao (Dg.cst es).length cap) := q2
    have LM : Below w1.heap.size w1 (w1.alloc (.cells (madeCells #[.int .i64 0] n) 3)).drew := ((Below.refl _ _).alloc (Nat.le_refl _) _).drew
    have g3 := (LM.cell (p := ⟨w.heap.size, 0, none⟩) p0').trans q1
    have g4 := (LM.cell (p := ⟨w.heap.size, 1, none⟩) p0').trans q2
    have HM := Lib.hid (below_nxt HB1.out LM)
    have HLM := Lib.hid LM
    have HA1 : Hid (ArrI (w1.alloc (.cells (madeCells #[.int .i64 0] n) 3)).drew w1.heap.size (List.replicate n 0)) := Lib.hid ((ArrI.new w1 n 3).step (Below.refl _ _).drew)
    clear hb p1 p2 p0 hs hF CO LM hX
    go_wp2_with fail
    go_region_held3 (fun W => W.cell? ⟨w.heap.size, 0, none⟩ = some (.int .i64 n) ∧ W.cell? ⟨w.heap.size, 1, none⟩ = some (.slice ao (Dg.cst es).length cap))
      (first | (refine ⟨?_, ?_⟩ <;> with_reducible assumption) | (go_split_ands; refine ⟨?_, ?_⟩ <;> with_reducible assumption))
      (first
        | (go_at_call 47; (with_reducible refine ((CN _ (HV.out.step HD.out)).out).mono ?_); rintro e w2 ⟨⟨us, rfl, hN⟩, hb⟩; have HOW : Hid (0 < 1) := Lib.hid (by omega); have HN := Lib.hid hN; have HC2 := Lib.hid hb; have hz2 := Nat.lt_of_lt_of_le (show w.heap.size < w1.drew.heap.size from p0') hb.size; have k1 := (hb.cell (p := ⟨w.heap.size, 0, none⟩) p0').trans g1; have k2 := (hb.cell (p := ⟨w.heap.size, 1, none⟩) p0').trans g2; have LM2 := (Below.refl w2.heap.size w2).alloc (Nat.le_refl _) (.cells (madeCells #[.int .i64 0] n) 3); have k3 := (LM2.cell (p := ⟨w.heap.size, 0, none⟩) hz2).trans k1; have k4 := (LM2.cell (p := ⟨w.heap.size, 1, none⟩) hz2).trans k2; clear hb hN LM2)
        | (go_at_call 47; (with_reducible refine ((CN _ (HV.out.step HM.out)).out).mono ?_); rintro e w2 ⟨⟨us, rfl, hN⟩, hb⟩; have HN := Lib.hid hN; have HC2 := Lib.hid hb; have hz2 : w.heap.size < (w1.alloc (.cells (madeCells #[.int .i64 0] n) 3)).drew.heap.size := Nat.lt_of_lt_of_le p0' HLM.out.size; have k1 := (hb.cell (p := ⟨w.heap.size, 0, none⟩) hz2).trans g3; have k2 := (hb.cell (p := ⟨w.heap.size, 1, none⟩) hz2).trans g4; clear hb hN))
    all_goals clear g1 g2 g3 g4 k1 k2 hmk
    · clear k3 k4
      have HBW : Hid (Below w.heap.size w (w2.alloc (.cells (madeCells #[.int .i64 0] n) 3))) := Lib.hid ((below_nxt HD.out HC2.out).alloc (below_nxt HD.out HC2.out).size _)
      have HW1 : Hid (Below w1.heap.size w1 (w2.alloc (.cells (madeCells #[.int .i64 0] n) 3))) := Lib.hid ((((Below.refl w1.heap.size w1).drew).trans HC2.out).alloc HC2.out.size _)
      have HA : Hid (ArrI (w2.alloc (.cells (madeCells #[.int .i64 0] n) 3)) w2.heap.size (List.replicate n 0)) := Lib.hid (ArrI.new w2 n 3)
      have hAp : ∀ i, i < (Dg.nbL n es).length → (us.getD i (.slice none 0 0)).ownBlock ≠ some w2.heap.size := fun i hi e => by have := (World.ownsRow.lt (HN.out.row i hi) _ e).2; omega
      have hAN : w2.heap.size ≠ w1.heap.size + 1 := fun e => by have h : w1.heap.size + 1 < w2.heap.size := HN.out.lt; omega
      have hAw : w.heap.size ≤ w2.heap.size := Nat.le_of_lt hz2
      have hAw1 : w1.heap.size ≤ w2.heap.size := HC2.out.size
      have HN' : Hid (NbrI 3 (w2.alloc (.cells (madeCells #[.int .i64 0] n) 3)) (w1.heap.size + 1) us (Dg.nbL n es)) := Lib.hid (HN.out.below ((Below.refl w2.heap.size w2).alloc (Nat.le_refl _) _))
      clear HN HC2 HA1 HM HLM HD hz2
      generalize w2.alloc (.cells (madeCells #[.int .i64 0] n) 3) = W0 at *
      generalize w2.heap.size = A at *
      have HN := HN'
      clear HN'
      have HBG := Lib.hid (fun wr (hg : W0.grownBy wr (some A)) => HW1.out.grown hg HW1.out.size (fun k hk => by cases hk; exact hAw1))
      have HSX := Lib.hid (fun i (hi : i < n) => Dg.full_at HF.out hi)
      have HLT := Lib.hid (fun (x k : Nat) (hx : x < n) (h : Dg.wk es k x = true) => Dg.full_lt HF.out hx h)
      have HTOP := Lib.hid (fun (L : List Int) (h : Dg.Prt n es (Dg.Sx es (Dg.ordL n es) n 0) L) => h.top (fun u x he => Dg.Sx.all HE.out HF.out he))
      have HSN := Lib.hid (fun i (hi : i < n) u x => @Dg.Sx.next es (Dg.ordL n es) i (by rw [HF.out]; exact hi) u x)
      have HOL := Lib.hid HF.out
      have hwz : w1.heap.size ≤ W0.heap.size := HW1.out.size
      go_wp2
      go_loopw [27] (fun s27 wr => ∃ (i : Nat) (L : List Int), i ≤ n ∧ s27 = .int .i64 i ∧ ArrI wr A L ∧ Dg.Prt n es (Dg.Sx es (Dg.ordL n es) i 0) L ∧ Hid (W0.grownBy wr (some A))) (fun s27 _ => n - (intOf s27).toNat)
      case atStart => exact ⟨0, _, Nat.zero_le _, rfl, HA.out, (Dg.Prt.zero n es).less (fun u x h => h.start.elim), Lib.hid (grown_refl _ _)⟩
      case round =>
        obtain ⟨i, L, hi, rfl, hA, hP, HG⟩ := hrel
        have HAR := Lib.hid hA
        have HPR := Lib.hid hP
        by_cases hin : i < n
        · have HB1r := Lib.hid (HBG.out wr HG.out)
          obtain ⟨b, off, rfl, hb, c1⟩ := hCu.at HB1r.out (i := i) (by rw [Dg.ci_len, HOL.out]; exact hin)
          rw [Dg.ci_at] at c1
          obtain ⟨hv, -, hpre⟩ := HSX.out i hin
          have HPRE := Lib.hid hpre
          have HSNi := Lib.hid (HSN.out i hin)
          have HST := Lib.hid (fun m w (hm : m < (Dg.nb es ((Dg.ordL n es).getD i 0)).length) (hw : (Dg.nb es ((Dg.ordL n es).getD i 0)).getD m 0 = (w : Nat)) => fun u x => @Dg.Sx.step es (Dg.ordL n es) i m w hm hw u x)
          clear hpre hP hA
          generalize (Dg.ordL n es).getD i 0 = v at *
          have n1 := (HN.out.grown HG.out hAN hAp).cell v (by rw [Dg.nbL_len]; exact hv)
          have hrow := (HN.out.grown HG.out hAN hAp).row v (by rw [Dg.nbL_len]; exact hv)
          rw [Dg.nbL_at es hv] at hrow
          obtain ⟨ua, uc, hus⟩ := hrow.form
          rw [hus] at n1
          have HUS := Lib.hid hus
          have HNB := Lib.hid (Dg.nb_ok HE.out v)
          have HNE := Lib.hid (fun (x : Nat) (h : (x : Int) ∈ Dg.nb es v) => Dg.nb_mem.1 h)
          have hml : (Dg.nb es v).length ≤ 9223372036854775807 := by
            obtain ⟨_, cc, e1, e2, e3, _⟩ := hrow.sees.opened
            omega
          clear hrow hus
          go_wp2
          go_loopw [36] (fun s36 wr => ∃ (m : Nat) (L : List Int), m ≤ (Dg.nb es v).length ∧ s36 = .int .i64 m ∧ ArrI wr A L ∧ Dg.Prt n es (Dg.Sx es (Dg.ordL n es) i m) L ∧ Hid (W0.grownBy wr (some A))) (fun s36 _ => (Dg.nb es v).length - (intOf s36).toNat)
          case atStart => exact ⟨0, L, Nat.zero_le _, rfl, HAR.out, HPR.out, HG⟩
          case round =>
            clear HAR HPR HG n1 L HB1r c1
            obtain ⟨m, L, hm, rfl, hA, hP, HG⟩ := hrel
            have HAR := Lib.hid hA
            have HPR := Lib.hid hP
            by_cases hml2 : m < (Dg.nb es v).length
            · obtain ⟨b2, off2, rfl, c2⟩ := (HN.out.grown HG.out hAN hAp).elem (v := v) (by rw [Dg.nbL_len]; exact hv) HUS.out (m := m) (by rw [Dg.nbL_at es hv]; exact hml2)
              rw [Dg.nbL_at es hv] at c2
              obtain ⟨u, hu, hun⟩ := HNB.out _ (Dg.getD_mem (d := 0) hml2)
              have HUE : Hid ((v, u) ∈ es) := Lib.hid (by
                obtain ⟨u', e, he⟩ := HNE.out u (by rw [← hu]; exact Dg.getD_mem (d := 0) hml2)
                have : u = u' := by omega
                rw [this]; exact he)
              have HSTm := Lib.hid (HST.out m u hml2 hu)
              rw [hu] at c2
              obtain ⟨k, hk, hk1, hk2⟩ := hP.own hv (fun y hy => ⟨hy, .inl (HPRE.out y hy)⟩)
              obtain ⟨j, hj, hj1, -⟩ := hP.2 u hun
              have hkn := HLT.out v k hv hk1
              have hjn := HLT.out u j hun hj1
              have hLl := hP.1
              obtain ⟨a1, a2⟩ := hA.2 u (by rw [hLl]; exact hun)
              obtain ⟨a3, a4⟩ := hA.2 v (by rw [hLl]; exact hv)
              rw [hj] at a1
              rw [hk] at a3
              have HP2 := Lib.hid (hP.put hun HUE.out hk1 hk2 HSTm.out)
              have HA2 := Lib.hid ((hA.step (Below.refl wr.heap.size wr).drew).put (i := u) (by rw [hLl]; exact hun) (max (L.getD u 0) ((k : Int) + 1)))
              have HG2 := Lib.hid (grown_set (i := u) (v := .int .i64 (max (L.getD u 0) ((k : Int) + 1))) (grown_trans HG.out (grown_below (Below.refl wr.heap.size wr).drew)))
              rw [hj] at HP2 HA2 HG2
              clear hA hu HAR HSTm hk hj hk1 hk2 hj1 HPR hP
              go_wp2
              try go_region
              try go_wp2
              exact ⟨⟨m + 1, _, by omega, by first | rfl | go_num, HA2.out, HP2.out, HG2⟩, by simp [intOf]; omega⟩
            · obtain rfl : m = (Dg.nb es v).length := by omega
              clear hA hP
              go_wp2
              exact ⟨⟨i + 1, L, by omega, by first | rfl | go_num, HAR.out, HPR.out.less (fun u x h => HSNi.out u x h), HG⟩, by simp [intOf]; omega⟩
        · obtain rfl : n = i := by omega
          have HTP := Lib.hid (HTOP.out L hP)
          have hLl := hP.1
          have HSE := Lib.hid (hA.sees (cap := n) (by omega) (by unfold maxLen; omega))
          rw [hLl] at HSE
          clear hA hP
          go_wp2
          exact bodyPost_ret (v := .tuple #[.slice (some ⟨A, 0, none⟩) n n, .int .i64 0]) (by simp [results, Try.results29, go_sem]) rfl ⟨HBW.out.trans ((Below.refl _ W0).grown HG.out HBW.out.size (fun k hk => by cases hk; exact hAw)), .inl ⟨_, L, HOL.out, HTP.out, rfl, HSE.out⟩⟩
    · have HBW : Hid (Below w.heap.size w w2) := Lib.hid (below_nxt HM.out HC2.out)
      have HW1 : Hid (Below w1.heap.size w1 w2) := Lib.hid (HLM.out.trans (HC2.out.mono HLM.out.size))
      have hsz : (w1.alloc (.cells (madeCells #[.int .i64 0] n) 3)).drew.heap.size = w1.heap.size + 1 := by simp [World.drew]
      obtain ⟨A, hAe⟩ : ∃ A, w1.heap.size = A := ⟨_, rfl⟩
      have HA : Hid (ArrI w2 A (List.replicate n 0)) := Lib.hid (by rw [← hAe]; exact HA1.out.step HC2.out)
      have HN' : Hid (NbrI 3 w2 (A + 1 + 1) us (Dg.nbL n es)) := Lib.hid (by have h := HN.out; rw [hsz, hAe] at h; exact h)
      have hAp : ∀ i, i < (Dg.nbL n es).length → (us.getD i (.slice none 0 0)).ownBlock ≠ some A := fun i hi e => by have := (World.ownsRow.lt (HN'.out.row i hi) _ e).1; omega
      have hAN : A ≠ A + 1 + 1 := by omega
      have hAw : w.heap.size ≤ A := by have : w.heap.size < w1.heap.size := p0'; omega
      have HBG := Lib.hid (fun wr (hg : w2.grownBy wr (some A)) => HW1.out.grown hg HW1.out.size (fun k hk => by cases hk; omega))
      clear HN HC2 HA1 HM HLM HD hz2
      have HN := HN'
      clear HN' hsz
      simp only [hAe]
      clear hAe
      obtain ⟨W0, hW0⟩ : ∃ W, W = w2 := ⟨_, rfl⟩
      subst hW0
      have HSX := Lib.hid (fun i (hi : i < n) => Dg.full_at HF.out hi)
      have HLT := Lib.hid (fun (x k : Nat) (hx : x < n) (h : Dg.wk es k x = true) => Dg.full_lt HF.out hx h)
      have HTOP := Lib.hid (fun (L : List Int) (h : Dg.Prt n es (Dg.Sx es (Dg.ordL n es) n 0) L) => h.top (fun u x he => Dg.Sx.all HE.out HF.out he))
      have HSN := Lib.hid (fun i (hi : i < n) u x => @Dg.Sx.next es (Dg.ordL n es) i (by rw [HF.out]; exact hi) u x)
      have HOL := Lib.hid HF.out
      have hwz : w1.heap.size ≤ W0.heap.size := HW1.out.size
      go_wp2
      go_loopw [27] (fun s27 wr => ∃ (i : Nat) (L : List Int), i ≤ n ∧ s27 = .int .i64 i ∧ ArrI wr A L ∧ Dg.Prt n es (Dg.Sx es (Dg.ordL n es) i 0) L ∧ Hid (W0.grownBy wr (some A))) (fun s27 _ => n - (intOf s27).toNat)
      case atStart => exact ⟨0, _, Nat.zero_le _, rfl, HA.out, (Dg.Prt.zero n es).less (fun u x h => h.start.elim), Lib.hid (grown_refl _ _)⟩
      case round =>
        obtain ⟨i, L, hi, rfl, hA, hP, HG⟩ := hrel
        have HAR := Lib.hid hA
        have HPR := Lib.hid hP
        by_cases hin : i < n
        · have HB1r := Lib.hid (HBG.out wr HG.out)
          obtain ⟨b, off, rfl, hb, c1⟩ := hCu.at HB1r.out (i := i) (by rw [Dg.ci_len, HOL.out]; exact hin)
          rw [Dg.ci_at] at c1
          obtain ⟨hv, -, hpre⟩ := HSX.out i hin
          have HPRE := Lib.hid hpre
          have HSNi := Lib.hid (HSN.out i hin)
          have HST := Lib.hid (fun m w (hm : m < (Dg.nb es ((Dg.ordL n es).getD i 0)).length) (hw : (Dg.nb es ((Dg.ordL n es).getD i 0)).getD m 0 = (w : Nat)) => fun u x => @Dg.Sx.step es (Dg.ordL n es) i m w hm hw u x)
          clear hpre hP hA
          generalize (Dg.ordL n es).getD i 0 = v at *
          have n1 := (HN.out.grown HG.out hAN hAp).cell v (by rw [Dg.nbL_len]; exact hv)
          have hrow := (HN.out.grown HG.out hAN hAp).row v (by rw [Dg.nbL_len]; exact hv)
          rw [Dg.nbL_at es hv] at hrow
          obtain ⟨ua, uc, hus⟩ := hrow.form
          rw [hus] at n1
          have HUS := Lib.hid hus
          have HNB := Lib.hid (Dg.nb_ok HE.out v)
          have HNE := Lib.hid (fun (x : Nat) (h : (x : Int) ∈ Dg.nb es v) => Dg.nb_mem.1 h)
          have hml : (Dg.nb es v).length ≤ 9223372036854775807 := by
            obtain ⟨_, cc, e1, e2, e3, _⟩ := hrow.sees.opened
            omega
          clear hrow hus
          go_wp2
          go_loopw [36] (fun s36 wr => ∃ (m : Nat) (L : List Int), m ≤ (Dg.nb es v).length ∧ s36 = .int .i64 m ∧ ArrI wr A L ∧ Dg.Prt n es (Dg.Sx es (Dg.ordL n es) i m) L ∧ Hid (W0.grownBy wr (some A))) (fun s36 _ => (Dg.nb es v).length - (intOf s36).toNat)
          case atStart => exact ⟨0, L, Nat.zero_le _, rfl, HAR.out, HPR.out, HG⟩
          case round =>
            clear HAR HPR HG n1 L HB1r c1
            obtain ⟨m, L, hm, rfl, hA, hP, HG⟩ := hrel
            have HAR := Lib.hid hA
            have HPR := Lib.hid hP
            by_cases hml2 : m < (Dg.nb es v).length
            · obtain ⟨b2, off2, rfl, c2⟩ := (HN.out.grown HG.out hAN hAp).elem (v := v) (by rw [Dg.nbL_len]; exact hv) HUS.out (m := m) (by rw [Dg.nbL_at es hv]; exact hml2)
              rw [Dg.nbL_at es hv] at c2
              obtain ⟨u, hu, hun⟩ := HNB.out _ (Dg.getD_mem (d := 0) hml2)
              have HUE : Hid ((v, u) ∈ es) := Lib.hid (by
                obtain ⟨u', e, he⟩ := HNE.out u (by rw [← hu]; exact Dg.getD_mem (d := 0) hml2)
                have : u = u' := by omega
                rw [this]; exact he)
              have HSTm := Lib.hid (HST.out m u hml2 hu)
              rw [hu] at c2
              obtain ⟨k, hk, hk1, hk2⟩ := hP.own hv (fun y hy => ⟨hy, .inl (HPRE.out y hy)⟩)
              obtain ⟨j, hj, hj1, -⟩ := hP.2 u hun
              have hkn := HLT.out v k hv hk1
              have hjn := HLT.out u j hun hj1
              have hLl := hP.1
              obtain ⟨a1, a2⟩ := hA.2 u (by rw [hLl]; exact hun)
              obtain ⟨a3, a4⟩ := hA.2 v (by rw [hLl]; exact hv)
              rw [hj] at a1
              rw [hk] at a3
              have HP2 := Lib.hid (hP.put hun HUE.out hk1 hk2 HSTm.out)
              have HA2 := Lib.hid ((hA.step (Below.refl wr.heap.size wr).drew).put (i := u) (by rw [hLl]; exact hun) (max (L.getD u 0) ((k : Int) + 1)))
              have HG2 := Lib.hid (grown_set (i := u) (v := .int .i64 (max (L.getD u 0) ((k : Int) + 1))) (grown_trans HG.out (grown_below (Below.refl wr.heap.size wr).drew)))
              rw [hj] at HP2 HA2 HG2
              clear hA hu HAR HSTm hk hj hk1 hk2 hj1 HPR hP
              go_wp2
              try go_region
              try go_wp2
              exact ⟨⟨m + 1, _, by omega, by first | rfl | go_num, HA2.out, HP2.out, HG2⟩, by simp [intOf]; omega⟩
            · obtain rfl : m = (Dg.nb es v).length := by omega
              clear hA hP
              go_wp2
              exact ⟨⟨i + 1, L, by omega, by first | rfl | go_num, HAR.out, HPR.out.less (fun u x h => HSNi.out u x h), HG⟩, by simp [intOf]; omega⟩
        · obtain rfl : n = i := by omega
          have HTP := Lib.hid (HTOP.out L hP)
          have hLl := hP.1
          have HSE := Lib.hid (hA.sees (cap := n) (by omega) (by unfold maxLen; omega))
          rw [hLl] at HSE
          clear hA hP
          go_wp2
          exact bodyPost_ret (v := .tuple #[.slice (some ⟨A, 0, none⟩) n n, .int .i64 0]) (by simp [results, Try.results29, go_sem]) rfl ⟨HBW.out.trans ((Below.refl _ W0).grown HG.out HBW.out.size (fun k hk => by cases hk; exact hAw)), .inl ⟨_, L, HOL.out, HTP.out, rfl, HSE.out⟩⟩
  · have HB1 := Lib.hid (below_nxt HL.out hb)
    clear hb
    go_wp2
    exact bodyPost_ret (v := .tuple #[.slice none 0 0, .int .i64 20]) (by simp [results, Try.results29, go_sem]) rfl ⟨HB1.out, .inr ⟨hlt, rfl⟩⟩
end Go.Proofs.Ytkjhockppkdakaa
