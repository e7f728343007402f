/- distances of package digraph, with its closure. -/
import Derived.Test.YtkjhockppkdakaaDi
import Derived.Laws.EntriesVeiled
namespace Go.Proofs.Ytkjhockppkdakaa
open Go.RowKit Go.Shelf

/-- A block of integers that may be written. -/
def ArrI (W : World) (g : Nat) (ls : List Int) : Prop := g < W.heap.size ∧ ∀ i, i < ls.length → W.cell? ⟨g, i, none⟩ = some (.int .i64 (ls.getD i 0)) ∧ W.frozen? ⟨g, i, none⟩ = false
theorem ArrI.below {W W' : World} {g : Nat} {ls : List Int} (h : ArrI W g ls) {B : Nat} (hB : g < B) (hb : Below B W W') : ArrI W' g ls :=
  ⟨Nat.lt_of_lt_of_le h.1 hb.size, fun i hi => ⟨(hb.cell (p := ⟨g, i, none⟩) hB).trans (h.2 i hi).1, (hb.frozen (p := ⟨g, i, none⟩) hB).trans (h.2 i hi).2⟩⟩
theorem ArrI.step {W W' : World} {g : Nat} {ls : List Int} (h : ArrI W g ls) (hb : Below W.heap.size W W') : ArrI W' g ls := h.below h.1 hb
theorem ArrI.put {W : World} {g i : Nat} {ls : List Int} (h : ArrI W g ls) (hi : i < ls.length) (x : Int) : ArrI (W.setCell ⟨g, i, none⟩ (.int .i64 x)) g (ls.set i x) := by
  refine ⟨by simpa [World.setCell] using h.1, fun j hj => ?_⟩
  have hj' : j < ls.length := by simpa using hj
  obtain ⟨h1, h2⟩ := h.2 j hj'
  rw [World.frozen?_setCell, Dg.set_getD _ _ _ _ _ hi]
  refine ⟨?_, h2⟩
  by_cases e : j = i
  · subst e
    rw [if_pos rfl, World.cell?_setCell_same' _ _ _ (by rw [h1]; rfl)]
  · rw [if_neg e, World.cell?_setCell_other (w := W) (v := .int .i64 x) (a := ⟨g, i, none⟩) (b := ⟨g, j, none⟩) (fun e' => e (congrArg Addr.off e').symm), h1]
theorem ArrI.sees {W : World} {g cap : Nat} {ls : List Int} (h : ArrI W g ls) (hc : ls.length ≤ cap) (hm : cap ≤ maxLen) : SeesI W (.slice (some ⟨g, 0, none⟩) ls.length cap) ls :=
  .inr ⟨g, 0, cap, rfl, hc, hm, h.1, fun i hi => by rw [Nat.zero_add]; exact (h.2 i hi).1⟩
theorem Zs.arr {W : World} {h n : Nat} (H : Zs W h n n) (h0 : 1 ≤ n) : ArrI W h (List.replicate n (-1)) := by
  refine ⟨?_, fun i hi => ?_⟩
  · have := H.holds 0 (by omega)
    exact World.block_lt_of_cell? W ⟨h, 0, none⟩ this
  · have hi' : i < n := by simpa using hi
    refine ⟨?_, H.free i hi'⟩
    rw [H.holds i hi']
    simp [List.getD_eq_getElem?_getD, hi']
/-- A variable in a block of its own. -/
def BoxV (W : World) (g : Nat) (v : Value) : Prop := g < W.heap.size ∧ W.cell? ⟨g, 0, none⟩ = some v
theorem BoxV.step {W W' : World} {g : Nat} {v : Value} (h : BoxV W g v) (hb : Below W.heap.size W W') : BoxV W' g v := ⟨Nat.lt_of_lt_of_le h.1 hb.size, (hb.cell (p := ⟨g, 0, none⟩) h.1).trans h.2⟩
theorem BoxV.grown {W W' : World} {g A : Nat} {v : Value} (h : BoxV W g v) (hg : W.grownBy W' (some A)) (hA : g ≠ A) : BoxV W' g v := ⟨Nat.lt_of_lt_of_le h.1 hg.size, hg.cell h.2 (by simpa using hA)⟩
theorem grown_then {w w1 w2 : World} {r : Option Nat} (h : w.grownBy w1 r) (h2 : Below w.heap.size w1 w2) : w.grownBy w2 r :=
  ⟨h2.os.trans h.os, h2.tape.trans h.tape, h2.output.trans h.output, Nat.le_trans h.size h2.size, fun k hk hne => (h2.block k hk).trans (h.block k hk hne)⟩
theorem grown_set {w w1 : World} {A i : Nat} {v : Value} (h : w.grownBy w1 (some A)) : w.grownBy (w1.setCell ⟨A, i, none⟩ v) (some A) :=
  ⟨h.os, h.tape, h.output, by simpa [World.setCell] using h.size, fun k hk hne => by
    rw [Below.heap_setCell _ _ _ _ (fun e => hne (by rw [e]))]; exact h.block k hk hne⟩
theorem grown_refl (w : World) (r : Option Nat) : w.grownBy w r := ⟨rfl, rfl, rfl, Nat.le_refl _, fun _ _ _ => rfl⟩

/-- What the closure does at level d. -/
def VisitOk (n : Nat) (es : List (Nat × Nat)) (s A AW NX VI : Nat) (w0 : World) (d : Nat) : Prop :=
  ∀ (F : List Int) (fv : Value) (w : World), Dg.Frt n es s d F → SeesI w fv F → fv.ownBlock ≠ some A → F.length ≤ 1024 → ArrI w A (Dg.awL n es s d) → BoxV w AW (.slice (some ⟨A, 0, none⟩) n n) → BoxV w VI (.func (.func 67) #[] #[.pointer (some ⟨AW, 0, none⟩), .pointer (some ⟨NX, 0, none⟩), .pointer (some ⟨VI, 0, none⟩)]) → Below w0.heap.size w0 w →
    Calls Try.prog 67 #[fv, .int .i64 d, .pointer (some ⟨AW, 0, none⟩), .pointer (some ⟨NX, 0, none⟩), .pointer (some ⟨VI, 0, none⟩)] w fun e w' => e = .returned (.tuple #[]) ∧ w.grownBy w' (some A) ∧ ArrI w' A (Dg.distL n es s)

set_option maxHeartbeats 4000000 in
set_option maxRecDepth 100000 in
theorem dVisit_step (n : Nat) (es : List (Nat × Nat)) (s A AW NX VI : Nat) (nv : Value) (w0 : World) (d : Nat) (hE : Dg.Ok n es) (hs : s < n) (hn : n ≤ 16) (he : es.length ≤ 64) (hA : w0.heap.size ≤ A) (hNX : BoxV w0 NX nv) (hN : SeesL w0 nv (Dg.nbL n es)) (hAW : AW ≠ A) (hVI : VI ≠ A)
    (hrec : d < n → VisitOk n es s A AW NX VI w0 (d + 1)) : VisitOk n es s A AW NX VI w0 d := by
  intro F fv w hF hfv hfb hFl hArr hAWb hVIb hbw
  obtain ⟨i0, hi0, hz0, hz1, hz2⟩ := info_int
  obtain ⟨N, cap, rfl, hcap1, hcap2, hNlt, hNc⟩ := hN
  rw [Dg.nbL_len] at *
  have HN := Lib.hid hNc
  have HX := Lib.hid hNX
  have HREC := Lib.hid hrec
  have HF := Lib.hid hF
  have HM0 := Lib.hid (Dg.midL_zero (n := n) (es := es) (s := s) d F)
  have HMA := Lib.hid (Dg.midL_all hF)
  have HME := Lib.hid (Dg.fut_end hE hs hF)
  have HMM := Lib.hid (Dg.fut_more hs hF)
  have HFN := Lib.hid (Dg.frt_next hE hs hF)
  have HFL := Lib.hid (fun j (hj : j ≤ F.length) => Dg.fut_small hF hn he hj)
  have hAlt := hArr.1
  have HAR := Lib.hid hArr
  have HAWb := Lib.hid hAWb
  have HVIb := Lib.hid hVIb
  have HBW := Lib.hid hbw
  have HC : Hid (∀ W : World, w.grownBy W (some A) → ∀ j, j < F.length → ∃ b off cap, fv = .slice (some ⟨b, off, none⟩) F.length cap ∧ W.cell? ⟨b, off + j, none⟩ = some (.int .i64 (F.getD j 0))) := Lib.hid (fun W hg j hj => by
    rcases hfv with ⟨_, h0⟩ | ⟨b, off, cap, rfl, h1, h2, h3, h4⟩
    · rw [h0] at hj; simp at hj
    · exact ⟨b, off, cap, rfl, hg.cell (h4 j hj) (fun e => hfb e)⟩)
  obtain ⟨af, cf, rfl, hf1, hf2, -⟩ := hfv.opened
  clear hNc hNX hrec hF hArr hAWb hVIb hbw hfv hfb
  go_enter Try.func67, Try.ntmps67
  go_wp2
  go_loopw [7, 12] (fun s7 s12 wr => ∃ j : Nat, j ≤ F.length ∧ s12 = .int .i64 j ∧ RowI w.heap.size 3 wr s7 (Dg.fut n es s d F j) ∧ ArrI wr A (Dg.midL n es s d F j) ∧ Hid (w.grownBy wr (some A))) (fun _ s12 _ => F.length - (intOf s12).toNat)
  case atStart => exact ⟨0, Nat.zero_le _, rfl, RowI.nil _ _ _, by rw [HM0.out]; exact HAR.out, Lib.hid (grown_refl _ _)⟩
  case round =>
    clear HM0 HAR
    obtain ⟨j, hj, rfl, hrow, hArr, HG⟩ := hrel
    obtain ⟨ra, rc, rfl⟩ := hrow.form
    have hwr := HG.out.size
    by_cases hjl : j < F.length
    · obtain ⟨b, off, c', hfe, c1⟩ := HC.out wr HG.out j hjl
      simp only [Value.slice.injEq] at hfe
      obtain ⟨rfl, -, rfl⟩ := hfe
      obtain ⟨u, hu, hun, -⟩ := HF.out.1 _ (Dg.getD_mem (d := 0) hjl)
      have hnew := Dg.mid_new HF.out (j := j) (u := u) (by rw [← hu]; exact Dg.getD_mem (d := 0) hjl)
      have hlu := Dg.midL_at (n := n) (es := es) (s := s) (d := d) (F := F) (j := j) hun
      have hA1 := hArr.2 u (by rw [Dg.midL_len]; exact hun)
      rw [hlu] at hA1
      obtain ⟨a1, a2⟩ := hA1
      have HA2 := Lib.hid hArr
      have HRW := Lib.hid hrow
      obtain ⟨w1, w2⟩ := HAWb.out.grown HG.out hAW
      have HSet := Lib.hid (fun h => Dg.midL_set (n := n) (es := es) (s := s) (d := d) hjl hu hun h)
      have HSame := Lib.hid (Dg.midL_same (n := n) (es := es) (s := s) (d := d) hjl hu)
      have HOn := Lib.hid (Dg.fut_on (n := n) (es := es) (s := s) (d := d) hu)
      have HOff := Lib.hid (Dg.fut_off (n := n) (es := es) (s := s) (d := d) hu)
      have hfl := HFL.out j hj
      have hnl : (Dg.nb es u).length ≤ 64 := by rw [Dg.nb_len]; exact Nat.le_trans (Dg.adj_len es u) he
      rw [hu] at c1
      clear hu hArr hrow HC HFL
      by_cases hm : Dg.mid n es s d F j u = -1
      · have hcond := hnew.1 hm
        have HF1 := Lib.hid (HSet.out hcond.1)
        have HF2 := Lib.hid (HOn.out hcond)
        rw [hm] at a1
        obtain ⟨uv, n1, n2⟩ := HN.out u hun
        rw [Dg.nbL_at es hun] at n2
        have hNA : N ≠ A := by omega
        have hb0 : Below w0.heap.size w0 wr := HBW.out.trans ((Below.refl _ _).grown HG.out HBW.out.size (fun k hk => by cases hk; exact hA))
        have HB1 := Lib.hid (hb0.setCell (p := ⟨A, u, none⟩) hA (.int .i64 (d : Int)))
        have n3 := (HB1.out.cell (p := ⟨N, u, none⟩) hNlt).trans n1
        obtain ⟨x1, x2⟩ := HX.out.step HB1.out
        have n4 := n2.below HB1.out (Nat.le_refl _)
        have HR1 := Lib.hid (ownsRow_setCell_below HRW.out (a := ⟨A, u, none⟩) hAlt (.int .i64 (d : Int)))
        have HA3 := Lib.hid (HA2.out.put (i := u) (by rw [Dg.midL_len]; exact hun) (d : Int))
        have HG3 := Lib.hid (grown_set (i := u) (v := .int .i64 (d : Int)) HG.out)
        have hz3 := HG3.out.size
        clear hnew hm hcond HSet HSame HOn HOff hb0 n1 n2 hlu
        generalize Dg.fut n es s d F j = q at *
        generalize Dg.nb es u = nbu at *
        generalize Dg.midL n es s d F j = ml at *
        go_wp2_with (at_builtin; refine wpList_append_int rfl _ _ 27 rfl 3 i0 Try.underlying27 hi0 hz0 hz1 hz2 _ uv q nbu rfl rfl w.heap.size HR1.out n4 (by omega) (by simpa using hwr) ?_; intro a5 p5 w5 hr5 hg5 ho5; have hb5 := RowI.belowOwn (C := w.heap.size) HR1.out hg5 hz3 (Nat.le_refl _); have HA5 := Lib.hid (HA3.out.below hAlt hb5); have HG5 := Lib.hid (grown_then HG3.out hb5); have HR5 := Lib.hid hr5; clear hr5 hg5 ho5 hb5)
        exact ⟨⟨j + 1, by omega, rfl, by rw [HF2.out]; exact HR5.out, by rw [HF1.out]; exact HA5.out, HG5⟩, by simp [intOf]; omega⟩
      · have hcond : ¬ (Dg.dist n es s u = d ∧ (u : Int) ∉ F.take j) := fun h => hm (hnew.2 h)
        have HF1 := Lib.hid (HSame.out hcond)
        have HF2 := Lib.hid (HOff.out hcond)
        have hne : ¬ Dg.mid n es s d F j u = -1 := hm
        clear hnew hm hcond HSet HSame HOn HOff hlu
        generalize Dg.mid n es s d F j u = m at *
        generalize Dg.fut n es s d F j = q at *
        generalize Dg.midL n es s d F j = ml at *
        go_wp2
        exact ⟨⟨j + 1, by omega, rfl, by rw [HF2.out]; exact HRW.out, by rw [HF1.out]; exact HA2.out, HG⟩, by simp [intOf]; omega⟩
    · obtain rfl : j = F.length := by omega
      rw [HMA.out] at hArr
      by_cases h0 : Dg.fut n es s d F F.length = []
      · have HE := Lib.hid (HME.out h0)
        rw [HE.out] at hArr
        have hl0 : (Dg.fut n es s d F F.length).length = 0 := by rw [h0]; rfl
        rw [hl0]
        clear h0 hrow hl0
        go_wp2
        go_end0
        exact ⟨rfl, HG.out, hArr⟩
      · have hd' := HMM.out h0
        have CR := HREC.out hd' (Dg.fut n es s d F F.length) _ wr HFN.out hrow.sees (fun e => by have := (World.ownsRow.lt hrow _ e).1; omega) (HFL.out _ (Nat.le_refl _)) hArr (HAWb.out.grown HG.out hAW) (HVIb.out.grown HG.out hVI) (HBW.out.trans ((Below.refl _ _).grown HG.out HBW.out.size (fun k hk => by cases hk; exact hA)))
        rw [show ((d + 1 : Nat) : Int) = (d : Int) + 1 by omega] at CR
        have HCR := Lib.hid CR
        obtain ⟨v1, v2⟩ := HVIb.out.grown HG.out hVI
        have hpos : 0 < (Dg.fut n es s d F F.length).length := List.length_pos_iff.2 h0
        have hfl := HFL.out F.length (Nat.le_refl _)
        clear CR h0 hrow hArr HMM HME HFL HMA HC HN HX
        generalize (Dg.fut n es s d F F.length).length = L at *
        go_wp2_with (go_at_call 67; (with_reducible refine (HCR.out).mono ?_); rintro e w5 ⟨rfl, hg5, ha5⟩)
        go_end0
        exact ⟨rfl, grown_trans HG.out hg5, ha5⟩

theorem dVisit_any (n : Nat) (es : List (Nat × Nat)) (s A AW NX VI : Nat) (nv : Value) (w0 : World) (hE : Dg.Ok n es) (hs : s < n) (hn : n ≤ 16) (he : es.length ≤ 64) (hA : w0.heap.size ≤ A) (hNX : BoxV w0 NX nv) (hN : SeesL w0 nv (Dg.nbL n es)) (hAW : AW ≠ A) (hVI : VI ≠ A) :
    ∀ k d, d + k = n → VisitOk n es s A AW NX VI w0 d := by
  intro k
  induction k with
  | zero => exact fun d h => dVisit_step n es s A AW NX VI nv w0 d hE hs hn he hA hNX hN hAW hVI (fun h2 => by omega)
  | succ k ih => exact fun d h => dVisit_step n es s A AW NX VI nv w0 d hE hs hn he hA hNX hN hAW hVI (fun _ => ih (d + 1) (by omega))

set_option maxHeartbeats 4000000 in
set_option maxRecDepth 100000 in
theorem dDists_any (n : Nat) (es : List (Nat × Nat)) (s : Nat) (nv : Value) (w : World) (hE : Dg.Ok n es) (hs : s < n) (hn : n ≤ 16) (he : es.length ≤ 64) (hN : SeesL w nv (Dg.nbL n es)) :
    Calls Try.prog 46 #[nv, .int .i64 s] w fun e w' => ∃ u, e = .returned u ∧ SeesI w' u (Dg.distL n es s) ∧ Below w.heap.size w w' := by
  have HN := Lib.hid hN
  obtain ⟨N, cap, rfl, hcap1, hcap2, hNlt, hNc⟩ := hN
  rw [Dg.nbL_len] at *
  clear hNc
  go_enter Try.func46, Try.ntmps46
  have N0 : BoxV (w.alloc (.cells #[.slice (some ⟨N, 0, none⟩) n cap] 47)) w.heap.size (.slice (some ⟨N, 0, none⟩) n cap) := ⟨by simp, by simp⟩
  have L0 : Below w.heap.size w (w.alloc (.cells #[.slice (some ⟨N, 0, none⟩) n cap] 47)) := (Below.refl _ _).alloc (Nat.le_refl _) _
  have z0 : (w.alloc (.cells #[.slice (some ⟨N, 0, none⟩) n cap] 47)).heap.size = w.heap.size + 1 := by simp
  have HN0 := Lib.hid (HN.out.step L0)
  have HL0 := Lib.hid L0
  go_wp2_with fail
  generalize hX : w.alloc (.cells #[.slice (some ⟨N, 0, none⟩) n cap] 47) = X at *
  have CRp := sRepeat_any (w.heap.size + 1) n (X.alloc (.cells #[.int .i64 (-1)] 3)) (by omega) (by omega) (by simp; omega) (by rw [← z0]; simp)
  refine CRp.mono ?_
  rintro e w2 ⟨rfl, hz, hb⟩
  have HZ := Lib.hid (hz.arr (by omega))
  have HB2 := Lib.hid (((Below.refl X.heap.size X).alloc (Nat.le_refl _) _).trans (hb.mono (by simp)))
  have hs2 := hb.size
  clear hz hb CRp
  have hzz : (X.alloc (.cells #[.int .i64 (-1)] 3)).heap.size = w.heap.size + 1 + 1 := by simp; omega
  rw [hzz] at HZ hs2
  have hw2 := HZ.out.1
  have BX := fun (W : World) (o : Obj) => (Below.refl W.heap.size W).alloc (Nat.le_refl _) o
  have hV1 : Below w2.heap.size w2 (((w2.alloc (.cells #[.slice (some ⟨w.heap.size + 1 + 1, 0, none⟩) n n] 27)).alloc (.cells #[.func (.func 67) #[] #[.pointer (some ⟨w2.heap.size, 0, none⟩), .pointer (some ⟨w.heap.size, 0, none⟩), .pointer (some ⟨w2.heap.size + 1, 0, none⟩)]] 86)).alloc (.cells #[.int .i64 (s : Int)] 3)) := ((BX _ _).alloc (by simp) _).alloc (by simp; omega) _
  have hV2 : BoxV (((w2.alloc (.cells #[.slice (some ⟨w.heap.size + 1 + 1, 0, none⟩) n n] 27)).alloc (.cells #[.func (.func 67) #[] #[.pointer (some ⟨w2.heap.size, 0, none⟩), .pointer (some ⟨w.heap.size, 0, none⟩), .pointer (some ⟨w2.heap.size + 1, 0, none⟩)]] 86)).alloc (.cells #[.int .i64 (s : Int)] 3)) w2.heap.size (.slice (some ⟨w.heap.size + 1 + 1, 0, none⟩) n n) := by
    refine BoxV.step (BoxV.step ?_ (BX _ _)) (BX _ _)
    exact ⟨by simp, by simp⟩
  have hV3 : BoxV (((w2.alloc (.cells #[.slice (some ⟨w.heap.size + 1 + 1, 0, none⟩) n n] 27)).alloc (.cells #[.func (.func 67) #[] #[.pointer (some ⟨w2.heap.size, 0, none⟩), .pointer (some ⟨w.heap.size, 0, none⟩), .pointer (some ⟨w2.heap.size + 1, 0, none⟩)]] 86)).alloc (.cells #[.int .i64 (s : Int)] 3)) (w2.heap.size + 1) (.func (.func 67) #[] #[.pointer (some ⟨w2.heap.size, 0, none⟩), .pointer (some ⟨w.heap.size, 0, none⟩), .pointer (some ⟨w2.heap.size + 1, 0, none⟩)]) := by
    refine BoxV.step ?_ (BX _ _)
    exact ⟨by simp, by simp⟩
  have hV4 : SeesI (((w2.alloc (.cells #[.slice (some ⟨w.heap.size + 1 + 1, 0, none⟩) n n] 27)).alloc (.cells #[.func (.func 67) #[] #[.pointer (some ⟨w2.heap.size, 0, none⟩), .pointer (some ⟨w.heap.size, 0, none⟩), .pointer (some ⟨w2.heap.size + 1, 0, none⟩)]] 86)).alloc (.cells #[.int .i64 (s : Int)] 3)) (.slice (some ⟨w2.heap.size + 1 + 1, 0, none⟩) 1 1) [(s : Int)] := by
    have := SeesI.one ((w2.alloc (.cells #[.slice (some ⟨w.heap.size + 1 + 1, 0, none⟩) n n] 27)).alloc (.cells #[.func (.func 67) #[] #[.pointer (some ⟨w2.heap.size, 0, none⟩), .pointer (some ⟨w.heap.size, 0, none⟩), .pointer (some ⟨w2.heap.size + 1, 0, none⟩)]] 86)) (s : Int) 3
    simpa using this
  have HV := Lib.hid (And.intro hV1 (And.intro hV2 (And.intro hV3 hV4)))
  clear hV1 hV2 hV3 hV4
  go_wp2_with fail
  generalize (((w2.alloc (.cells #[.slice (some ⟨w.heap.size + 1 + 1, 0, none⟩) n n] 27)).alloc (.cells #[.func (.func 67) #[] #[.pointer (some ⟨w2.heap.size, 0, none⟩), .pointer (some ⟨w.heap.size, 0, none⟩), .pointer (some ⟨w2.heap.size + 1, 0, none⟩)]] 86)).alloc (.cells #[.int .i64 (s : Int)] 3)) = V at *
  have CV := dVisit_any n es s (w.heap.size + 1 + 1) w2.heap.size w.heap.size (w2.heap.size + 1) _ X hE hs hn he (by omega) N0 HN0.out (by omega) (by omega) n 0 (by omega) [(s : Int)] (.slice (some ⟨w2.heap.size + 1 + 1, 0, none⟩) 1 1) V (Dg.frt_zero hE hs) HV.out.2.2.2 (by simp [Value.ownBlock]; omega) (by simp) (by rw [Dg.awL_zero]; exact HZ.out.step HV.out.1) HV.out.2.1 HV.out.2.2.1 (below_nxt HB2.out HV.out.1)
  refine CV.mono ?_
  rintro e w4 ⟨rfl, hg4, ha4⟩
  have HA4 := Lib.hid ha4
  obtain ⟨k0, k1⟩ := HV.out.2.1.grown hg4 (show w2.heap.size ≠ w.heap.size + 1 + 1 by omega)
  have HB4 := Lib.hid ((below_nxt HL0.out (below_nxt HB2.out HV.out.1)).trans (below_grown hg4 (Nat.le_trans (by omega) HV.out.1.size) (show w.heap.size ≤ w.heap.size + 1 + 1 by omega)))
  clear CV hg4 ha4
  go_wp2
  have hse := HA4.out.sees (cap := n) (by rw [Dg.distL_len]; exact Nat.le_refl _) (by unfold maxLen; omega)
  rw [Dg.distL_len] at hse
  exact bodyPost_ret (v := .slice (some ⟨w.heap.size + 1 + 1, 0, none⟩) n n) (by simp [results, Try.results46, go_sem]) rfl ⟨_, rfl, hse, HB4.out⟩
end Go.Proofs.Ytkjhockppkdakaa
