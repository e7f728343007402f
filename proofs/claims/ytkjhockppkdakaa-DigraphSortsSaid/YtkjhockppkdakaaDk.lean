/- Far of the reference of package digraph. -/
import Derived.Test.YtkjhockppkdakaaDj
namespace Dg
section
variable (n : Nat) (es : List (Nat × Nat)) (s : Nat)
/-- What Far has of a vertex in round r, behind i edges. -/
def fmv (r i v : Nat) : Int := if dist n es s v = (r : Int) + 1 ∧ (es.take i).any (fun e => e.2 == v && decide (dist n es s e.1 = r)) = true then (r : Int) + 1 else aw n es s (r + 1) v
def fmL (r i : Nat) : List Int := (List.range n).map (fmv n es s r i)
end
section
variable {n : Nat} {es : List (Nat × Nat)} {s : Nat}
theorem fmL_len (r i : Nat) : (fmL n es s r i).length = n := by simp [fmL]
theorem fmL_at {r i v : Nat} (hv : v < n) : (fmL n es s r i).getD v 0 = fmv n es s r i v := by
  unfold fmL
  rw [List.getD_eq_getElem?_getD, List.getElem?_map, List.getElem?_range hv]; rfl
theorem fmL_zero (r : Nat) : fmL n es s r 0 = awL n es s (r + 1) := by
  unfold fmL awL
  refine List.map_congr_left fun v _ => ?_
  unfold fmv; rw [if_neg (by simp)]
theorem fmv_here {r i v : Nat} : fmv n es s r i v = r ↔ dist n es s v = r := by
  have hg := dist_ge (n := n) (E := es) (s := s) (v := v)
  unfold fmv
  split
  · next h => omega
  · unfold aw; split <;> omega
theorem fmv_neg {r i v : Nat} : fmv n es s r i v < 0 ↔ ¬ (0 ≤ dist n es s v ∧ dist n es s v ≤ r) ∧ ¬ (dist n es s v = (r : Int) + 1 ∧ (es.take i).any (fun e => e.2 == v && decide (dist n es s e.1 = r)) = true) := by
  unfold fmv
  split
  · next h => constructor
              · intro h2; omega
              · rintro ⟨_, h2⟩; exact absurd h h2
  · next h =>
    unfold aw
    split
    · next h2 => constructor
                 · intro h3; omega
                 · rintro ⟨h3, _⟩; exact absurd ⟨h2.1, by omega⟩ h3
    · next h2 => exact ⟨fun _ => ⟨fun h3 => h2 ⟨h3.1, by omega⟩, h⟩, fun _ => by omega⟩
theorem fmv_succ {r i v : Nat} (hi : i < es.length) : fmv n es s r (i + 1) v = if dist n es s v = (r : Int) + 1 ∧ v = (es.getD i (0, 0)).2 ∧ dist n es s (es.getD i (0, 0)).1 = r then (r : Int) + 1 else fmv n es s r i v := by
  unfold fmv
  rw [take_at (0, 0) hi, List.any_append]
  generalize es.getD i (0, 0) = e
  generalize (es.take i).any (fun e => e.2 == v && decide (dist n es s e.1 = r)) = b
  by_cases h1 : dist n es s v = (r : Int) + 1
  · by_cases h2 : v = e.2
    · by_cases h3 : dist n es s e.1 = r
      · rw [if_pos ⟨h1, by simp [h2, h3]⟩, if_pos ⟨h1, h2, h3⟩]
      · rw [if_neg (c := _ ∧ _ ∧ _) (by simp [h3])]
        simp [h1, h3]
    · rw [if_neg (c := _ ∧ _ ∧ _) (by simp [h2])]
      simp [h1, Ne.symm h2]
  · rw [if_neg (by simp [h1]), if_neg (by simp [h1]), if_neg (by simp [h1])]
section
variable (hE : Ok n es) (hs : s < n)
include hE hs
theorem fmL_set {r i : Nat} (hi : i < es.length) (ha : fmv n es s r i (es.getD i (0, 0)).1 = r) (hb : fmv n es s r i (es.getD i (0, 0)).2 < 0) : fmL n es s r (i + 1) = (fmL n es s r i).set (es.getD i (0, 0)).2 ((r : Int) + 1) := by
  have hm := getD_mem (d := (0, 0)) hi
  have hv := hE _ hm
  rw [fmv_here] at ha
  rw [fmv_neg] at hb
  have hd := dist_edge hE hs (u := (es.getD i (0, 0)).1) (v := (es.getD i (0, 0)).2) hm (by omega)
  refine ext_getD 0 (by simp [fmL_len]) fun v hvn => ?_
  rw [fmL_len] at hvn
  rw [set_getD _ _ _ _ _ (by rw [fmL_len]; exact hv.2), fmL_at hvn, fmL_at hvn, fmv_succ hi]
  by_cases e : v = (es.getD i (0, 0)).2
  · rw [if_pos e, if_pos ⟨by rw [e]; have := hb.1; omega, e, ha⟩]
  · rw [if_neg e, if_neg (fun h => e h.2.1)]
omit hE hs in
theorem fmL_same {r i : Nat} (hi : i < es.length) (h : ¬ (fmv n es s r i (es.getD i (0, 0)).1 = r ∧ fmv n es s r i (es.getD i (0, 0)).2 < 0)) : fmL n es s r (i + 1) = fmL n es s r i := by
  refine ext_getD 0 (by simp [fmL_len]) fun v hvn => ?_
  rw [fmL_len] at hvn
  rw [fmL_at hvn, fmL_at hvn, fmv_succ hi]
  split
  · next h1 =>
    have ha : fmv n es s r i (es.getD i (0, 0)).1 = r := fmv_here.2 h1.2.2
    have hb : ¬ fmv n es s r i v < 0 := fun hb => h ⟨ha, by rw [← h1.2.1]; exact hb⟩
    rw [fmv_neg] at hb
    have h2 : dist n es s v = (r : Int) + 1 ∧ (es.take i).any (fun e => e.2 == v && decide (dist n es s e.1 = r)) = true := Classical.byContradiction fun h2 => hb ⟨by omega, h2⟩
    unfold fmv
    rw [if_pos h2]
  · rfl
theorem fmL_all (r : Nat) : fmL n es s r es.length = awL n es s (r + 1 + 1) := by
  unfold fmL awL
  refine List.map_congr_left fun v hv => ?_
  have hv' := List.mem_range.1 hv
  have hg := dist_ge (n := n) (E := es) (s := s) (v := v)
  unfold fmv aw
  rw [List.take_length]
  by_cases h : dist n es s v = (r : Int) + 1
  · obtain ⟨u, h1, h2⟩ := dist_pred hE hs (v := v) (k := r) h
    rw [if_pos ⟨h, List.any_eq_true.2 ⟨(u, v), h1, by simp [h2]⟩⟩, if_pos (by omega), h]
  · rw [if_neg (by simp [h])]
    by_cases h2 : 0 ≤ dist n es s v ∧ dist n es s v < (r + 1 : Nat)
    · rw [if_pos h2, if_pos (by omega)]
    · rw [if_neg h2, if_neg (by omega)]
omit hE in
theorem awL_end {d : Nat} (hd : n ≤ d) : awL n es s d = distL n es s := by
  unfold awL distL
  refine List.map_congr_left fun v _ => ?_
  have hg := dist_ge (n := n) (E := es) (s := s) (v := v)
  have hl := dist_lt (n := n) (E := es) (s := s) hs (v := v)
  unfold aw
  split <;> omega
theorem awL_one : awL n es s 1 = (List.replicate n (-1)).set s 0 := by
  refine ext_getD 0 (by simp [awL]) fun i hi => ?_
  have hi' : i < n := by simpa [awL] using hi
  rw [set_getD _ _ _ _ _ (by simpa using hs)]
  unfold awL
  rw [List.getD_eq_getElem?_getD, List.getElem?_map, List.getElem?_range hi', Option.map_some, Option.getD_some]
  have hz := dist_zero hE hs (v := i)
  unfold aw
  by_cases e : i = s
  · rw [if_pos e, if_pos (by rw [hz.2 e]; omega), hz.2 e]
  · rw [if_neg e, if_neg (fun h => e (hz.1 (by omega)))]
    simp [List.getD_eq_getElem?_getD, hi']
end
end
end Dg
namespace Go.Proofs.Ytkjhockppkdakaa
open Go.RowKit Go.Shelf

theorem ArrI.new (w : World) (n : Nat) (T : TypeId) : ArrI (w.alloc (.cells (madeCells #[.int .i64 0] n) T)) w.heap.size (List.replicate n 0) := by
  refine ⟨by simp, fun i hi => ?_⟩
  have hi' : i < n := by simpa using hi
  simp [madeCells, hi', List.getD_eq_getElem?_getD, Nat.mod_one]

set_option maxHeartbeats 4000000 in
set_option maxRecDepth 100000 in
theorem rFar_any (n : Nat) (es : List (Nat × Nat)) (s : Nat) (v : Value) (w : World) (hE : Dg.Ok n es) (hs : s < n) (hn : n ≤ 256) (he : es.length ≤ 4096) (hv : SeesE w v (Dg.cst es)) :
    Calls Try.prog 44 #[.agg #[.int .i64 n, v], .int .i64 s] w fun e w' => ∃ u, e = .returned u ∧ SeesI w' u (Dg.distL n es s) ∧ Below w.heap.size w w' := by
  obtain ⟨ao, cap, rfl, hcap1, hcap2, hC⟩ := hv
  have hlc := Dg.cst_len es
  rw [hlc] at hcap1
  have HC := Lib.hid hC
  have hmk := run_make_row' (P := Try.prog) 27 3 (.int .i64 0) 8 Try.underlying27 (by kernel_rfl) rfl .i64 .i64 n (by omega) (by omega)
  obtain ⟨P0, L0, z0⟩ := gph_new w n (.slice ao es.length cap) 24
  have BX := fun (W : World) (o : Obj) => (Below.refl W.heap.size W).alloc (Nat.le_refl _) o
  generalize hX : w.alloc (.cells #[.int .i64 n, .slice ao es.length cap] 24) = X at *
  have A0 := ArrI.new X n 3
  have P1 := P0.step (BX X (.cells (madeCells #[.int .i64 0] n) 3))
  have HX := Lib.hid L0
  have HL := Lib.hid (BX X (.cells (madeCells #[.int .i64 0] n) 3))
  have HP := Lib.hid P0
  rw [z0] at A0
  obtain ⟨p0, p1, p2⟩ := id P1
  obtain ⟨q0, q1, q2⟩ := id P0
  clear hC L0
  go_enter Try.func44, Try.ntmps44
  rw [hlc]
  go_wp2
  go_loopw [6] (fun s6 wr => ∃ j : Nat, j ≤ n ∧ s6 = .int .i64 j ∧ (∃ ls : List Int, ls.length = n ∧ Hid (∀ i, i < j → ls.getD i 0 = -1) ∧ ArrI wr (w.heap.size + 1) ls) ∧ Hid (Below X.heap.size X wr)) (fun s6 _ => n - (intOf s6).toNat)
  case atStart => exact ⟨0, Nat.zero_le _, rfl, ⟨_, by simp, Lib.hid (fun i h => by omega), A0⟩, HL⟩
  case round =>
    clear A0 P1 p0 p1 p2 hmk
    obtain ⟨j, hj, rfl, ⟨ls, hls, HJ, hA⟩, HB⟩ := hrel
    obtain ⟨p0, p1, p2⟩ := HP.out.step HB.out
    have HLS := Lib.hid hls
    by_cases hjn : j < n
    · obtain ⟨a1, a2⟩ := hA.2 j (by rw [HLS.out]; exact hjn)
      have HA2 := Lib.hid (hA.put (i := j) (by rw [HLS.out]; exact hjn) (-1))
      have HJ2 : Hid (∀ i, i < j + 1 → (ls.set j (-1)).getD i 0 = -1) := Lib.hid (fun i hi => by
        rw [Dg.set_getD _ _ _ _ _ (by rw [HLS.out]; exact hjn)]
        by_cases e : i = j
        · rw [if_pos e]
        · rw [if_neg e]; exact HJ.out i (by omega))
      have HB2 := Lib.hid (HB.out.setCell (p := ⟨w.heap.size + 1, j, none⟩) (by rw [z0]; exact Nat.le_refl _) (.int .i64 (-1)))
      clear hA hls HJ
      go_wp2
      exact ⟨⟨j + 1, by omega, by first | rfl | go_num, ⟨_, by rw [List.length_set]; exact HLS.out, HJ2, HA2.out⟩, HB2⟩, by simp [intOf]; omega⟩
    · obtain rfl : j = n := by omega
      obtain ⟨a1, a2⟩ := hA.2 s (by rw [HLS.out]; exact hs)
      have he1 : ls = List.replicate j (-1) := Dg.ext_getD 0 (by simpa using HLS.out) (fun i hi => by rw [HJ.out i (by omega)]; simp [List.getD_eq_getElem?_getD, show i < j by omega])
      have HA1 : Hid (ArrI (wr.setCell ⟨w.heap.size + 1, s, none⟩ (.int .i64 0)) (w.heap.size + 1) (Dg.awL j es s 1)) := Lib.hid (by rw [Dg.awL_one hE hs, ← he1]; exact hA.put (by rw [HLS.out]; exact hs) 0)
      have HB1 := Lib.hid (HB.out.setCell (p := ⟨w.heap.size + 1, s, none⟩) (by rw [z0]; exact Nat.le_refl _) (.int .i64 0))
      clear hA hls he1 HJ
      obtain ⟨wo, rfl⟩ : ∃ wo, wo = wr := ⟨_, rfl⟩
      go_wp2
      go_loopw [7] (fun s7 wr => ∃ r : Nat, r ≤ j ∧ s7 = .int .i64 r ∧ ArrI wr (w.heap.size + 1) (Dg.awL j es s (r + 1)) ∧ Hid (Below X.heap.size X wr)) (fun s7 _ => j - (intOf s7).toNat)
      case atStart => exact ⟨0, Nat.zero_le _, rfl, HA1.out, HB1⟩
      case round =>
        clear HA1 HB1 HB HLS a1 a2 ls p0 p1 p2
        obtain ⟨r, hr, rfl, hA, HB⟩ := hrel
        have HAR := Lib.hid hA
        obtain ⟨p0, p1, p2⟩ := HP.out.step HB.out
        by_cases hrj : r < j
        · have HF0 := Lib.hid (Dg.fmL_zero (n := j) (es := es) (s := s) r)
          have HFA := Lib.hid (Dg.fmL_all hE hs r)
          clear hA
          obtain ⟨wo2, rfl⟩ : ∃ wo2, wo2 = wr := ⟨_, rfl⟩
          go_wp2
          go_loopw [8] (fun s8 wr => ∃ i : Nat, i ≤ es.length ∧ s8 = .int .i64 i ∧ ArrI wr (w.heap.size + 1) (Dg.fmL j es s r i) ∧ Hid (Below X.heap.size X wr)) (fun s8 _ => es.length - (intOf s8).toNat)
          case atStart => exact ⟨0, Nat.zero_le _, rfl, by rw [HF0.out]; exact HAR.out, HB⟩
          case round =>
            clear HF0 HAR HB p0 p1 p2
            obtain ⟨i, hi, rfl, hA, HB⟩ := hrel
            have HAR := Lib.hid hA
            obtain ⟨p0, p1, p2⟩ := HP.out.step HB.out
            by_cases hil : i < es.length
            · obtain ⟨g, off, rfl, hg, c1, c2⟩ := HC.out.at (HX.out.trans (HB.out.mono HX.out.size)) (i := i) (by rw [Dg.cst_len]; exact hil)
              rw [Dg.cst_at] at c1 c2
              obtain ⟨ho1, ho2⟩ := hE _ (Dg.getD_mem (d := (0, 0)) hil)
              obtain ⟨a1, a2⟩ := hA.2 (es.getD i (0, 0)).1 (by rw [Dg.fmL_len]; exact ho1)
              obtain ⟨b1, b2⟩ := hA.2 (es.getD i (0, 0)).2 (by rw [Dg.fmL_len]; exact ho2)
              rw [Dg.fmL_at ho1] at a1
              rw [Dg.fmL_at ho2] at b1
              have HSet := Lib.hid (Dg.fmL_set (r := r) hE hs hil)
              have HSame := Lib.hid (Dg.fmL_same (n := j) (s := s) (r := r) hil)
              have HPut := Lib.hid (fun x W (h : ArrI W (w.heap.size + 1) (Dg.fmL j es s r i)) => h.put (i := (es.getD i (0, 0)).2) (by rw [Dg.fmL_len]; exact ho2) x)
              clear hA hE
              generalize es.getD i (0, 0) = y at *
              generalize Dg.fmv j es s r i y.1 = va at *
              generalize Dg.fmv j es s r i y.2 = vb at *
              generalize Dg.fmL j es s r i = fl at *
              obtain ⟨PE, LE, zE⟩ := edg_new wr (y.1 : Int) (y.2 : Int) 60
              have HA2 := Lib.hid (HAR.out.step LE)
              have HB2 := Lib.hid (below_nxt HB.out LE)
              have hwr := HAR.out.1
              by_cases h1 : va = (r : Int)
              · by_cases h2 : vb < 0
                · have HF := Lib.hid (HSet.out h1 h2)
                  have HA3 := Lib.hid ((HPut.out ((r : Int) + 1) _ HAR.out).step (BX _ (.cells #[.int .i64 (y.1 : Int), .int .i64 (y.2 : Int)] 60)))
                  have HB3 := Lib.hid ((HB.out.setCell (p := ⟨w.heap.size + 1, y.2, none⟩) (by rw [z0]; exact Nat.le_refl _) (.int .i64 ((r : Int) + 1))).alloc (by simpa [World.setCell] using HB.out.size) (.cells #[.int .i64 (y.1 : Int), .int .i64 (y.2 : Int)] 60))
                  have h2' : vb ≤ -1 := by omega
                  clear HSet HSame HPut LE PE
                  subst h1
                  go_wp2
                  exact ⟨⟨i + 1, by omega, by first | rfl | go_num, by rw [HF.out]; exact HA3.out, HB3⟩, by simp [intOf]; omega⟩
                · have HF := Lib.hid (HSame.out (fun h => h2 h.2))
                  clear HSet HSame HPut LE PE
                  subst h1
                  go_wp2
                  exact ⟨⟨i + 1, by omega, by first | rfl | go_num, by rw [HF.out]; exact HA2.out, HB2⟩, by simp [intOf]; omega⟩
              · have HF := Lib.hid (HSame.out (fun h => h1 h.1))
                clear HSet HSame HPut LE PE
                go_wp2
                exact ⟨⟨i + 1, by omega, by first | rfl | go_num, by rw [HF.out]; exact HA2.out, HB2⟩, by simp [intOf]; omega⟩
            · obtain rfl : i = es.length := by omega
              have HA3 := Lib.hid (show ArrI wr (w.heap.size + 1) (Dg.awL j es s (r + 1 + 1)) by rw [← HFA.out]; exact HAR.out)
              clear hA HFA
              go_wp2
              exact ⟨⟨r + 1, by omega, by first | rfl | go_num, HA3.out, HB⟩, by simp [intOf]; omega⟩
        · obtain rfl : r = j := by omega
          rw [Dg.awL_end hs (by omega)] at hA
          have hse := hA.sees (cap := r) (by rw [Dg.distL_len]; exact Nat.le_refl _) (by unfold maxLen; omega)
          rw [Dg.distL_len] at hse
          have HSE := Lib.hid hse
          clear hse hA HAR
          go_wp2
          exact bodyPost_ret (v := .slice (some ⟨w.heap.size + 1, 0, none⟩) r r) (by simp [results, Try.results44, go_sem]) rfl ⟨_, rfl, HSE.out, HX.out.trans (HB.out.mono HX.out.size)⟩
end Go.Proofs.Ytkjhockppkdakaa
