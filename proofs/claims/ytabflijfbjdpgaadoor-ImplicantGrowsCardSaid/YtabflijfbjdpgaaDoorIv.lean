/- The essential prime implicants: Essential of package implicant. -/
import Derived.Test.YtabflijfbjdpgaaDoorIm
import Derived.Test.YtabflijfbjdpgaaDoorUj
import Derived.Test.YtabflijfbjdpgaaDoorUk
import Derived.Deep.RegionHeld3
namespace Ic
/-- The points that are in one cube of a list at least, and in two. -/
def onc (n : Nat) (l : List (Nat × Nat)) : Nat × Nat := l.foldl (fun s x => (s.1 ||| tab n x.1 x.2, s.2 ||| (s.1 &&& tab n x.1 x.2))) (0, 0)
/-- The indices of the cubes that alone have some point of On. -/
def ess (n on : Nat) (l : List (Nat × Nat)) (i : Nat) : Bool := (on &&& (18446744073709551615 - (onc n l).2)) &&& tab n (l.getD i (0, 0)).1 (l.getD i (0, 0)).2 != 0
def essL (n on : Nat) (l : List (Nat × Nat)) : List Nat := Tt.pts (ess n on l) l.length
theorem onc_snoc (n : Nat) (l : List (Nat × Nat)) (x : Nat × Nat) : onc n (l ++ [x]) = ((onc n l).1 ||| tab n x.1 x.2, (onc n l).2 ||| ((onc n l).1 &&& tab n x.1 x.2)) := by simp [onc, List.foldl_append]
theorem onc_take {n : Nat} {l : List (Nat × Nat)} {i : Nat} (h : i < l.length) : onc n (l.take (i + 1)) = ((onc n (l.take i)).1 ||| tab n (l.getD i (0, 0)).1 (l.getD i (0, 0)).2, (onc n (l.take i)).2 ||| ((onc n (l.take i)).1 &&& tab n (l.getD i (0, 0)).1 (l.getD i (0, 0)).2)) := by
  rw [List.take_add_one, List.getElem?_eq_getElem h, Option.toList_some, onc_snoc, List.getD_eq_getElem?_getD, List.getElem?_eq_getElem h, Option.getD_some]
theorem onc_lt {n : Nat} (hn : n ≤ 6) (l : List (Nat × Nat)) : (onc n l).1 < 2 ^ 64 ∧ (onc n l).2 < 2 ^ 64 := by
  unfold onc
  have : ∀ (l : List (Nat × Nat)) (s : Nat × Nat), s.1 < 2 ^ 64 ∧ s.2 < 2 ^ 64 → (l.foldl (fun s x => (s.1 ||| tab n x.1 x.2, s.2 ||| (s.1 &&& tab n x.1 x.2))) s).1 < 2 ^ 64 ∧ (l.foldl (fun s x => (s.1 ||| tab n x.1 x.2, s.2 ||| (s.1 &&& tab n x.1 x.2))) s).2 < 2 ^ 64 := by
    intro l
    induction l with
    | nil => intro s h; exact h
    | cons x l ih =>
      intro s h
      rw [List.foldl_cons]
      have ht := Tt.w64 hn (tab_lt n x.1 x.2)
      exact ih _ ⟨Nat.or_lt_two_pow h.1 ht, Nat.or_lt_two_pow h.2 (Nat.lt_of_le_of_lt Nat.and_le_left h.1)⟩
  exact this l (0, 0) ⟨by decide, by decide⟩
theorem cubesL_fits (n : Nat) : ∀ x ∈ cubesL n, Fits n x := by
  induction n with
  | zero => intro x h; simp [cubesL] at h; subst h; exact Fits.zero
  | succ n ih =>
    intro x h
    rw [cubesL, List.mem_flatMap] at h
    obtain ⟨y, hy, hx⟩ := h
    simp only [three, List.mem_cons, List.not_mem_nil, or_false] at hx
    rcases hx with rfl | rfl | rfl
    · exact (ih y hy).one
    · exact (ih y hy).two
    · exact (ih y hy).tri
theorem primesS_fits (n on fr : Nat) : ∀ x ∈ primesS n on fr, Fits n x := by
  intro x h
  rw [primesS, sortL_mem, primesL, List.mem_filter] at h
  exact cubesL_fits n x h.1
theorem primesS_len {n on fr : Nat} (hn : n ≤ 6) : (primesS n on fr).length ≤ 729 := by
  rw [primesS, sortL_length, primesL]
  refine Nat.le_trans (List.length_filter_le _ _) ?_
  rw [cubesL_len]
  exact Nat.pow_le_pow_right (n := 3) (by omega) hn
end Ic
namespace Go.Proofs.YtabflijfbjdpgaaDoor
open Go.RowKit Go.Shelf

/-- Where the cubes lie, if there are any. -/
def CellsC (w : World) (ao : Option Addr) (l : List (Nat × Nat)) : Prop :=
  0 < l.length → ∃ g, ao = some ⟨g, 0, none⟩ ∧ g < w.heap.size ∧ ∀ i, i < l.length → w.cell? ⟨g, i * 2, none⟩ = some (.int .u64 ((l.getD i (0, 0)).1 : Int)) ∧ w.cell? ⟨g, i * 2 + 1, none⟩ = some (.int .u64 ((l.getD i (0, 0)).2 : Int))
theorem SeesC.opened {w : World} {v : Value} {l : List (Nat × Nat)} (h : SeesC w v l) : ∃ ao cap, v = .slice ao l.length cap ∧ l.length ≤ cap ∧ cap ≤ 9223372036854775807 ∧ CellsC w ao l := by
  rcases h with ⟨rfl, rfl⟩ | ⟨g, cap, rfl, h1, h2, h3, h4⟩
  · exact ⟨none, 0, rfl, Nat.le_refl _, by omega, fun h => by simp at h⟩
  · exact ⟨_, cap, rfl, h1, by unfold maxLen at h2; omega, fun _ => ⟨g, rfl, h3, h4⟩⟩
theorem CellsC.at {w wr : World} {ao : Option Addr} {l : List (Nat × Nat)} (h : CellsC w ao l) (hb : Below w.heap.size w wr) {i : Nat} (hi : i < l.length) :
    ∃ g, ao = some ⟨g, 0, none⟩ ∧ g < w.heap.size ∧ wr.cell? ⟨g, i * 2, none⟩ = some (.int .u64 ((l.getD i (0, 0)).1 : Int)) ∧ wr.cell? ⟨g, i * 2 + 1, none⟩ = some (.int .u64 ((l.getD i (0, 0)).2 : Int)) := by
  obtain ⟨g, h1, h2, h3⟩ := h (by omega)
  exact ⟨g, h1, h2, (hb.cell (p := ⟨g, i * 2, none⟩) h2).trans (h3 i hi).1, (hb.cell (p := ⟨g, i * 2 + 1, none⟩) h2).trans (h3 i hi).2⟩

set_option maxHeartbeats 1000000 in
set_option maxRecDepth 100000 in
theorem iEss_ok (n on : Nat) (m : Int) (fr : Nat) (w : World) (hn : n ≤ 6) (ho : on < 2 ^ 64) (hf : fr < 2 ^ 64) (hst : St w) (hchk : Ic.tchk n on m fr = 0) :
    Calls Tryd.prog 35 #[.agg #[.int .i64 n, .int .u64 on, .int .i64 m, .int .u64 fr]] w fun e w' => ∃ v, e = .returned (.tuple #[v, .int .i64 0]) ∧ Sees .i64 w' v (Ic.essL n on (Ic.primesS n on fr)) ∧ Below w.heap.size w w' := by
  have CP := fun W (h : St W) => Lib.hid (iPrimes_ok n on m fr W hn ho hf h hchk)
  have hfit := Ic.primesS_fits n on fr
  have hlen := Ic.primesS_len (on := on) (fr := fr) hn
  generalize Ic.primesS n on fr = l at *
  have CT := fun (i : Nat) (hi : i < l.length) W (h : St W) => Lib.hid (iTable_any n (l.getD i (0, 0)).1 (l.getD i (0, 0)).2 W hn (hfit _ (by rw [List.getD_eq_getElem?_getD, List.getElem?_eq_getElem hi]; exact List.getElem_mem hi)).1 (hfit _ (by rw [List.getD_eq_getElem?_getD, List.getElem?_eq_getElem hi]; exact List.getElem_mem hi)).2 h)
  have hT := fun i => Tt.w64 hn (Ic.tab_lt n (l.getD i (0, 0)).1 (l.getD i (0, 0)).2)
  have hO := fun i => Ic.onc_lt hn (l.take i)
  have hS := fun i (hi : i < l.length) => Ic.onc_take (n := n) hi
  have hE : Hid (Ic.onc n (l.take l.length) = Ic.onc n l) := Lib.hid (by rw [List.take_length])
  have HT := Lib.hid hT
  have HO := Lib.hid hO
  have HS := Lib.hid hS
  have HST := Lib.hid hst
  clear hT hO hS hfit hchk hst
  obtain ⟨P0, L0, z0⟩ := task_new w n on m fr 58
  generalize hX : w.alloc (.cells #[.int .i64 n, .int .u64 (on : Int), .int .i64 m, .int .u64 (fr : Int)] 58) = X at *
  have HL0 := Lib.hid L0
  obtain ⟨p0, p1, p2, p3, p4⟩ := id P0
  go_enter Tryd.func35, Tryd.ntmps35
  go_wp2_with (go_at_call 33; refine ((CP _ (HST.out.next HL0.out)).out).mono ?_; rintro e w1 ⟨pv, rfl, hsee, hb1⟩; obtain ⟨ao, cap, rfl, hcap1, hcap2, hcells⟩ := hsee.opened; have P1 := P0.step hb1; have HW1 := Lib.hid (below_nxt HL0.out hb1); have z1 := hb1.size)
  clear hb1 hsee P0 L0 p1 p2 p3 p4
  go_loopw [6, 7, 24] (fun s6 s7 s24 wr => ∃ i : Nat, i ≤ l.length ∧ s24 = .int .i64 i ∧ s6 = .int .u64 ((Ic.onc n (l.take i)).1 : Int) ∧ s7 = .int .u64 ((Ic.onc n (l.take i)).2 : Int) ∧ Hid (Below w1.heap.size w1 wr)) (fun _ _ s24 _ => l.length - (intOf s24).toNat)
  case atStart => exact ⟨0, Nat.zero_le _, rfl, rfl, rfl, Lib.hid (Below.refl _ _)⟩
  case round =>
    obtain ⟨i, hi, rfl, rfl, rfl, HB⟩ := hrel
    by_cases hil : i < l.length
    · obtain ⟨g, rfl, hg, c1, c2⟩ := hcells.at HB.out hil
      obtain ⟨t0, t1, t2, t3, t4⟩ := P1.step HB.out
      have CTi := CT i hil
      have e1 := u64_and_nat (Ic.onc n (l.take i)).1 (Ic.tab n (l.getD i (0, 0)).1 (l.getD i (0, 0)).2) (by simpa using (HO.out i).1) (by simpa using HT.out i)
      have e2 := u64_or_nat (Ic.onc n (l.take i)).2 ((Ic.onc n (l.take i)).1 &&& (Ic.tab n (l.getD i (0, 0)).1 (l.getD i (0, 0)).2)) (by simpa using (HO.out i).2) (by have h1 := (HO.out i).1; have h2 : (Ic.onc n (l.take i)).1 &&& (Ic.tab n (l.getD i (0, 0)).1 (l.getD i (0, 0)).2) ≤ (Ic.onc n (l.take i)).1 := Nat.and_le_left; omega)
      have e3 := u64_or_nat (Ic.onc n (l.take i)).1 (Ic.tab n (l.getD i (0, 0)).1 (l.getD i (0, 0)).2) (by simpa using (HO.out i).1) (by simpa using HT.out i)
      have HSi := Lib.hid (HS.out i hil)
      have hd := field_bits
      generalize Ic.tab n (l.getD i (0, 0)).1 (l.getD i (0, 0)).2 = tb at *
      generalize (l.getD i (0, 0)) = x at *
      have HWR := Lib.hid (below_nxt HW1.out HB.out)
      go_wp2_with (go_at_call 49; refine ((CTi _ (HST.out.next (below_nxt HWR.out ((Below.refl _ _).alloc (Nat.le_refl _) _)))).out).mono ?_; rintro e w2 ⟨rfl, hb2⟩; have HB2 := Lib.hid (HB.out.trans ((((Below.refl _ _).alloc (Nat.le_refl _) _).trans (hb2.mono (by simp))).mono HB.out.size)))
      exact ⟨⟨i + 1, by omega, rfl, by rw [HSi.out], by rw [HSi.out], HB2⟩, by simp [intOf]; omega⟩
    · obtain rfl : i = l.length := by omega
      rw [hE.out]
      clear hE HS
      have hA := HO.out l.length
      rw [List.take_length] at hA
      have HPS := fun j => Lib.hid (Tt.pts_succ (Ic.ess n on l) j)
      have HES := fun j => Lib.hid (show Ic.ess n on l j = ((on &&& (18446744073709551615 - (Ic.onc n l).2)) &&& Ic.tab n (l.getD j (0, 0)).1 (l.getD j (0, 0)).2 != 0) from rfl)
      have HPL := fun j => Tt.pts_len (Ic.ess n on l) j
      have hEL := Lib.hid (show Ic.essL n on l = Tt.pts (Ic.ess n on l) l.length from rfl)
      have e4 := u64_andNot_nat on (Ic.onc n l).2 (by simpa using ho) (by simpa using hA.2)
      have hy : on &&& (18446744073709551615 - (Ic.onc n l).2) < 18446744073709551616 := Nat.lt_of_le_of_lt Nat.and_le_left (by simpa using ho)
      generalize Ic.ess n on l = ess at *
      generalize (Ic.onc n l).2 = ag at *
      generalize (Ic.onc n l).1 = o1 at *
      generalize on &&& (18446744073709551615 - ag) = y at *
      obtain ⟨i0, hi0, hz0, hz1, hz2⟩ := info_parts Tryd.infoI64
      clear hA HO hi
      go_wp2
      go_loopw [11, 45] (fun s11 s45 wq => ∃ j : Nat, j ≤ l.length ∧ s45 = .int .i64 j ∧ Row w1.heap.size .i64 3 wq s11 (Tt.pts ess j) ∧ Hid (Below w1.heap.size w1 wq)) (fun _ s45 _ => l.length - (intOf s45).toNat)
      case atStart => exact ⟨0, Nat.zero_le _, rfl, Row.nil _ _ _ _, HB⟩
      case round =>
        clear HB
        obtain ⟨j, hj, rfl, hrow, HB⟩ := hrel
        have hsz := HB.out.size
        by_cases hjl : j < l.length
        · obtain ⟨g, rfl, hg, c1, c2⟩ := hcells.at HB.out hjl
          have PT := P1.step HB.out
          have CTi := CT j hjl
          have HSj := HPS j
          have HEj := HES j
          have hpl := HPL j
          have e5 := u64_and_nat y (Ic.tab n (l.getD j (0, 0)).1 (l.getD j (0, 0)).2) hy (by simpa using HT.out j)
          have hd := field_bits
          have HWR := Lib.hid (below_nxt HW1.out HB.out)
          generalize Ic.tab n (l.getD j (0, 0)).1 (l.getD j (0, 0)).2 = tb at *
          generalize (l.getD j (0, 0)) = x at *
          obtain ⟨qB, lB, zB⟩ := cub1_new wr x.1 x.2 24
          have hq : (((y &&& tb : Nat) : Int) != 0) = ess j := by
            rw [HEj.out, Bool.eq_iff_iff]; simp
          generalize (y &&& tb) = z at *
          go_wp2
          generalize (wr.alloc (.cells #[.int .u64 (x.1 : Int), .int .u64 (x.2 : Int)] 24)) = V at *
          obtain ⟨t0, t1, t2, t3, t4⟩ := PT.step lB
          obtain ⟨d0, d1, d2, d3, d4⟩ := id qB
          have HLB := Lib.hid lB
          have HWV := Lib.hid (below_nxt HWR.out lB)
          have HD := Lib.hid ((Below.refl V.heap.size V).drew)
          have g1 : V.drew.cell? ⟨w.heap.size, 0, none⟩ = some (.int .i64 n) := t1
          have g2 : V.drew.cell? ⟨w.heap.size, 1, none⟩ = some (.int .u64 (on : Int)) := t2
          have g3 : V.drew.cell? ⟨wr.heap.size, 0, none⟩ = some (.int .u64 (x.1 : Int)) := d1
          have g4 : V.drew.cell? ⟨wr.heap.size, 1, none⟩ = some (.int .u64 (x.2 : Int)) := d2
          have hmix : Tryd.prog.follows .mixedOrders = true := by kernel_rfl
          clear lB qB c1 c2 PT
          cases hess : ess j
          · rw [hess] at hq
            have HS2 := Lib.hid (HSj.out.trans (if_neg (by simp [hess])))
            clear HSj HEj hess
            generalize Tt.pts ess j = lj at *
            go_region_held3 (fun W => (W.cell? ⟨w.heap.size, 0, none⟩ = some (.int .i64 n) ∧ W.cell? ⟨w.heap.size, 1, none⟩ = some (.int .u64 (on : Int))) ∧ (W.cell? ⟨wr.heap.size, 0, none⟩ = some (.int .u64 (x.1 : Int)) ∧ W.cell? ⟨wr.heap.size, 1, none⟩ = some (.int .u64 (x.2 : Int))) ∧ Hid (Below V.heap.size V W))
              (first | (refine ⟨⟨?_, ?_⟩, ⟨?_, ?_⟩, ?_⟩ <;> with_reducible assumption) | (go_split_ands; refine ⟨⟨?_, ?_⟩, ⟨?_, ?_⟩, ?_⟩ <;> with_reducible assumption))
              (first | (go_at_call 49; (with_reducible refine ((CTi _ (HST.out.next (below_nxt HWV.out HD.out))).out).mono ?_); rintro e w2 ⟨rfl, hw2⟩; have hb2 := below_nxt HD.out hw2; have HB2 := Lib.hid hb2; have k1 := (hb2.cell (p := ⟨w.heap.size, 0, none⟩) t0).trans t1; have k2 := (hb2.cell (p := ⟨w.heap.size, 1, none⟩) t0).trans t2; have k3 := (hb2.cell (p := ⟨wr.heap.size, 0, none⟩) d0).trans d1; have k4 := (hb2.cell (p := ⟨wr.heap.size, 1, none⟩) d0).trans d2; clear hb2 hw2))
            go_wp2
            have hBV := HLB.out.trans (HB2.out.mono HLB.out.size)
            exact ⟨⟨j + 1, by omega, rfl, by rw [HS2.out]; exact hrow.below hBV (Nat.le_refl _), Lib.hid (HB.out.trans (hBV.mono hsz))⟩, by simp [intOf]; omega⟩
          · rw [hess] at hq
            have HS2 := Lib.hid (HSj.out.trans (if_pos (by simp [hess])))
            clear HSj HEj hess
            generalize Tt.pts ess j = lj at *
            go_region_held3 (fun W => (W.cell? ⟨w.heap.size, 0, none⟩ = some (.int .i64 n) ∧ W.cell? ⟨w.heap.size, 1, none⟩ = some (.int .u64 (on : Int))) ∧ (W.cell? ⟨wr.heap.size, 0, none⟩ = some (.int .u64 (x.1 : Int)) ∧ W.cell? ⟨wr.heap.size, 1, none⟩ = some (.int .u64 (x.2 : Int))) ∧ Hid (Below V.heap.size V W))
              (first | (refine ⟨⟨?_, ?_⟩, ⟨?_, ?_⟩, ?_⟩ <;> with_reducible assumption) | (go_split_ands; refine ⟨⟨?_, ?_⟩, ⟨?_, ?_⟩, ?_⟩ <;> with_reducible assumption))
              (first | (go_at_call 49; (with_reducible refine ((CTi _ (HST.out.next (below_nxt HWV.out HD.out))).out).mono ?_); rintro e w2 ⟨rfl, hw2⟩; have hb2 := below_nxt HD.out hw2; have HB2 := Lib.hid hb2; have k1 := (hb2.cell (p := ⟨w.heap.size, 0, none⟩) t0).trans t1; have k2 := (hb2.cell (p := ⟨w.heap.size, 1, none⟩) t0).trans t2; have k3 := (hb2.cell (p := ⟨wr.heap.size, 0, none⟩) d0).trans d1; have k4 := (hb2.cell (p := ⟨wr.heap.size, 1, none⟩) d0).trans d2; clear hb2 hw2))
            have hBV := HLB.out.trans (HB2.out.mono HLB.out.size)
            have hrow' := hrow.below hBV (Nat.le_refl _)
            have HBV := Lib.hid (HB.out.trans (hBV.mono hsz))
            have hsz2 := hBV.size
            clear hBV hrow k1 k2 k3 k4
            go_wp2_with (at_builtin; refine wpList_append_nat rfl _ _ 71 rfl 3 i0 .i64 8 Tryd.underlying71 hi0 hz0 hz1 hz2 (by omega) _ _ lj [j] rfl rfl w1.heap.size (hrow'.below ((Below.refl _ _).alloc (Nat.le_refl _) _) (Nat.le_refl _)) ((Row.one 0 _ _ _ (Nat.zero_le _) j _ rfl).sees) (by simp; omega) (by simp; omega) ?_; intro v5 w5 hr5 hb5)
            have hbA := ((Below.refl w2.heap.size w2).alloc (Nat.le_refl _) (.cells #[.int .i64 (j : Int)] 3)).mono (show w1.heap.size ≤ w2.heap.size by omega)
            exact ⟨⟨j + 1, by omega, rfl, by rw [HS2.out]; exact hr5, Lib.hid (HBV.out.trans (hbA.trans hb5))⟩, by simp [intOf]; omega⟩
        · obtain rfl : j = l.length := by omega
          go_wp2
          refine bodyPost_ret (v := .tuple #[u11, .int .i64 0]) (by simp [results, Tryd.results35, go_sem]) rfl ⟨u11, rfl, ?_, below_nxt HW1.out HB.out⟩
          rw [hEL.out]
          exact hrow.sees
end Go.Proofs.YtabflijfbjdpgaaDoor
