/- Closed matrices with their errors; Extent and Witness of package bounds. -/
import Derived.Test.YtkemicfaiipidaaBu
import Derived.Test.YtkemicfaiipidaaBg
namespace Bn
/-- The error of bounds with indices. -/
def cix (n : Int) (R : List (List Int)) (f : Int) (l : List Int) : Int := if chk n R = 0 then (if l.all (idx f n) then 0 else 2) else chk n R
/-- The error of closing bounds with indices. -/
def cwE (n : Int) (R : List (List Int)) (f : Int) (l : List Int) : Int := if cix n R f l = 0 then (if ok n.toNat (mx R) then 0 else 16) else cix n R f l
/-- Closed bounds of bounds that came in. -/
def cl (n : Int) (R : List (List Int)) : Mx := clo n.toNat (mx R)
def extV (n : Int) (R : List (List Int)) (i : Int) : Int × Int × Int := if cwE n R 0 [i] = 0 then (opp (cl n R i.toNat 0), cl n R 0 i.toNat, 0) else (0, 0, cwE n R 0 [i])
/-- The least times, or those before the first that has none. -/
def witT (n : Int) (R : List (List Int)) (k : Nat) : List Int := (List.range k).map fun i => opp (cl n R (i + 1) 0)
def witN (n : Int) (R : List (List Int)) : Bool := (List.range n.toNat).all fun i => cl n R (i + 1) 0 != -1099511627776
def witV (n : Int) (R : List (List Int)) : List Int × Int := if cwE n R 0 [] = 0 then (if witN n R then (witT n R n.toNat, 0) else ([], 14)) else ([], cwE n R 0 [])
theorem cix_chk {n : Int} {R : List (List Int)} {f : Int} {l : List Int} (h : cix n R f l = 0) : chk n R = 0 ∧ l.all (idx f n) = true := by
  unfold cix at h
  by_cases e : chk n R = 0
  · rw [if_pos e] at h
    cases g : l.all (idx f n)
    · rw [g] at h; simp at h
    · exact ⟨e, rfl⟩
  · rw [if_neg e] at h; exact absurd h e
theorem cwE_ok {n : Int} {R : List (List Int)} {f : Int} {l : List Int} (h : cwE n R f l = 0) : cix n R f l = 0 ∧ ok n.toNat (mx R) = true := by
  unfold cwE at h
  by_cases e : cix n R f l = 0
  · rw [if_pos e] at h
    cases g : ok n.toNat (mx R)
    · rw [g] at h; simp at h
    · exact ⟨e, rfl⟩
  · rw [if_neg e] at h; exact absurd h e
theorem idx_iff {f n x : Int} : idx f n x = true ↔ f ≤ x ∧ x ≤ n := by unfold idx; simp
theorem clo_bd {n : Nat} {b : Mx} (hR : Rt n b) {i j : Nat} (hi : i ≤ n) (hj : j ≤ n) : -4000000000000 ≤ clo n b i j ∧ clo n b i j ≤ 4000000000000 := by
  by_cases e : clo n b i j = -1099511627776
  · omega
  · have := fw_bd hR (Nat.le_refl _) hi hj e
    unfold clo at *
    omega
theorem witT_succ (n : Int) (R : List (List Int)) (k : Nat) : witT n R (k + 1) = witT n R k ++ [opp (cl n R (k + 1) 0)] := by simp [witT, List.range_succ]
theorem witT_len (n : Int) (R : List (List Int)) (k : Nat) : (witT n R k).length = k := by simp [witT]
theorem opp_no {x : Int} (hx : -4000000000000 ≤ x ∧ x ≤ 1000000000000) : opp x = -1099511627776 ↔ x = -1099511627776 := by unfold opp; split <;> omega
end Bn
namespace Go.Proofs.Ytkemicfaiipidaa
open Go.RowKit

theorem SeeI.nil (w : World) : SeeI w (.slice none 0 0) [] := ⟨none, 0, rfl, Nat.le_refl _, by omega, fun h => by simp at h⟩
theorem SeeI.one (w : World) (x : Int) (T : TypeId) : SeeI (w.alloc (.cells #[.int .i64 x] T)) (.slice (some ⟨w.heap.size, 0, none⟩) 1 1) [x] :=
  ⟨_, 1, rfl, Nat.le_refl _, by omega, fun _ => ⟨w.heap.size, 0, rfl, by simp, fun i hi => by
    obtain rfl : i = 0 := by simp at hi; omega
    simp⟩⟩
theorem SeeI.two (w : World) (x y : Int) (T : TypeId) : SeeI (w.alloc (.cells #[.int .i64 x, .int .i64 y] T)) (.slice (some ⟨w.heap.size, 0, none⟩) 2 2) [x, y] :=
  ⟨_, 2, rfl, Nat.le_refl _, by omega, fun _ => ⟨w.heap.size, 0, rfl, by simp, fun i hi => by
    have h : i = 0 ∨ i = 1 := by simp at hi; omega
    rcases h with rfl | rfl <;> simp⟩⟩

set_option maxHeartbeats 4000000 in
set_option maxRecDepth 100000 in
theorem bCix_any (n f : Int) (v il : Value) (R : List (List Int)) (l : List Int) (w : World) (hs : SeesR w v R) (hl : SeeI w il l) :
    Calls Try.prog 36 #[.agg #[.int .i64 n, v], .int .i64 f, il] w fun e w' => e = .returned (.int .i64 (Bn.cix n R f l)) ∧ Below w.heap.size w w' := by
  have CC := fun W (h : SeesR W v R) => Lib.hid (bChk_any n v R W h)
  have HS := Lib.hid hs
  obtain ⟨ao, cap, rfl, hcap1, hcap2, -⟩ := hs
  have HI := Lib.hid hl
  obtain ⟨io, icap, rfl, hi1, hi2, hI⟩ := hl
  have HC := Lib.hid hI
  obtain ⟨B0, L0⟩ := boxB_new w n (.slice ao R.length cap) 24
  have HL := Lib.hid L0
  have HSX := Lib.hid (HS.out.step L0)
  have HB := Lib.hid B0
  clear L0 hI B0
  by_cases h1 : Bn.chk n R = 0
  · have hr : Bn.cix n R f l = if l.all (Bn.idx f n) then 0 else 2 := if_pos h1
    have HNo := Lib.hid (fun i (hi : i < l.length) (h : Bn.idx f n (l.getD i 0) = false) => show Bn.cix n R f l = 2 by
      rw [hr, if_neg]
      intro g
      have := List.all_eq_true.1 g (l.getD i 0) (by rw [List.getD_eq_getElem?_getD, List.getElem?_eq_getElem hi]; exact List.getElem_mem hi)
      rw [h] at this; cases this)
    have HYes := Lib.hid (fun (h : ∀ i, i < l.length → Bn.idx f n (l.getD i 0) = true) => show Bn.cix n R f l = 0 by
      rw [hr, if_pos]
      rw [List.all_eq_true]
      intro x hx
      obtain ⟨i, hi, rfl⟩ := List.mem_iff_getElem.1 hx
      have := h i hi
      rw [List.getD_eq_getElem?_getD, List.getElem?_eq_getElem hi] at this
      exact this)
    rw [h1] at CC
    clear hr h1
    generalize Bn.cix n R f l = q at *
    go_enter Try.func36, Try.ntmps36
    go_wp2_with (go_at_call 43; refine ((CC _ HSX.out).out).mono ?_; rintro e w1 ⟨rfl, hb1⟩; have HB1 := Lib.hid (below_nxt HL.out hb1); have HBx := Lib.hid (HB.out.step hb1); clear hb1)
    go_loopw [17] (fun s17 wr => ∃ i : Nat, i ≤ l.length ∧ s17 = .int .i64 (i : Int) ∧ BoxB wr w.heap.size n (.slice ao R.length cap) ∧ Hid (∀ a, a < i → Bn.idx f n (l.getD a 0) = true) ∧ Hid (Below w.heap.size w wr)) (fun s17 _ => l.length - (intOf s17).toNat)
    case atStart => exact ⟨0, Nat.zero_le _, rfl, HBx.out, Lib.hid (fun a h => by omega), HB1⟩
    case round =>
      clear HBx HB1
      obtain ⟨i, hi, rfl, hB, HJ, HBW⟩ := hrel
      have HBx := Lib.hid hB
      obtain ⟨b0, b1, b2⟩ := hB
      by_cases hil : i < l.length
      · obtain ⟨b, off, rfl, hb, c1⟩ := HC.out.at HBW.out hil
        have HNi := Lib.hid (HNo.out i hil)
        have HJ2 : Hid (Bn.idx f n (l.getD i 0) = true → ∀ a, a < i + 1 → Bn.idx f n (l.getD a 0) = true) := Lib.hid (fun h a ha => by
          by_cases e : a = i
          · rw [e]; exact h
          · exact HJ.out a (by omega))
        clear HNo HYes HJ
        generalize l.getD i 0 = x at *
        by_cases hx : Bn.idx f n x = true
        · have HJ3 := Lib.hid (HJ2.out hx)
          obtain ⟨hx1, hx2⟩ := Bn.idx_iff.1 hx
          clear hx HJ2 HNi
          go_wp2
          all_goals first | exact ⟨⟨i + 1, by omega, by first | rfl | go_num, HBx.out, HJ3, HBW⟩, by simp [intOf]; omega⟩ | (exfalso; grind)
        · have HN2 := Lib.hid (HNi.out (by simpa using hx))
          have hx3 : ¬ (f ≤ x ∧ x ≤ n) := fun h => hx (Bn.idx_iff.2 h)
          clear hx HJ2 HNi
          go_wp2
          all_goals first | exact bodyPost_ret (v := .int .i64 2) (by simp [results, Try.results36, go_sem]) rfl ⟨by rw [HN2.out], HBW.out⟩ | (exfalso; grind)
      · obtain rfl : i = l.length := by omega
        have HR := Lib.hid (HYes.out HJ.out)
        clear HNo HYes HJ
        go_wp2
        exact bodyPost_ret (v := .int .i64 0) (by simp [results, Try.results36, go_sem]) rfl ⟨by rw [HR.out], HBW.out⟩
  · have hr : Bn.cix n R f l = Bn.chk n R := if_neg h1
    rw [hr]
    clear hr
    generalize Bn.chk n R = q at *
    go_enter Try.func36, Try.ntmps36
    go_wp2_with (go_at_call 43; refine ((CC _ HSX.out).out).mono ?_; rintro e w1 ⟨rfl, hb1⟩; have HB1 := Lib.hid (below_nxt HL.out hb1); clear hb1)
    go_ret
    exact ⟨rfl, HB1.out⟩

/-- What closedWith leaves. -/
def CwP (n f : Int) (R : List (List Int)) (l : List Int) (w : World) (e : Ending) (w' : World) : Prop := ∃ p, e = .returned (.tuple #[p, .int .i64 (Bn.cwE n R f l)]) ∧ (Bn.cwE n R f l ≠ 0 → p = .pointer none) ∧
      (Bn.cwE n R f l = 0 → ∃ g u, p = .pointer (some ⟨g, 0, none⟩) ∧ w.heap.size ≤ g ∧ MtxI w' g n u ∧ ∀ i j, i ≤ n.toNat → j ≤ n.toNat → u i j = Bn.cl n R i j) ∧ Below w.heap.size w w'
set_option maxHeartbeats 4000000 in
set_option maxRecDepth 100000 in
theorem bCW_any (n f : Int) (v il : Value) (R : List (List Int)) (l : List Int) (w : World) (hs : SeesR w v R) (hl : SeeI w il l) :
    Calls Try.prog 54 #[.agg #[.int .i64 n, v], .int .i64 f, il] w (CwP n f R l w) := by
  have CC := fun W (h : SeesR W v R) (h2 : SeeI W il l) => Lib.hid (bCix_any n f v il R l W h h2)
  have HS := Lib.hid hs
  have HI := Lib.hid hl
  obtain ⟨ao, cap, rfl, hcap1, hcap2, -⟩ := hs
  obtain ⟨io, icap, rfl, hi1, hi2, -⟩ := hl
  obtain ⟨B0, L0⟩ := boxB_new w n (.slice ao R.length cap) 24
  have HL := Lib.hid L0
  have HSX := Lib.hid (HS.out.step L0)
  have HIX := Lib.hid (HI.out.step L0)
  have HB := Lib.hid B0
  clear L0 B0
  by_cases h1 : Bn.cix n R f l = 0
  · obtain ⟨hchk, -⟩ := Bn.cix_chk h1
    obtain ⟨N, rfl, hN, hS, hR⟩ := Bn.chk_ok hchk
    have hr : Bn.cwE N R f l = if Bn.ok N (Bn.mx R) then 0 else 16 := by unfold Bn.cwE; rw [if_pos h1]; rfl
    have HR := Lib.hid hR
    have CO := fun W (h : SeesR W (.slice ao R.length cap) R) => Lib.hid (bOf_any N _ R W hN hS h)
    have CCl := fun W g (h : MtxI W g N (Bn.sq N (Bn.mx R) Bn.zer)) => Lib.hid (bClose_any N g (Bn.mx R) _ W hR h (fun i j hi hj => Bn.sq_in hi hj))
    rw [h1] at CC
    clear h1 hchk
    cases hok : Bn.ok N (Bn.mx R) <;> rw [hok] at CCl hr <;> clear hok <;> have HE := Lib.hid hr <;> clear hr
    · go_enter Try.func54, Try.ntmps54
      go_wp2_with (first
        | (go_at_call 36; refine ((CC _ HSX.out HIX.out).out).mono ?_; rintro e w1 ⟨rfl, hb1⟩; have HB1 := Lib.hid (below_nxt HL.out hb1); have HSY := Lib.hid (HSX.out.step hb1); obtain ⟨b0, b1, b2⟩ := HB.out.step hb1; clear hb1)
        | (go_at_call 38; refine ((CO _ HSY.out).out).mono ?_; rintro e w2 ⟨g, rfl, hg1, hg2, hb2⟩; have HB2 := Lib.hid (below_nxt HB1.out hb2); have HG2 := Lib.hid hg2; have hz1 := HB1.out.size; have hg3 := hg2.1; clear hb2 hg2)
        | (go_at_call 56; refine ((CCl _ _ HG2.out).out).mono ?_; rintro e w3 ⟨rfl, hc1, hc2⟩; have HC1 := Lib.hid hc1; have HB3 := Lib.hid (HB2.out.trans (below_grown hc2 HB2.out.size (by omega))); clear hc1 hc2))
      refine bodyPost_ret (v := .tuple #[.pointer none, .int .i64 16]) (by simp [results, Try.results54, go_sem]) rfl ?_
      have he : Bn.cwE N R f l = 16 := HE.out
      exact ⟨_, by rw [he], fun _ => rfl, fun h => by omega, HB3.out⟩
    · go_enter Try.func54, Try.ntmps54
      go_wp2_with (first
        | (go_at_call 36; refine ((CC _ HSX.out HIX.out).out).mono ?_; rintro e w1 ⟨rfl, hb1⟩; have HB1 := Lib.hid (below_nxt HL.out hb1); have HSY := Lib.hid (HSX.out.step hb1); obtain ⟨b0, b1, b2⟩ := HB.out.step hb1; clear hb1)
        | (go_at_call 38; refine ((CO _ HSY.out).out).mono ?_; rintro e w2 ⟨g, rfl, hg1, hg2, hb2⟩; have HB2 := Lib.hid (below_nxt HB1.out hb2); have HG2 := Lib.hid hg2; have hz1 := HB1.out.size; have hg3 := hg2.1; clear hb2 hg2)
        | (go_at_call 56; refine ((CCl _ _ HG2.out).out).mono ?_; rintro e w3 ⟨rfl, hc1, hc2⟩; have HC1 := Lib.hid hc1; have HB3 := Lib.hid (HB2.out.trans (below_grown hc2 HB2.out.size (by omega))); clear hc1 hc2))
      refine bodyPost_ret (v := .tuple #[.pointer (some ⟨g, 0, none⟩), .int .i64 0]) (by simp [results, Try.results54, go_sem]) rfl ?_
      have he : Bn.cwE N R f l = 0 := HE.out
      obtain ⟨u', h1, h2⟩ := HC1.out trivial
      exact ⟨_, by rw [he], fun h => absurd he h, fun _ => ⟨g, u', rfl, by omega, h1, h2⟩, HB3.out⟩
  · have hr : Bn.cwE n R f l = Bn.cix n R f l := if_neg h1
    have h1' := Lib.hid h1
    have HE := Lib.hid hr
    clear hr
    generalize Bn.cix n R f l = q at *
    go_enter Try.func54, Try.ntmps54
    go_wp2_with (go_at_call 36; refine ((CC _ HSX.out HIX.out).out).mono ?_; rintro e w1 ⟨rfl, hb1⟩; have HB1 := Lib.hid (below_nxt HL.out hb1); clear hb1)
    exact bodyPost_ret (v := .tuple #[.pointer none, .int .i64 q]) (by simp [results, Try.results54, go_sem]) rfl ⟨_, by rw [HE.out], fun _ => rfl, fun h => absurd (HE.out.symm.trans h) h1'.out, HB1.out⟩

set_option maxHeartbeats 4000000 in
set_option maxRecDepth 100000 in
theorem bExt_any (n i : Int) (v : Value) (R : List (List Int)) (w : World) (hs : SeesR w v R) :
    Calls Try.prog 22 #[.agg #[.int .i64 n, v], .int .i64 i] w fun e w' => e = .returned (.tuple #[.int .i64 (Bn.extV n R i).1, .int .i64 (Bn.extV n R i).2.1, .int .i64 (Bn.extV n R i).2.2]) ∧ Below w.heap.size w w' := by
  have HS := Lib.hid hs
  obtain ⟨ao, cap, rfl, hcap1, hcap2, -⟩ := hs
  obtain ⟨B0, L0⟩ := boxB_new w n (.slice ao R.length cap) 24
  have HL := Lib.hid L0
  have HSX := HS.out.step L0
  clear B0
  have L1 : Below (w.alloc (.cells #[.int .i64 n, .slice ao R.length cap] 24)).heap.size (w.alloc (.cells #[.int .i64 n, .slice ao R.length cap] 24)) ((w.alloc (.cells #[.int .i64 n, .slice ao R.length cap] 24)).alloc (.cells #[.int .i64 i] 3)) := (Below.refl _ _).alloc (Nat.le_refl _) _
  have hI := SeeI.one (w.alloc (.cells #[.int .i64 n, .slice ao R.length cap] 24)) i 3
  have hsz : (w.alloc (.cells #[.int .i64 n, .slice ao R.length cap] 24)).heap.size = w.heap.size + 1 := by simp
  rw [hsz] at hI
  have CW := Lib.hid (bCW_any n 0 _ _ R [i] _ (HSX.step L1) hI)
  have HL2 := Lib.hid (below_nxt L0 L1)
  clear hsz hI L1 L0 HSX HL
  by_cases h1 : Bn.cwE n R 0 [i] = 0
  · have hr : Bn.extV n R i = (Bn.opp (Bn.cl n R i.toNat 0), Bn.cl n R 0 i.toNat, 0) := if_pos h1
    rw [hr]
    obtain ⟨h2, h3⟩ := Bn.cwE_ok h1
    obtain ⟨h4, h5⟩ := Bn.cix_chk h2
    have h6 : Bn.idx 0 n i = true := by simpa using h5
    obtain ⟨h7, h8⟩ := Bn.idx_iff.1 h6
    obtain ⟨N, rfl, hN, hS, hR⟩ := Bn.chk_ok h4
    obtain ⟨k, rfl⟩ := Int.eq_ofNat_of_zero_le h7
    have hk : k ≤ N := by omega
    have hb := Bn.clo_bd hR hk (Nat.zero_le N)
    have CLe := fun W g u (hi : k < 13) (hM : MtxI W g N u) (hu : u k 0 = Bn.cl N R k 0) => Lib.hid (show Calls Try.prog 55 #[.pointer (some ⟨g, 0, none⟩), .int .i64 (k : Int)] W fun e w' => e = .returned (.int .i64 (Bn.opp (Bn.cl N R k 0))) ∧ w' = W by
      have := bLeast_any g k N u W hi hM (by rw [hu]; exact hb)
      rwa [hu] at this)
    rw [Int.toNat_natCast]
    have hk13 : k < 13 := by omega
    have zk : (k : Int) < 13 := by omega
    clear hr h2 h3 h4 h5 h6 hb
    go_enter Try.func22, Try.ntmps22
    go_wp2_with (first
      | (go_at_call 54; refine (CW.out).mono ?_; rintro e w1 ⟨p, rfl, -, hp, hb1⟩; obtain ⟨g, u, rfl, hg1, hM, hu⟩ := hp h1; rw [h1]; have HB1 := Lib.hid (below_nxt HL2.out hb1); have HM := Lib.hid hM; have hu1 := hu k 0 (by simpa using hk) (Nat.zero_le _); have hu2 := hu 0 k (Nat.zero_le _) (by simpa using hk); have HU1 := Lib.hid hu1; have m0 := hM.1; have m1 := (hM.2.2 0 k (by omega) hk13).1; rw [hu2] at m1; clear hu hu1 hu2 hM hb1 hp))
    go_quiet (first | (go_at_call 55; exact Calls.quiet_of_same ((CLe (w1.drewN _) g u hk13 HM.out HU1.out).out)))
    go_wp2
    exact bodyPost_ret (v := .tuple #[.int .i64 (Bn.opp (Bn.cl N R k 0)), .int .i64 (Bn.cl N R 0 k), .int .i64 0]) (by simp [results, Try.results22, go_sem]) rfl ⟨rfl, HB1.out.trans (below_drewN _ _)⟩
  · have hr : Bn.extV n R i = (0, 0, Bn.cwE n R 0 [i]) := if_neg h1
    rw [hr]
    clear hr
    go_enter Try.func22, Try.ntmps22
    go_wp2_with (go_at_call 54; refine (CW.out).mono ?_; rintro e w1 ⟨p, rfl, hp, -, hb1⟩; obtain rfl := hp h1; have HB1 := Lib.hid (below_nxt HL2.out hb1); clear hb1 hp)
    exact bodyPost_ret (v := .tuple #[.int .i64 0, .int .i64 0, .int .i64 (Bn.cwE n R 0 [i])]) (by simp [results, Try.results22, go_sem]) rfl ⟨rfl, HB1.out⟩

set_option maxHeartbeats 4000000 in
set_option maxRecDepth 100000 in
theorem bWit_any (n : Int) (v : Value) (R : List (List Int)) (w : World) (hs : SeesR w v R) :
    Calls Try.prog 20 #[.agg #[.int .i64 n, v]] w fun e w' => ∃ u, e = .returned (.tuple #[u, .int .i64 (Bn.witV n R).2]) ∧ SeesI w' u (Bn.witV n R).1 ∧ Below w.heap.size w w' := by
  obtain ⟨i0, hi0, hz0, hz1, hz2⟩ := info_int
  have HS := Lib.hid hs
  obtain ⟨ao, cap, rfl, hcap1, hcap2, -⟩ := hs
  obtain ⟨B0, L0⟩ := boxB_new w n (.slice ao R.length cap) 24
  have HL := Lib.hid L0
  have CW := Lib.hid (bCW_any n 0 _ _ R [] _ (HS.out.step L0) (SeeI.nil _))
  clear B0 L0
  by_cases h1 : Bn.cwE n R 0 [] = 0
  · have hr : Bn.witV n R = if Bn.witN n R then (Bn.witT n R n.toNat, 0) else ([], 14) := if_pos h1
    obtain ⟨h2, h3⟩ := Bn.cwE_ok h1
    obtain ⟨h4, -⟩ := Bn.cix_chk h2
    obtain ⟨N, rfl, hN, hS, hR⟩ := Bn.chk_ok h4
    have HB := Lib.hid (fun k (hk : k ≤ N) => show -4000000000000 ≤ Bn.cl N R k 0 ∧ Bn.cl N R k 0 ≤ 4000000000000 from Bn.clo_bd hR hk (Nat.zero_le N))
    have HB2 := Lib.hid (fun k (hk : k ≤ N) => show Bn.opp (Bn.cl N R k 0) = -1099511627776 ↔ Bn.cl N R k 0 = -1099511627776 from by
      by_cases e : Bn.clo N (Bn.mx R) k 0 = -1099511627776
      · have : Bn.cl N R k 0 = -1099511627776 := e
        rw [this]; decide
      · have := Bn.fw_bd hR (Nat.le_refl _) hk (Nat.zero_le N) e
        exact Bn.opp_no (by unfold Bn.cl; rw [Int.toNat_natCast]; unfold Bn.clo; omega))
    have CLe := fun k (hk : k ≤ N) W g u (hM : MtxI W g N u) (hu : u k 0 = Bn.cl N R k 0) => Lib.hid (show Calls Try.prog 55 #[.pointer (some ⟨g, 0, none⟩), .int .i64 (k : Int)] W fun e w' => e = .returned (.int .i64 (Bn.opp (Bn.cl N R k 0))) ∧ w' = W by
      have := bLeast_any g k N u W (by omega) hM (by rw [hu]; exact HB.out k hk)
      rwa [hu] at this)
    have HNo := Lib.hid (fun k (hk : k < N) (h : Bn.cl N R (k + 1) 0 = -1099511627776) => show Bn.witV N R = ([], 14) by
      rw [hr, if_neg]
      unfold Bn.witN
      intro g
      have := List.all_eq_true.1 g k (List.mem_range.2 (by simpa using hk))
      rw [h] at this; simp at this)
    have HYes := Lib.hid (fun (h : ∀ k, k < N → Bn.cl N R (k + 1) 0 ≠ -1099511627776) => show Bn.witV N R = (Bn.witT N R N, 0) by
      rw [hr, if_pos]
      · rfl
      · unfold Bn.witN
        rw [List.all_eq_true]
        intro k hk
        have := h k (by simpa using List.mem_range.1 hk)
        simpa using this)
    clear hr h2 h3 h4
    generalize Bn.witV N R = q at *
    go_enter Try.func20, Try.ntmps20
    go_wp2_with (go_at_call 54; refine (CW.out).mono ?_; rintro e w1 ⟨p, rfl, -, hp, hb1⟩; obtain ⟨g, u, rfl, hg1, hM, hu⟩ := hp h1; rw [h1]; have HB1 := Lib.hid (below_nxt HL.out hb1); have HM := Lib.hid hM; have HU := Lib.hid hu; clear hu hM hb1 hp)
    clear CW
    go_loopw [6, 7] (fun s6 s7 wr => ∃ k : Nat, k ≤ N ∧ s7 = .int .i64 ((k : Int) + 1) ∧ Hid (RowI w1.heap.size 3 wr s6 (Bn.witT N R k)) ∧ Hid (Below w1.heap.size w1 wr) ∧ Hid (∀ a, a < k → Bn.cl N R (a + 1) 0 ≠ -1099511627776)) (fun _ s7 _ => N + 1 - (intOf s7).toNat)
    case atStart => exact ⟨0, Nat.zero_le _, by simp, Lib.hid (RowI.nil _ _ _), Lib.hid (Below.refl _ _), Lib.hid (fun a h => by omega)⟩
    case round =>
      obtain ⟨k, hk, rfl, HR, HBW, HJ⟩ := hrel
      obtain ⟨ra, rc, hrv⟩ := HR.out.form
      rw [Bn.witT_len] at hrv
      subst hrv
      have hM := HM.out.step HBW.out
      have m0 := hM.1
      have m1 := hM.2.1
      have HMr := Lib.hid hM
      clear hM
      have hzw := HBW.out.size
      by_cases hkl : k < N
      · have hq : (k : Int) + 1 ≤ (N : Int) := by omega
        have CL1 := fun W (hM : MtxI W g N u) => CLe (k + 1) (by omega) W g u hM (HU.out (k + 1) 0 (by simp; omega) (Nat.zero_le _))
        simp only [Int.natCast_add, Int.cast_ofNat_Int] at CL1
        have hb2 := HB2.out (k + 1) (by omega)
        have HS2 := Lib.hid (Bn.witT_succ N R k)
        have HNk := Lib.hid (HNo.out k hkl)
        have HJ2 : Hid (Bn.cl N R (k + 1) 0 ≠ -1099511627776 → ∀ a, a < k + 1 → Bn.cl N R (a + 1) 0 ≠ -1099511627776) := Lib.hid (fun h a ha => by
          by_cases e : a = k
          · rw [e]; exact h
          · exact HJ.out a (by omega))
        have hll := Bn.witT_len N R k
        clear HB HB2 CLe HNo HYes HJ
        by_cases hc : Bn.cl N R (k + 1) 0 = -1099511627776
        · have HN2 := Lib.hid (HNk.out hc)
          have ho := hb2.2 hc
          rw [ho] at CL1
          clear hb2 HNk HJ2 hc ho
          go_wp2_with (go_at_call 55; refine ((CL1 _ HMr.out).out).mono ?_; rintro e w2 ⟨rfl, rfl⟩)
          exact bodyPost_ret (v := .tuple #[.slice none 0 0, .int .i64 14]) (by simp [results, Try.results20, go_sem]) rfl ⟨_, by rw [HN2.out], by rw [HN2.out]; exact SeesI.nil _, HB1.out.trans (HBW.out.mono HB1.out.size)⟩
        · have HJ3 := Lib.hid (HJ2.out hc)
          have ho : ¬ Bn.opp (Bn.cl N R (k + 1) 0) = -1099511627776 := fun e => hc (hb2.1 e)
          have HLen : Hid ((Bn.witT N R k).length + [Bn.opp (Bn.cl N R (k + 1) 0)].length ≤ 1048576) := Lib.hid (by rw [hll]; simp; omega)
          have HWT := Lib.hid (fun (o : Obj) => (HR.out.step ((Below.refl _ _).alloc (Nat.le_refl _) o)))
          have HN1 := Lib.hid (SeesI.one wr (Bn.opp (Bn.cl N R (k + 1) 0)) 3)
          have HLL := Lib.hid hll
          clear hb2 HNk HJ2 hc hll
          generalize Bn.opp (Bn.cl N R (k + 1) 0) = y at *
          generalize Bn.witT N R k = l at *
          go_wp2_with (first
            | (go_at_call 55; refine ((CL1 _ HMr.out).out).mono ?_; rintro e w2 ⟨rfl, rfl⟩)
            | (at_builtin; refine wpList_append_int rfl _ _ 42 rfl 3 i0 Try.underlying42 hi0 hz0 hz1 hz2 _ _ l [y] rfl rfl w1.heap.size (HWT.out _) HN1.out HLen.out (by simp; omega) ?_; intro a5 p5 w5 hr5 hg5 ho5; have hb5 := RowI.belowOwn (C := w1.heap.size) (HWT.out _) hg5 (by simp; omega) (Nat.le_refl _); have HR5 := Lib.hid hr5; have HB5 := Lib.hid ((HBW.out.alloc hzw _).trans hb5); clear hr5 hg5 ho5 hb5))
          exact ⟨⟨k + 1, by omega, by first | rfl | go_num, by rw [HS2.out]; exact HR5, HB5, HJ3⟩, by simp [intOf]; omega⟩
      · obtain rfl : k = N := by omega
        have HQ := Lib.hid (HYes.out HJ.out)
        have HSe := Lib.hid HR.out.sees
        clear HB HB2 CLe HNo HYes HJ
        go_wp2
        exact bodyPost_ret (v := .tuple #[.slice ra k rc, .int .i64 0]) (by simp [results, Try.results20, go_sem]) rfl ⟨_, by rw [HQ.out], by rw [HQ.out]; exact HSe.out, HB1.out.trans (HBW.out.mono HB1.out.size)⟩
  · have hr : Bn.witV n R = ([], Bn.cwE n R 0 []) := if_neg h1
    rw [hr]
    clear hr
    go_enter Try.func20, Try.ntmps20
    go_wp2_with (go_at_call 54; refine (CW.out).mono ?_; rintro e w1 ⟨p, rfl, hp, -, hb1⟩; obtain rfl := hp h1; have HB1 := Lib.hid (below_nxt HL.out hb1); clear hb1 hp)
    exact bodyPost_ret (v := .tuple #[.slice none 0 0, .int .i64 (Bn.cwE n R 0 [])]) (by simp [results, Try.results20, go_sem]) rfl ⟨_, rfl, SeesI.nil _, HB1.out⟩
end Go.Proofs.Ytkemicfaiipidaa

