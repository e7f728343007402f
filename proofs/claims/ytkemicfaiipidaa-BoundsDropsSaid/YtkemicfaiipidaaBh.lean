/- The errors of bounds: Check of package bounds and of its reference. -/
import Derived.Test.YtkemicfaiipidaaBf
namespace Bn
def cellE (i j : Nat) (x : Int) : Int := if isB x then (if i = j ∧ x ≠ 0 then 3 else 0) else 2
/-- The first that is not 0. -/
def fe (f : Nat → Int) : Nat → Int
  | 0 => 0
  | k + 1 => if fe f k = 0 then f k else fe f k
def rowE (N : Nat) (R : List (List Int)) (i : Nat) : Int := fe (fun j => cellE i j (mx R i j)) (N + 1)
def scn (N : Nat) (R : List (List Int)) : Int := fe (rowE N R) (N + 1)
def shpb (N : Nat) (R : List (List Int)) : Bool := R.all fun r => r.length == N + 1
/-- The error of bounds. -/
def chk (n : Int) (R : List (List Int)) : Int := if idx 0 12 n then (if (R.length : Int) = n + 1 then (if shpb n.toNat R then scn n.toNat R else 8) else 8) else 2
theorem fe_all {f : Nat → Int} : ∀ {k : Nat}, (∀ i, i < k → f i = 0) → fe f k = 0
  | 0, _ => rfl
  | k + 1, h => by rw [fe, fe_all (fun i hi => h i (by omega)), if_pos rfl]; exact h k (by omega)
theorem fe_more {f : Nat → Int} {k : Nat} (h : fe f k ≠ 0) : ∀ {m : Nat}, k ≤ m → fe f m = fe f k
  | m, hm => by
    induction m with
    | zero => rw [show k = 0 by omega]
    | succ m ih =>
      by_cases e : k = m + 1
      · rw [e]
      · rw [fe, ih (by omega), if_neg h]
theorem fe_stop {f : Nat → Int} {k m : Nat} (h : ∀ i, i < k → f i = 0) (hk : f k ≠ 0) (hm : k < m) : fe f m = f k := by
  have e : fe f (k + 1) = f k := by rw [fe, fe_all h, if_pos rfl]
  rw [fe_more (by rw [e]; exact hk) (show k + 1 ≤ m by omega), e]
theorem fe_no {f : Nat → Int} : ∀ {k : Nat}, fe f k = 0 → ∀ i, i < k → f i = 0
  | k + 1, h, i, hi => by
    rw [fe] at h
    by_cases e : fe f k = 0
    · rw [if_pos e] at h
      by_cases g : i = k
      · rw [g]; exact h
      · exact fe_no e i (by omega)
    · rw [if_neg e] at h; exact absurd h e
/-- All before the pair i, j are right. -/
def befE (N : Nat) (R : List (List Int)) (i j : Nat) : Prop := ∀ a b, a ≤ N → b ≤ N → (a < i ∨ (a = i ∧ b < j)) → cellE a b (mx R a b) = 0
theorem befE_next {N : Nat} {R : List (List Int)} {i j : Nat} (h : befE N R i j) (hc : cellE i j (mx R i j) = 0) : befE N R i (j + 1) := fun a b h1 h2 h3 => by
  by_cases e : a = i ∧ b = j
  · rw [e.1, e.2]; exact hc
  · exact h a b h1 h2 (by omega)
theorem befE_row {N : Nat} {R : List (List Int)} {i : Nat} (h : befE N R i (N + 1)) : befE N R (i + 1) 0 := fun a b h1 h2 h3 => h a b h1 h2 (by omega)
theorem befE_zero (N : Nat) (R : List (List Int)) : befE N R 0 0 := fun a b _ _ h => by omega
theorem scn_stop {N : Nat} {R : List (List Int)} {i j : Nat} (h : befE N R i j) (hi : i ≤ N) (hj : j ≤ N) (hc : cellE i j (mx R i j) ≠ 0) : scn N R = cellE i j (mx R i j) := by
  have h1 : rowE N R i = cellE i j (mx R i j) := fe_stop (f := fun j => cellE i j (mx R i j)) (fun b hb => h i b hi (by omega) (by omega)) hc (by omega)
  have h2 : ∀ a, a < i → rowE N R a = 0 := fun a ha => fe_all fun b hb => h a b (by omega) (by omega) (by omega)
  unfold scn
  rw [fe_stop h2 (by rw [h1]; exact hc) (by omega), h1]
theorem scn_all {N : Nat} {R : List (List Int)} (h : befE N R (N + 1) 0) : scn N R = 0 := fe_all fun a ha => fe_all fun b hb => h a b (by omega) (by omega) (by omega)
theorem scn_no {N : Nat} {R : List (List Int)} (h : scn N R = 0) {i j : Nat} (hi : i ≤ N) (hj : j ≤ N) : cellE i j (mx R i j) = 0 :=
  fe_no (fe_no h i (by omega)) j (by omega)
theorem shpb_no {N : Nat} {R : List (List Int)} {i : Nat} (hi : i < R.length) (h : (R.getD i []).length ≠ N + 1) : shpb N R = false := by
  unfold shpb
  rw [List.all_eq_false]
  refine ⟨R[i], List.getElem_mem hi, ?_⟩
  have e : R.getD i [] = R[i] := by rw [List.getD_eq_getElem?_getD, List.getElem?_eq_getElem hi]; rfl
  rw [e] at h
  simpa using h
theorem shpb_yes {N : Nat} {R : List (List Int)} (h : ∀ i, i < R.length → (R.getD i []).length = N + 1) : shpb N R = true := by
  unfold shpb
  rw [List.all_eq_true]
  intro r hr
  obtain ⟨i, hi, rfl⟩ := List.mem_iff_getElem.1 hr
  have e : R.getD i [] = R[i] := by rw [List.getD_eq_getElem?_getD, List.getElem?_eq_getElem hi]; rfl
  have := h i hi
  rw [e] at this
  simpa using this
theorem shpb_at {N : Nat} {R : List (List Int)} (h : shpb N R = true) {i : Nat} (hi : i < R.length) : (R.getD i []).length = N + 1 := by
  have e : R.getD i [] = R[i] := by rw [List.getD_eq_getElem?_getD, List.getElem?_eq_getElem hi]; rfl
  rw [e]
  simpa using List.all_eq_true.1 h R[i] (List.getElem_mem hi)
/-- Right bounds: what the matrix is then. -/
theorem chk_ok {n : Int} {R : List (List Int)} (h : chk n R = 0) : ∃ N : Nat, n = N ∧ N ≤ 12 ∧ Shp N R ∧ Rt N (mx R) := by
  unfold chk at h
  by_cases h1 : idx 0 12 n = true
  · rw [if_pos h1] at h
    by_cases h2 : (R.length : Int) = n + 1
    · rw [if_pos h2] at h
      by_cases h3 : shpb n.toNat R = true
      · rw [if_pos h3] at h
        have hb : 0 ≤ n ∧ n ≤ 12 := by unfold idx at h1; simpa using h1
        obtain ⟨N, rfl⟩ := Int.eq_ofNat_of_zero_le hb.1
        rw [Int.toNat_natCast] at h h3
        have hl : R.length = N + 1 := by omega
        have hN : N ≤ 12 := by omega
        refine ⟨N, rfl, hN, ⟨hl, fun i hi => shpb_at h3 (by omega)⟩, hN, fun i j hi hj => ?_, fun i hi => ?_⟩
        · have := scn_no h hi hj
          unfold cellE isB num at this
          by_cases e : mx R i j = -1099511627776
          · exact .inl e
          · right; grind
        · have := scn_no h hi hi
          unfold cellE at this
          grind
      · rw [if_neg h3] at h; omega
    · rw [if_neg h2] at h; omega
  · rw [if_neg h1] at h; omega
end Bn
namespace Go.Proofs.Ytkemicfaiipidaa
open Go.RowKit

set_option maxHeartbeats 4000000 in
set_option maxRecDepth 100000 in
theorem bChk_any (n : Int) (v : Value) (R : List (List Int)) (w : World) (hs : SeesR w v R) :
    Calls Try.prog 43 #[.agg #[.int .i64 n, v]] w fun e w' => e = .returned (.int .i64 (Bn.chk n R)) ∧ Below w.heap.size w w' := by
  have HS := Lib.hid hs
  obtain ⟨ao, cap, rfl, hcap1, hcap2, -⟩ := hs
  obtain ⟨P0, L0⟩ := boxB_new w n (.slice ao R.length cap) 24
  have HL := Lib.hid L0
  have CS := fun W => Lib.hid (bSize_any n W)
  obtain ⟨p0, p1, p2⟩ := id P0
  clear L0
  by_cases h1 : Bn.idx 0 12 n = true
  · rw [h1] at CS
    by_cases h2 : (R.length : Int) = n + 1
    · have hr : Bn.chk n R = if Bn.shpb n.toNat R then Bn.scn n.toNat R else 8 := by unfold Bn.chk; rw [if_pos h1, if_pos h2]
      have hb : 0 ≤ n ∧ n ≤ 12 := by unfold Bn.idx at h1; simpa using h1
      obtain ⟨N, rfl⟩ := Int.eq_ofNat_of_zero_le hb.1
      rw [Int.toNat_natCast] at hr
      have hN : N ≤ 12 := by omega
      have hl : R.length = N + 1 := by omega
      have HNo := Lib.hid (fun i (hi : i < R.length) (h : (R.getD i []).length ≠ N + 1) => show Bn.chk N R = 8 by rw [hr, Bn.shpb_no hi h]; rfl)
      have HYes := Lib.hid (fun (h : ∀ i, i < R.length → (R.getD i []).length = N + 1) => show Bn.chk N R = Bn.scn N R by rw [hr, Bn.shpb_yes h]; rfl)
      clear hr h1 h2 hb
      generalize Bn.chk N R = q at *
      generalize hK : R.length = K at *
      subst hl
      have HK := Lib.hid hK
      clear hK
      go_enter Try.func43, Try.ntmps43
      go_wp2_with (go_at_call 32; refine ((CS _).out).mono ?_; rintro e w1 ⟨rfl, rfl⟩)
      go_loopw [23] (fun s23 wr => ∃ i : Nat, i ≤ N + 1 ∧ s23 = .int .i64 (i : Int) ∧ BoxB wr w.heap.size N (.slice ao (N + 1) cap) ∧ Hid (∀ a, a < i → (R.getD a []).length = N + 1) ∧ Hid (Below w.heap.size w wr)) (fun s23 _ => N + 1 - (intOf s23).toNat)
      case atStart => exact ⟨0, Nat.zero_le _, rfl, P0, Lib.hid (fun a h => by omega), HL⟩
      case round =>
        clear P0 HL p0 p1 p2
        obtain ⟨i, hi, rfl, hG, HJ, HB⟩ := hrel
        have HG := Lib.hid hG
        obtain ⟨g0, g1, g2⟩ := hG
        by_cases hil : i < N + 1
        · obtain ⟨b, off, cap', ar, cr, hv, hb, c1, hc1, hc2, -⟩ := HS.out.at HB.out (i := i) (by rw [HK.out]; exact hil)
          simp only [Value.slice.injEq] at hv
          obtain ⟨rfl, -, rfl⟩ := hv
          have HNi := Lib.hid (HNo.out i hil)
          have HJ2 : Hid ((R.getD i []).length = N + 1 → ∀ a, a < i + 1 → (R.getD a []).length = N + 1) := Lib.hid (fun h a ha => by
            by_cases e : a = i
            · rw [e]; exact h
            · exact HJ.out a (by omega))
          have hq : (i : Int) < (N : Int) + 1 := by omega
          clear HNo HYes HJ
          generalize (R.getD i []).length = lr at *
          by_cases hlr : lr = N + 1
          · subst hlr
            go_wp2
            exact ⟨⟨i + 1, by omega, rfl, HG.out, Lib.hid (HJ2.out rfl), HB⟩, by simp [intOf]; omega⟩
          · go_wp2
            all_goals first | exact bodyPost_ret (v := .int .i64 8) (by simp [results, Try.results43, go_sem]) rfl ⟨by rw [HNi.out hlr], HB.out⟩ | (exfalso; omega)
        · obtain rfl : i = N + 1 := by omega
          have HQ := Lib.hid (HYes.out HJ.out)
          have HLen := HJ
          clear HNo HYes HJ
          rw [show ((N + 1 : Nat) : Int) = (N : Int) + 1 from rfl]
          go_wp2
          go_loopw [37] (fun s37 wr => ∃ i : Nat, i ≤ N + 1 ∧ s37 = .int .i64 (i : Int) ∧ BoxB wr w.heap.size N (.slice ao (N + 1) cap) ∧ Hid (Bn.befE N R i 0) ∧ Hid (Below w.heap.size w wr)) (fun s37 _ => N + 1 - (intOf s37).toNat)
          case atStart => exact ⟨0, Nat.zero_le _, rfl, HG.out, Lib.hid (Bn.befE_zero N R), HB⟩
          case round =>
            clear HG HB g0 g1 g2
            obtain ⟨i, hi, rfl, hG, HJ, HB⟩ := hrel
            have HG := Lib.hid hG
            obtain ⟨g0, g1, g2⟩ := hG
            by_cases hil : i < N + 1
            · obtain ⟨b, off, cap', ar, cr, hv, hb, c1, hc1, hc2, hci⟩ := HS.out.at HB.out (i := i) (by rw [HK.out]; exact hil)
              simp only [Value.slice.injEq] at hv
              obtain ⟨rfl, -, rfl⟩ := hv
              have HC := Lib.hid hci
              have HLi := Lib.hid (HLen.out i hil)
              rw [HLi.out] at c1 hc1
              have hq : (i : Int) < (N : Int) + 1 := by omega
              obtain ⟨wo, rfl⟩ : ∃ wo, wo = wr := ⟨_, rfl⟩
              clear hci
              go_wp2
              go_loopw [44] (fun s44 wr => ∃ j : Nat, j ≤ N + 1 ∧ s44 = .int .i64 (j : Int) ∧ BoxB wr w.heap.size N (.slice (some ⟨b, off, none⟩) (N + 1) cap) ∧ Hid (Bn.befE N R i j) ∧ Hid (Below w.heap.size w wr)) (fun s44 _ => N + 1 - (intOf s44).toNat)
              case atStart => exact ⟨0, Nat.zero_le _, rfl, HG.out, HJ, HB⟩
              case round =>
                clear HG HB HJ g0 g1 g2 c1
                obtain ⟨j, hj, rfl, hG, HJ, HB⟩ := hrel
                have HG := Lib.hid hG
                obtain ⟨g0, g1, g2⟩ := hG
                by_cases hjl : j < N + 1
                · obtain ⟨d, o2, rfl, hd, c2⟩ := HC.out.at HB.out (i := j) (by rw [HLi.out]; exact hjl)
                  have c3 : wr.cell? ⟨d, o2 + j, none⟩ = some (.int .i64 (Bn.mx R i j)) := c2
                  have HJ2 := Lib.hid (Bn.befE_next HJ.out)
                  have HStop := Lib.hid (fun h => HQ.out.trans (Bn.scn_stop HJ.out (show i ≤ N by omega) (show j ≤ N by omega) h))
                  have CB := fun W => Lib.hid (bIsB_any (Bn.mx R i j) W)
                  clear c2 HQ
                  unfold Bn.cellE at HJ2 HStop
                  generalize Bn.mx R i j = x at *
                  generalize Bn.isB x = bb at *
                  cases bb
                  · go_wp2_with (go_at_call 65; refine ((CB _).out).mono ?_; rintro e w1 ⟨rfl, rfl⟩)
                    exact bodyPost_ret (v := .int .i64 2) (by simp [results, Try.results43, go_sem]) rfl ⟨by rw [HStop.out (by simp)]; rfl, HB.out⟩
                  · by_cases hx : i = j ∧ x ≠ 0
                    · obtain ⟨rfl, hx⟩ := hx
                      go_wp2_with (go_at_call 65; refine ((CB _).out).mono ?_; rintro e w1 ⟨rfl, rfl⟩)
                      exact bodyPost_ret (v := .int .i64 3) (by simp [results, Try.results43, go_sem]) rfl ⟨by rw [HStop.out (by simp [hx])]; simp [hx], HB.out⟩
                    · have HJ3 := Lib.hid (HJ2.out (by rw [if_pos rfl, if_neg hx]))
                      have hx' : (i : Int) = (j : Int) → x = 0 := fun e => by grind
                      clear hx HStop HJ2
                      by_cases hij : i = j
                      · subst hij
                        obtain rfl := hx' rfl
                        clear hx'
                        go_wp2_with (go_at_call 65; refine ((CB _).out).mono ?_; rintro e w1 ⟨rfl, rfl⟩)
                        exact ⟨⟨i + 1, by omega, rfl, HG.out, HJ3, HB⟩, by simp [intOf]; omega⟩
                      · have hij' : ¬ ((i : Int) = (j : Int)) := by omega
                        clear hx'
                        go_wp2_with (go_at_call 65; refine ((CB _).out).mono ?_; rintro e w1 ⟨rfl, rfl⟩)
                        exact ⟨⟨j + 1, by omega, rfl, HG.out, HJ3, HB⟩, by simp [intOf]; omega⟩
                · obtain rfl : j = N + 1 := by omega
                  have HJ2 := Lib.hid (Bn.befE_row HJ.out)
                  clear HJ HQ
                  go_wp2
                  exact ⟨⟨i + 1, by omega, rfl, HG.out, HJ2, HB⟩, by simp [intOf]; omega⟩
            · obtain rfl : i = N + 1 := by omega
              have HR := Lib.hid (HQ.out.trans (Bn.scn_all HJ.out))
              clear HQ HJ
              go_wp2
              exact bodyPost_ret (v := .int .i64 0) (by simp [results, Try.results43, go_sem]) rfl ⟨by rw [HR.out], HB.out⟩
    · have hr : Bn.chk n R = 8 := by unfold Bn.chk; rw [if_pos h1, if_neg h2]
      rw [hr]
      have hb : 0 ≤ n ∧ n ≤ 12 := by unfold Bn.idx at h1; simpa using h1
      obtain ⟨hb1, hb2⟩ := hb
      clear hr h1
      go_enter Try.func43, Try.ntmps43
      go_wp2_with (go_at_call 32; refine ((CS _).out).mono ?_; rintro e w1 ⟨rfl, rfl⟩)
      all_goals first | (go_ret; exact ⟨rfl, HL.out⟩) | (exfalso; grind)
  · have hr : Bn.chk n R = 2 := by unfold Bn.chk; rw [if_neg h1]
    rw [hr]
    have h1' : Bn.idx 0 12 n = false := by simpa using h1
    rw [h1'] at CS
    clear hr h1 h1'
    go_enter Try.func43, Try.ntmps43
    go_wp2_with (go_at_call 32; refine ((CS _).out).mono ?_; rintro e w1 ⟨rfl, rfl⟩)
    go_ret
    exact ⟨rfl, HL.out⟩
end Go.Proofs.Ytkemicfaiipidaa

