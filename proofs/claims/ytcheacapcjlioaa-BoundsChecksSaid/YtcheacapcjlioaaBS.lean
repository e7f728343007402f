/- Proves and Verify of the reference. -/
import Derived.Test.YtcheacapcjlioaaBB
import Derived.Test.YtcheacapcjlioaaBi
namespace Bn
/-- The bound from an index of a cycle to the next one, and their sum as the reference has it. -/
def edR (R : List (List Int)) (l : List Int) (q : Nat) : Int := mx R (l.getD q 0).toNat (l.getD ((q + 1) % l.length) 0).toNat
def rtv (R : List (List Int)) (l : List Int) : Nat → Int
  | 0 => 0
  | k + 1 => sm (rtv R l k) (edR R l k)
def rtot (R : List (List Int)) (l : List Int) : Nat → Int
  | 0 => 0
  | k + 1 => rtot R l k + edR R l k
theorem edR_edg {R : List (List Int)} {l : List Int} {q : Nat} (hq : q < l.length) : edR R l q = edg R l ((q + 1) % l.length) := by
  unfold edR edg
  by_cases h : q + 1 = l.length
  · rw [h, Nat.mod_self, if_pos rfl, show l.length - 1 = q by omega]
  · rw [Nat.mod_eq_of_lt (by omega), if_neg (by omega)]
    simp
theorem rtot_tot {R : List (List Int)} {l : List Int} : ∀ {k : Nat}, k < l.length → rtot R l k + edg R l 0 = totE R l (k + 1)
  | 0, _ => by simp [rtot, totE]
  | k + 1, hk => by
    have ih := rtot_tot (R := R) (l := l) (k := k) (by omega)
    have e : edR R l k = edg R l (k + 1) := by rw [edR_edg (by omega), Nat.mod_eq_of_lt (by omega)]
    rw [rtot, totE, ← ih, e]
    omega
theorem rtot_end {R : List (List Int)} {l : List Int} (h0 : 0 < l.length) : rtot R l l.length = totE R l l.length := by
  obtain ⟨k, hk⟩ : ∃ k, l.length = k + 1 := ⟨l.length - 1, by omega⟩
  have h1 := rtot_tot (R := R) (l := l) (k := k) (by omega)
  have e : edR R l k = edg R l 0 := by rw [edR_edg (by omega), hk, Nat.mod_self]
  rw [hk, rtot, e, h1]
theorem noE_iff {R : List (List Int)} {l : List Int} {k : Nat} : noE R l k = true ↔ ∀ q, q < k → edg R l q ≠ -1099511627776 := by
  unfold noE
  rw [List.all_eq_true]
  constructor
  · intro h q hq
    have := h q (List.mem_range.2 hq)
    simpa using this
  · intro h q hq
    have := h q (List.mem_range.1 hq)
    simpa using this
theorem noR_iff {R : List (List Int)} {l : List Int} : (∀ q, q < l.length → edR R l q ≠ -1099511627776) ↔ noE R l l.length = true := by
  rw [noE_iff]
  constructor
  · intro h k hk
    by_cases h0 : k = 0
    · have := h (l.length - 1) (by omega)
      rw [edR_edg (by omega), show l.length - 1 + 1 = l.length by omega, Nat.mod_self] at this
      rw [h0]; exact this
    · have := h (k - 1) (by omega)
      rw [edR_edg (by omega), show k - 1 + 1 = k by omega, Nat.mod_eq_of_lt hk] at this
      exact this
  · intro h q hq
    rw [edR_edg hq]
    exact h _ (Nat.mod_lt _ (by omega))
section
variable {N : Nat} {R : List (List Int)} {l : List Int} (hR : Rt N (mx R)) (h : ∀ k, k < l.length → 0 ≤ l.getD k 0 ∧ l.getD k 0 ≤ N) (hl : l.length ≤ 1000)
include hR h
theorem edR_bd {q : Nat} (hq : q < l.length) : edR R l q = -1099511627776 ∨ (-64000000 ≤ edR R l q ∧ edR R l q ≤ 64000000) := by
  have h1 := h q hq
  have h2 := h ((q + 1) % l.length) (Nat.mod_lt _ (by omega))
  exact hR.bd _ _ (by omega) (by omega)
include hl
theorem rtv_is : ∀ {k : Nat}, k ≤ l.length → ((∀ q, q < k → edR R l q ≠ -1099511627776) → rtv R l k = rtot R l k ∧ -(64000000 * (k : Int)) ≤ rtot R l k ∧ rtot R l k ≤ 64000000 * (k : Int)) ∧ ((∃ q, q < k ∧ edR R l q = -1099511627776) → rtv R l k = -1099511627776)
  | 0, _ => ⟨fun _ => by simp [rtv, rtot], fun ⟨q, hq, _⟩ => by omega⟩
  | k + 1, hk => by
    have ih := rtv_is (k := k) (by omega)
    constructor
    · intro g
      obtain ⟨i1, i2, i3⟩ := ih.1 fun q hq => g q (by omega)
      have h3 := (edR_bd hR h (q := k) (by omega)).resolve_left (g k (by omega))
      have h4 := g k (by omega)
      rw [rtv, rtot, i1]
      unfold sm
      rw [if_neg (by omega)]
      omega
    · rintro ⟨q, hq, g⟩
      rw [rtv]
      unfold sm
      by_cases e : q = k
      · rw [if_pos (.inr (e ▸ g))]
      · rw [if_pos (.inl (ih.2 ⟨q, by omega, g⟩))]
theorem rtv_bd {k : Nat} (hk : k ≤ l.length) : -4000000000000 ≤ rtv R l k ∧ rtv R l k ≤ 4000000000000 := by
  have g := rtv_is hR h hl hk
  by_cases e : ∃ q, q < k ∧ edR R l q = -1099511627776
  · rw [g.2 e]; omega
  · obtain ⟨i1, i2, i3⟩ := g.1 (fun q hq he => e ⟨q, hq, he⟩)
    rw [i1]; omega
theorem rtv_end (h0 : 0 < l.length) : (decide (rtv R l l.length ≠ -1099511627776) && decide (rtv R l l.length < 0)) = prvs R l := by
  have g := rtv_is hR h hl (Nat.le_refl l.length)
  unfold prvs
  by_cases e : ∃ q, q < l.length ∧ edR R l q = -1099511627776
  · rw [g.2 e]
    have : noE R l l.length = false := by
      cases hn : noE R l l.length with
      | false => rfl
      | true => obtain ⟨q, hq, he⟩ := e; exact absurd he (noR_iff.2 hn q hq)
    rw [this]; simp
  · have e' : ∀ q, q < l.length → edR R l q ≠ -1099511627776 := fun q hq he => e ⟨q, hq, he⟩
    obtain ⟨i1, i2, i3⟩ := g.1 e'
    rw [noR_iff.1 e', i1, ← rtot_end h0]
    have : rtot R l l.length ≠ -1099511627776 := by omega
    simp [this]
end
end Bn
namespace Go.Proofs.Ytcheacapcjlioaa
open Go.RowKit
theorem CellsI.both {w wr : World} {ao : Option Addr} {l : List Int} (h : CellsI w ao l) (hb : Below w.heap.size w wr) {i j : Nat} (hi : i < l.length) (hj : j < l.length) :
    ∃ b off, ao = some ⟨b, off, none⟩ ∧ wr.cell? ⟨b, off + i, none⟩ = some (.int .i64 (l.getD i 0)) ∧ wr.cell? ⟨b, off + j, none⟩ = some (.int .i64 (l.getD j 0)) := by
  obtain ⟨b, off, h1, h2, h3⟩ := h (by omega)
  exact ⟨b, off, h1, (hb.cell (p := ⟨b, off + i, none⟩) h2).trans (h3 i hi), (hb.cell (p := ⟨b, off + j, none⟩) h2).trans (h3 j hj)⟩
set_option maxHeartbeats 8000000 in
set_option maxRecDepth 100000 in
theorem rPrv_any (N : Nat) (v il : Value) (R : List (List Int)) (l : List Int) (w : World) (hS : Bn.Shp N R) (hR : Bn.Rt N (Bn.mx R)) (hs : SeesR w v R) (hl : SeeI w il l) (hll : l.length ≤ 1000) (h0 : 0 < l.length)
    (hin : ∀ k, k < l.length → 0 ≤ l.getD k 0 ∧ l.getD k 0 ≤ N) :
    Calls Try.prog 38 #[.agg #[.int .i64 (N : Int), v], il] w fun e w' => e = .returned (.bool (Bn.prvs R l)) ∧ Below w.heap.size w w' := by
  have HS := Lib.hid hs
  have HSh := Lib.hid hS
  have HRt := Lib.hid hR
  have HIN := Lib.hid hin
  have HTB := Lib.hid (fun k (hk : k ≤ l.length) => Bn.rtv_bd hR hin hll hk)
  have HEB := Lib.hid (fun k (hk : k < l.length) => Bn.edR_bd hR hin hk)
  have HE := Lib.hid (Bn.rtv_end hR hin hll h0)
  obtain ⟨ao, cap, rfl, hcap1, hcap2, -⟩ := hs
  obtain ⟨io, icap, rfl, hi1, hi2, hci⟩ := hl
  have HCI := Lib.hid hci
  obtain ⟨B0, L0⟩ := boxB_new w (N : Int) (.slice ao R.length cap) 24
  have HL := Lib.hid L0
  have HB := Lib.hid B0
  have hN12 := hR.n12
  clear L0 B0 hci hS hR hin
  generalize Bn.prvs R l = q at *
  go_enter Try.func38, Try.ntmps38
  go_wp2
  go_loopw [5, 6] (fun s5 s6 wr => ∃ k : Nat, k ≤ l.length ∧ s5 = .int .i64 (Bn.rtv R l k) ∧ s6 = .int .i64 (k : Int) ∧ BoxB wr w.heap.size N (.slice ao R.length cap) ∧ Hid (Below w.heap.size w wr)) (fun _ s6 _ => l.length - (intOf s6).toNat)
  case atStart => exact ⟨0, Nat.zero_le _, rfl, rfl, HB.out, HL⟩
  case round =>
    clear HB HL
    obtain ⟨k, hk, rfl, rfl, hB, HBW⟩ := hrel
    have HBx := Lib.hid hB
    obtain ⟨b0, b1, b2⟩ := hB
    by_cases hkl : k < l.length
    · have hm : (k + 1) % l.length < l.length := Nat.mod_lt _ (by omega)
      have h5 := HIN.out k hkl
      have h6 := HIN.out _ hm
      obtain ⟨a, ha⟩ := Int.eq_ofNat_of_zero_le h5.1
      obtain ⟨c, hc⟩ := Int.eq_ofNat_of_zero_le h6.1
      have haN : a ≤ N := by rw [ha] at h5; omega
      have hcN : c ≤ N := by rw [hc] at h6; omega
      obtain ⟨ib, ioff, rfl, k1, k2⟩ := HCI.out.both HBW.out hkl hm
      have hlr := HSh.out.1
      have hrow := HSh.out.2 a haN
      obtain ⟨b, off, cp, d, o2, cr, hae, hb, c1, hd, c2⟩ := HS.out.get HBW.out (i := a) (j := c) (by omega) (by omega)
      simp only [Value.slice.injEq] at hae
      obtain ⟨rfl, -, rfl⟩ := hae
      rw [hrow] at c1
      rw [ha] at k1
      rw [hc] at k2
      have he : Bn.edR R l k = Bn.mx R a c := by unfold Bn.edR; rw [ha, hc]; simp
      have hxb := HEB.out k hkl
      rw [he] at hxb
      have hrt : Bn.rtv R l (k + 1) = Bn.sm (Bn.rtv R l k) (Bn.mx R a c) := by rw [Bn.rtv, he]
      have HT := Lib.hid hrt
      have htb := HTB.out k hk
      have hlR : a < R.length := by omega
      have CS := fun W => Lib.hid (rSum_any (Bn.rtv R l k) (Bn.mx R a c) W htb (by omega))
      have hq2 : (k : Int) < (l.length : Int) := by omega
      have zc : (c : Int) < (N : Int) + 1 := by omega
      have hmi : (((k + 1) % l.length : Nat) : Int) = ((k : Int) + 1) % (l.length : Int) := by push_cast; rfl
      have hmb : (((k + 1) % l.length : Nat) : Int) < (l.length : Int) := by omega
      clear hrt he h5 h6 ha hc hrow HE
      generalize Bn.mx R a c = x at *
      generalize Bn.rtv R l k = y at *
      go_wp2
      go_quiet (first | (go_at_call 69; exact Calls.quiet_of_same ((CS _).out)))
      go_wp2
      exact ⟨⟨k + 1, by omega, by rw [HT.out], by first | rfl | go_num, HBx.out.step (below_drewN _ _), Lib.hid (HBW.out.trans (below_drewN _ _))⟩, by simp [intOf]; omega⟩
    · obtain rfl : k = l.length := by omega
      have hE := HE.out
      clear HE HTB HEB HIN HCI HS HSh HRt
      generalize Bn.rtv R l l.length = y at *
      subst hE
      go_wp2
      all_goals (go_ret; refine ⟨ret_bool ?_, HBW.out⟩; go_light; grind)
set_option maxHeartbeats 8000000 in
set_option maxRecDepth 100000 in
theorem rVer_any (n : Int) (v il : Value) (R : List (List Int)) (l : List Int) (w : World) (hs : SeesR w v R) (hl : SeeI w il l) (hll : l.length ≤ 1000) :
    Calls Try.prog 11 #[.agg #[.int .i64 n, v], il] w (VerP (Bn.verV n R l) w) := by
  have CC := fun W (h : SeesR W v R) => Lib.hid (rChk_any n v R W h)
  have HS := Lib.hid hs
  have HI := Lib.hid hl
  obtain ⟨ao, cap, rfl, hcap1, hcap2, -⟩ := hs
  have CI := fun x W => Lib.hid (rIdx_any n x ao R.length cap W)
  obtain ⟨io, icap, rfl, hi1, hi2, hci⟩ := hl
  have HCI := Lib.hid hci
  obtain ⟨B0, L0⟩ := boxB_new w n (.slice ao R.length cap) 24
  have HL := Lib.hid L0
  have HB := Lib.hid B0
  clear L0 B0 hci
  by_cases h1 : Bn.chk n R = 0
  · obtain ⟨N, rfl, hN, hSh, hR⟩ := Bn.chk_ok h1
    have hcix : Bn.cix N R 0 l = if l.all (Bn.idx 0 N) then 0 else 2 := by unfold Bn.cix; rw [if_pos h1]
    rw [h1] at CC
    by_cases h4 : l = []
    · have hv : Bn.verV N R l = (false, 13) := by unfold Bn.verV; rw [hcix, h4]; rfl
      rw [hv]
      subst h4
      clear hv h1 hcix
      go_enter Try.func11, Try.ntmps11
      go_wp2_with (go_at_call 15; refine ((CC _ (HS.out.step HL.out)).out).mono ?_; rintro e w1 ⟨rfl, hb1⟩; have HB1 := Lib.hid (below_nxt HL.out hb1); clear hb1)
      exact bodyPost_ret (v := .tuple #[.bool false, .int .i64 13]) (by simp [results, Try.results11, go_sem]) rfl ⟨rfl, HB1.out⟩
    · have h0 : 0 < l.length := List.length_pos_iff.2 h4
      have HNo := Lib.hid (fun k (hk : k < l.length) (h : Bn.idx 0 N (l.getD k 0) = false) => show Bn.verV N R l = (false, 2) by
        have : l.all (Bn.idx 0 N) = false := by
          cases hc : l.all (Bn.idx 0 N) with
          | false => rfl
          | true => have := Bn.all_at hc hk; rw [h] at this; cases this
        unfold Bn.verV; rw [hcix, this]; rfl)
      have HYes := Lib.hid (fun (h : ∀ k, k < l.length → Bn.idx 0 N (l.getD k 0) = true) => show Bn.verV N R l = (Bn.prvs R l, 0) by
        have : l.all (Bn.idx 0 N) = true := by
          rw [List.all_eq_true]
          intro x hx
          obtain ⟨k, hk, rfl⟩ := List.mem_iff_getElem.1 hx
          have := h k hk
          rwa [List.getD_eq_getElem?_getD, List.getElem?_eq_getElem hk] at this
        unfold Bn.verV; rw [hcix, this]; simp [h4])
      have CP := fun W (h : SeesR W (.slice ao R.length cap) R) (h2 : SeeI W (.slice io l.length icap) l) (hin : ∀ k, k < l.length → Bn.idx 0 N (l.getD k 0) = true) => Lib.hid (rPrv_any N _ _ R l W hSh hR h h2 hll h0 (fun k hk => Bn.idx_iff.1 (hin k hk)))
      have hne : ((l.length : Int) == 0) = false := by simpa using h4
      clear hcix h1 h4 hSh hR
      generalize Bn.verV N R l = q at *
      go_enter Try.func11, Try.ntmps11
      go_wp2_with fail
      refine ((CC _ (HS.out.step HL.out)).out).mono ?_
      rintro e w1 ⟨rfl, hb1⟩
      have HB1 := Lib.hid (below_nxt HL.out hb1)
      have HBx1 := Lib.hid (HB.out.step hb1)
      clear hb1 HL HB CC
      go_wp2
      go_loopw [7] (fun s7 wr => ∃ k : Nat, k ≤ l.length ∧ s7 = .int .i64 (k : Int) ∧ BoxB wr w.heap.size N (.slice ao R.length cap) ∧ Hid (∀ a, a < k → Bn.idx 0 N (l.getD a 0) = true) ∧ Hid (Below w.heap.size w wr)) (fun s7 _ => l.length - (intOf s7).toNat)
      case atStart => exact ⟨0, Nat.zero_le _, rfl, HBx1.out, Lib.hid (fun a h => by omega), HB1⟩
      case round =>
        clear HBx1 HB1
        obtain ⟨k, hk, rfl, hB, HJ, HBW⟩ := hrel
        have HBx := Lib.hid hB
        obtain ⟨b0, b1, b2⟩ := hB
        by_cases hkl : k < l.length
        · obtain ⟨ib, ioff, rfl, hib, k1⟩ := HCI.out.at HBW.out hkl
          have HNk := Lib.hid (HNo.out k hkl)
          have HJ2 := Lib.hid (fun (h : Bn.idx 0 N (l.getD k 0) = true) a (ha : a < k + 1) => show Bn.idx 0 N (l.getD a 0) = true by
            by_cases e : a = k
            · rw [e]; exact h
            · exact HJ.out a (by omega))
          have CI2 := fun W => Lib.hid ((CI (l.getD k 0) W).out)
          have hq2 : (k : Int) < (l.length : Int) := by omega
          clear HNo HYes HJ CI
          generalize Bn.idx 0 N (l.getD k 0) = bb at *
          generalize l.getD k 0 = x at *
          cases bb
          · have hq3 := HNk.out rfl
            clear HNk HJ2
            subst hq3
            go_wp2
            go_region_with (go_at_call 37; refine ((CI2 _).out).mono ?_; rintro e w2 ⟨rfl, hb2⟩; have hb2 := ((Below.refl wr.heap.size wr).drew).trans hb2; have HB2 := Lib.hid (HBW.out.trans (hb2.mono HBW.out.size)); have HX2 := Lib.hid (HBx.out.step hb2); clear hb2)
            all_goals (go_wp2; exact bodyPost_ret (v := .tuple #[.bool false, .int .i64 2]) (by simp [results, Try.results11, go_sem]) rfl ⟨rfl, HB2.out⟩)
          · have HJ3 := Lib.hid (HJ2.out rfl)
            clear HNk HJ2
            go_wp2
            go_region_with (go_at_call 37; refine ((CI2 _).out).mono ?_; rintro e w2 ⟨rfl, hb2⟩; have hb2 := ((Below.refl wr.heap.size wr).drew).trans hb2; have HB2 := Lib.hid (HBW.out.trans (hb2.mono HBW.out.size)); have HX2 := Lib.hid (HBx.out.step hb2); clear hb2)
            all_goals (go_wp2; exact ⟨⟨k + 1, by omega, by first | rfl | go_num, HX2.out, HJ3, HB2⟩, by simp [intOf]; omega⟩)
        · obtain rfl : k = l.length := by omega
          have hq3 := HYes.out HJ.out
          have CP2 := Lib.hid ((CP wr (HS.out.step HBW.out) (HI.out.step HBW.out) HJ.out).out)
          clear HYes HNo HJ CP CI
          generalize Bn.prvs R l = pv at *
          subst hq3
          go_wp2_with fail
          refine (CP2.out).mono ?_
          rintro e w2 ⟨rfl, hb2⟩
          have HB2 := Lib.hid (below_nxt HBW.out hb2)
          clear hb2
          go_wp2
          exact bodyPost_ret (v := .tuple #[.bool pv, .int .i64 0]) (by simp [results, Try.results11, go_sem]) rfl ⟨rfl, HB2.out⟩
  · have hv : Bn.verV n R l = (false, Bn.chk n R) := by unfold Bn.verV Bn.cix; rw [if_neg h1, if_neg h1]
    rw [hv]
    clear hv
    go_enter Try.func11, Try.ntmps11
    go_wp2_with (go_at_call 15; refine ((CC _ (HS.out.step HL.out)).out).mono ?_; rintro e w1 ⟨rfl, hb1⟩; have HB1 := Lib.hid (below_nxt HL.out hb1); clear hb1)
    exact bodyPost_ret (v := .tuple #[.bool false, .int .i64 (Bn.chk n R)]) (by simp [results, Try.results11, go_sem]) rfl ⟨rfl, HB1.out⟩
end Go.Proofs.Ytcheacapcjlioaa

