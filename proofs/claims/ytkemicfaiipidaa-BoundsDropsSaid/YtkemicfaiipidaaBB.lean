/- Verify of package bounds. -/
import Derived.Test.YtkemicfaiipidaaBA
import Derived.Test.YtkemicfaiipidaaBr
namespace Bn
def lst (l : List Int) (k : Nat) : Int := if k = 0 then l.getD (l.length - 1) 0 else l.getD (k - 1) 0
theorem edg_eq (R : List (List Int)) (l : List Int) (k : Nat) : edg R l k = mx R (lst l k).toNat (l.getD k 0).toNat := rfl
theorem noE_succ (R : List (List Int)) (l : List Int) (k : Nat) : noE R l (k + 1) = (noE R l k && edg R l k != -1099511627776) := by
  unfold noE
  rw [List.range_succ, List.all_append]
  simp
theorem noE_le {R : List (List Int)} {l : List Int} {k m : Nat} (hk : k < m) (h : edg R l k = -1099511627776) : noE R l m = false := by
  unfold noE
  rw [List.all_eq_false]
  exact ⟨k, List.mem_range.2 hk, by simp [h]⟩
theorem lst_succ (l : List Int) (k : Nat) : lst l (k + 1) = l.getD k 0 := by unfold lst; simp
theorem lst_in {n : Int} {l : List Int} (h : ∀ k, k < l.length → 0 ≤ l.getD k 0 ∧ l.getD k 0 ≤ n) (h0 : 0 < l.length) {k : Nat} (hk : k ≤ l.length) : 0 ≤ lst l k ∧ lst l k ≤ n := by
  unfold lst
  split
  · exact h _ (by omega)
  · exact h _ (by omega)
theorem all_at {l : List Int} {p : Int → Bool} (h : l.all p = true) {k : Nat} (hk : k < l.length) : p (l.getD k 0) = true := by
  rw [List.getD_eq_getElem?_getD, List.getElem?_eq_getElem hk]
  exact List.all_eq_true.1 h _ (List.getElem_mem hk)
theorem tot_bd {N : Nat} {R : List (List Int)} {l : List Int} (hR : Rt N (mx R)) (h : ∀ k, k < l.length → 0 ≤ l.getD k 0 ∧ l.getD k 0 ≤ N) (h0 : 0 < l.length) : ∀ {k : Nat}, k ≤ l.length → noE R l k = true → -(64000000 * (k : Int)) ≤ totE R l k ∧ totE R l k ≤ 64000000 * (k : Int)
  | 0, _, _ => by simp [totE]
  | k + 1, hk, hn => by
    rw [noE_succ] at hn
    simp only [Bool.and_eq_true, bne_iff_ne, ne_eq] at hn
    have ih := tot_bd hR h h0 (k := k) (by omega) hn.1
    have h1 := lst_in h h0 (k := k) (by omega)
    have h2 := h k (by omega)
    have h3 := (hR.bd (lst l k).toNat (l.getD k 0).toNat (by omega) (by omega)).resolve_left hn.2
    rw [totE, edg_eq]
    omega
end Bn
namespace Go.Proofs.Ytkemicfaiipidaa
open Go.RowKit

/-- What Verify leaves. -/
def VerP (q : Bool × Int) (w : World) (e : Ending) (w' : World) : Prop := e = .returned (.tuple #[.bool q.1, .int .i64 q.2]) ∧ Below w.heap.size w w'
set_option maxHeartbeats 4000000 in
set_option maxRecDepth 100000 in
theorem bVer_any (n : Int) (v il : Value) (R : List (List Int)) (l : List Int) (w : World) (hs : SeesR w v R) (hl : SeeI w il l) (hll : l.length ≤ 1000) :
    Calls Try.prog 30 #[.agg #[.int .i64 n, v], il] w (VerP (Bn.verV n R l) w) := by
  have CC := fun W (h : SeesR W v R) (h2 : SeeI W il l) => Lib.hid (bCix_any n 0 v il R l W h h2)
  have HS := Lib.hid hs
  have HI := Lib.hid hl
  obtain ⟨ao, cap, rfl, hcap1, hcap2, -⟩ := hs
  obtain ⟨io, icap, rfl, hi1, hi2, hci⟩ := hl
  have HCI := Lib.hid hci
  obtain ⟨B0, L0⟩ := boxB_new w n (.slice ao R.length cap) 24
  have HL := Lib.hid L0
  have HB := Lib.hid B0
  clear L0 B0 hci
  by_cases h1 : Bn.cix n R 0 l = 0
  · obtain ⟨h2, h3⟩ := Bn.cix_chk h1
    obtain ⟨N, rfl, hN, hSh, hR⟩ := Bn.chk_ok h2
    rw [h1] at CC
    by_cases h4 : l = []
    · have hv : Bn.verV N R l = (false, 13) := by unfold Bn.verV; rw [if_pos h1, if_pos h4]
      rw [hv]
      subst h4
      clear hv h1 h2 h3
      go_enter Try.func30, Try.ntmps30
      go_wp2_with (go_at_call 36; refine ((CC _ (HS.out.step HL.out) (HI.out.step HL.out)).out).mono ?_; rintro e w1 ⟨rfl, hb1⟩; have HB1 := Lib.hid (below_nxt HL.out hb1); clear hb1)
      exact bodyPost_ret (v := .tuple #[.bool false, .int .i64 13]) (by simp [results, Try.results30, go_sem]) rfl ⟨rfl, HB1.out⟩
    · have hv : Bn.verV N R l = (Bn.prvs R l, 0) := by unfold Bn.verV; rw [if_pos h1, if_neg h4]
      have h0 : 0 < l.length := List.length_pos_iff.2 h4
      have hin : ∀ k, k < l.length → 0 ≤ l.getD k 0 ∧ l.getD k 0 ≤ (N : Int) := fun k hk => Bn.idx_iff.1 (Bn.all_at h3 hk)
      have HNo := Lib.hid (fun k (hk : k < l.length) (h : Bn.edg R l k = -1099511627776) => show Bn.verV N R l = (false, 0) by
        rw [hv]; unfold Bn.prvs; rw [Bn.noE_le hk h]; rfl)
      have HYes := Lib.hid (fun (h : Bn.noE R l l.length = true) => show Bn.verV N R l = (decide (Bn.totE R l l.length < 0), 0) by
        rw [hv]; unfold Bn.prvs; rw [h]; rfl)
      have HIN := Lib.hid hin
      have HLS := Lib.hid (fun k (hk : k ≤ l.length) => Bn.lst_in hin h0 hk)
      have HTB := Lib.hid (fun k (hk : k ≤ l.length) hn => Bn.tot_bd hR hin h0 (k := k) hk hn)
      have HSh := Lib.hid hSh
      have HRt := Lib.hid hR
      have hne : ¬ l.length = 0 := by omega
      have hlast := hin (l.length - 1) (by omega)
      obtain ⟨la, hla⟩ := Int.eq_ofNat_of_zero_le hlast.1
      have HLA := Lib.hid hla
      clear hv h1 h2 h3 h4 hin hSh hR hlast hla
      generalize hq : Bn.verV N R l = q at *
      clear hq
      obtain ⟨ib, ioff, rfl, hib, hic⟩ := HCI.out h0
      have HIC := Lib.hid hic
      go_enter Try.func30, Try.ntmps30
      go_wp2_with fail
      refine ((CC _ (HS.out.step HL.out) (HI.out.step HL.out)).out).mono ?_
      rintro e w1 ⟨rfl, hb1⟩
      have HB1 := Lib.hid (below_nxt HL.out hb1)
      have HBx1 := Lib.hid (HB.out.step hb1)
      have ic : w1.cell? ⟨ib, ioff + (l.length - 1), none⟩ = some (.int .i64 (la : Int)) := by
        rw [← HLA.out]; exact (HB1.out.cell (p := ⟨ib, ioff + (l.length - 1), none⟩) hib).trans (hic _ (by omega))
      have hlt : l.length - 1 < l.length := by omega
      clear hb1 hic HL CC
      go_wp2
      go_loopw [7, 8, 28] (fun s7 s8 s28 wr => ∃ k a : Nat, k ≤ l.length ∧ s28 = .int .i64 (k : Int) ∧ s7 = .int .i64 (Bn.totE R l k) ∧ s8 = .int .i64 (a : Int) ∧ Hid (Bn.lst l k = (a : Int)) ∧ BoxB wr w.heap.size N (.slice ao R.length cap) ∧ Hid (Bn.noE R l k = true) ∧ Hid (Below w.heap.size w wr)) (fun _ _ s28 _ => l.length - (intOf s28).toNat)
      case atStart => exact ⟨0, la, Nat.zero_le _, rfl, rfl, rfl, HLA, HBx1.out, Lib.hid rfl, HB1⟩
      case round =>
        clear HBx1 HB1 ic
        obtain ⟨k, a, hk, rfl, rfl, rfl, HLa, hB, HN, HBW⟩ := hrel
        have HBx := Lib.hid hB
        obtain ⟨b0, b1, b2⟩ := hB
        by_cases hkl : k < l.length
        · have h5 := HLS.out k hk
          have h6 := HIN.out k hkl
          obtain ⟨j, hj⟩ := Int.eq_ofNat_of_zero_le h6.1
          have ha := HLa.out
          have haN : a ≤ N := by rw [ha] at h5; omega
          have hjN : j ≤ N := by rw [hj] at h6; omega
          have hlr := HSh.out.1
          have hrow := HSh.out.2 a haN
          obtain ⟨b, off, d, o2, cr, hae, hb, hd, c1, c2⟩ := (HS.out).row HBW.out (i := a) (by omega) (by omega)
          subst hae
          have c3 : wr.cell? ⟨d, o2 + j, none⟩ = some (.int .i64 (Bn.mx R a j)) := c2 j (by omega)
          rw [hrow] at c1
          have ik : wr.cell? ⟨ib, ioff + k, none⟩ = some (.int .i64 (j : Int)) := by
            rw [← hj]; exact (HBW.out.cell (p := ⟨ib, ioff + k, none⟩) hib).trans (HIC.out k hkl)
          have he : Bn.edg R l k = Bn.mx R a j := by rw [Bn.edg_eq, ha, hj]; simp
          have hb5 := HTB.out k hk HN.out
          have hxb := HRt.out.bd a j haN hjN
          have ht : Bn.totE R l (k + 1) = Bn.totE R l k + Bn.mx R a j := by rw [Bn.totE, he]
          have HT := Lib.hid ht
          have hls : Bn.lst l (k + 1) = (j : Int) := by rw [Bn.lst_succ, hj]
          have HLj := Lib.hid hls
          have HNk := HNo.out k hkl
          rw [he] at HNk
          have HNk := Lib.hid HNk
          have HN2 : Hid (Bn.mx R a j ≠ -1099511627776 → Bn.noE R l (k + 1) = true) := Lib.hid (fun h => by rw [Bn.noE_succ, HN.out, he]; simpa using h)
          have hlR : a < R.length := by omega
          have hq2 : (k : Int) < (l.length : Int) := by omega
          have zj : (j : Int) < (N : Int) + 1 := by omega
          clear ht hls he h5 h6 hj ha c2 HNo HYes hrow HN
          generalize Bn.mx R a j = x at *
          by_cases hx : x = -1099511627776
          · have HQ := Lib.hid (HNk.out hx)
            subst hx
            clear HNk HN2 hxb
            go_wp2
            exact bodyPost_ret (v := .tuple #[.bool false, .int .i64 0]) (by simp [results, Try.results30, go_sem]) rfl ⟨by first | rfl | (rw [HQ.out]; done) | (rw [HQ.out]; rfl), HBW.out⟩
          · have HN3 := Lib.hid (HN2.out hx)
            have hxb2 := hxb.resolve_left hx
            obtain ⟨xb1, xb2⟩ := hxb2
            have hkN : (k : Int) ≤ 1000 := by omega
            clear HNk HN2 hxb
            obtain ⟨tb1, tb2⟩ := hb5
            generalize Bn.totE R l k = T at *
            go_wp2
            exact ⟨⟨k + 1, j, by omega, by first | rfl | go_num, by rw [HT.out], rfl, HLj, HBx.out, HN3, HBW⟩, by simp [intOf]; omega⟩
        · obtain rfl : k = l.length := by omega
          have HQ := Lib.hid (HYes.out HN.out)
          clear HNo HYes
          go_wp2
          exact bodyPost_ret (v := .tuple #[.bool (decide (Bn.totE R l l.length < 0)), .int .i64 0]) (by simp [results, Try.results30, go_sem]) rfl ⟨by first | rfl | (rw [HQ.out]; done) | (rw [HQ.out]; rfl), HBW.out⟩
  · have hv : Bn.verV n R l = (false, Bn.cix n R 0 l) := if_neg h1
    rw [hv]
    clear hv
    go_enter Try.func30, Try.ntmps30
    go_wp2_with (go_at_call 36; refine ((CC _ (HS.out.step HL.out) (HI.out.step HL.out)).out).mono ?_; rintro e w1 ⟨rfl, hb1⟩; have HB1 := Lib.hid (below_nxt HL.out hb1); clear hb1)
    exact bodyPost_ret (v := .tuple #[.bool false, .int .i64 (Bn.cix n R 0 l)]) (by simp [results, Try.results30, go_sem]) rfl ⟨rfl, HB1.out⟩
end Go.Proofs.Ytkemicfaiipidaa

