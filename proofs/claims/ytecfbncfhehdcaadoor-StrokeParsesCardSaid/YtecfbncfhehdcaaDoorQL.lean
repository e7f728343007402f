/- Format of package stroke. -/
import Derived.Test.YtecfbncfhehdcaaDoorQK
namespace Sk
open Go
def spB (x : Stp) : ByteArray := ⟨(stpT x).toArray⟩
/-- The text of a list of steps. -/
def fmtT (L : List Stp) : List UInt8 := Lib.join (L.map stpT) [59, 32]
/-- The first error of steps. -/
def chkF (L : List Stp) : Int := fe (fun i => chkP (L.getD i t0).1 (L.getD i t0).2) L.length
def fmtV (L : List Stp) : List UInt8 × Int := if 64 < L.length then ([], 5) else (if chkF L = 0 then (fmtT L, 0) else ([], chkF L))
theorem map_spB (l : List Stp) : (l.map spB).map (·.data.toList) = l.map stpT := by simp [spB]
theorem chkF_at {L : List Stp} (h : chkF L = 0) {i : Nat} (hi : i < L.length) : chkP (L.getD i t0).1 (L.getD i t0).2 = 0 := fe_no h i hi
theorem chkF_mem {L : List Stp} (h : chkF L = 0) {x : Stp} (hx : x ∈ L) : chkP x.1 x.2 = 0 := by
  obtain ⟨i, hi, rfl⟩ := List.mem_iff_getElem.1 hx
  have := chkF_at h hi
  rw [List.getD_eq_getElem?_getD, List.getElem?_eq_getElem hi] at this
  exact this
theorem chkF_of {L : List Stp} (h : ∀ i, i < L.length → chkP (L.getD i t0).1 (L.getD i t0).2 = 0) : chkF L = 0 := fe_all h
theorem fmtT_len {L : List Stp} (h : chkF L = 0) (hl : L.length ≤ 64) : (fmtT L).length ≤ 1792 := by
  have := join_len (sep := [59, 32]) (M := 26) (K := 64) (r := L.map stpT) (fun x hx => by
    obtain ⟨y, hy, rfl⟩ := List.mem_map.1 hx
    obtain ⟨hr, h0, h1⟩ := chkP_ok (chkF_mem h hy)
    exact stpT_len hr.le6 h0 h1) (by simpa using hl)
  simpa [fmtT] using this
end Sk
namespace Go.Proofs.YtecfbncfhehdcaaDoor
open Go.RowKit
set_option maxHeartbeats 4000000 in
set_option maxRecDepth 100000 in
theorem jnT_any (v : Value) (L : List Sk.Stp) (w : World) (hst : St w) (hs : SeeT w v L) (hc : Sk.chkF L = 0) (hl : L.length ≤ 64) :
    Calls Tryd.prog 81 #[v, .string ⟨#[59, 32]⟩, .func (.func 82) #[] #[]] w fun e w' => e = .returned (.string ⟨(Sk.fmtT L).toArray⟩) ∧ Below w.heap.size w w' := by
  obtain ⟨i0, hi0, hz0, hz1, hz2⟩ := info_str
  have HST := Lib.hid hst
  obtain ⟨ao, cap, rfl, hcap1, hcap2, hC⟩ := hs
  have HC := Lib.hid hC
  have HAct := Lib.hid (fun i (hi : i < L.length) => Sk.chkF_at hc hi)
  have HT := Lib.hid (fun i (hi : i < L.length) => Sk.take_map Sk.spB Sk.t0 hi)
  have CJ := fun W v' (h : RowS w.heap.size 9 W v' (L.map Sk.spB)) => Lib.hid (joinS_any ⟨#[59, 32]⟩ W h (by simp; omega) (by rw [Sk.map_spB]; have := Sk.fmtT_len hc hl; unfold Sk.fmtT at this; exact Nat.le_trans this (by omega)))
  rw [Sk.map_spB] at CJ
  change ∀ W v', RowS w.heap.size 9 W v' (L.map Sk.spB) → Hid (Calls Tryd.prog 99 #[v', .string ⟨#[59, 32]⟩] W fun e w' => e = .returned (.string ⟨(Sk.fmtT L).toArray⟩) ∧ Below W.heap.size W w') at CJ
  clear hC hc hst
  generalize Sk.fmtT L = lt at *
  go_enter Tryd.func81, Tryd.ntmps81
  go_wp2
  go_loopw [7, 12] (fun s7 s12 wr => ∃ i : Nat, i ≤ L.length ∧ s12 = .int .i64 (i : Int) ∧ Hid (RowS w.heap.size 9 wr s7 ((L.take i).map Sk.spB)) ∧ Hid (Below w.heap.size w wr)) (fun _ s12 _ => L.length - (intOf s12).toNat)
  case atStart => exact ⟨0, Nat.zero_le _, rfl, Lib.hid (RowS.nil _ _ _), Lib.hid (Below.refl _ _)⟩
  case round =>
    rename_i s7
    obtain ⟨i, hi, rfl, HR, HBW⟩ := hrel
    by_cases hil : i < L.length
    · obtain ⟨g, off, ak, ck, rfl, hg, c1, c2, hk⟩ := (HC.out.step HBW.out).at (Below.refl _ _) hil
      have hck := HAct.out i hil
      have HTi := Lib.hid (HT.out i hil)
      have hlen : ((L.take i).map Sk.spB).length ≤ 64 := by simp; omega
      have HLen := Lib.hid hlen
      clear HT HAct CJ hlen
      generalize (L.take i).map Sk.spB = F at *
      generalize hy : L.getD i Sk.t0 = y at *
      obtain ⟨l, n⟩ := y
      simp only at c1 c2 hk hck
      have HCK := Lib.hid hck
      obtain ⟨P1, L1, z1⟩ := boxP_new wr (.slice ak l.length ck) (.int .i64 n) 70
      have HB1 := Lib.hid (below_nxt HBW.out L1)
      have HR1 := Lib.hid (HR.out.step L1)
      have HK1 := Lib.hid (hk.step L1)
      have CT := fun W (h : St W) (h2 : SeeK W (.slice ak l.length ck) l) => Lib.hid (sStT_any _ l n W h h2 HCK.out)
      clear P1 L1 z1 HBW HR hk hck hy
      go_wp2_with fail
      refine ((CT _ (HST.out.below HB1.out HST.out.size) HK1.out).out).mono ?_
      rintro e w2 ⟨rfl, hb2⟩
      have HB2 := Lib.hid (below_nxt (below_nxt HB1.out hb2) (allocB w2 (.cells #[.string ⟨(Sk.stpT (l, n)).toArray⟩] 9)))
      have HR2 := Lib.hid ((HR1.out.step hb2).step (allocB w2 (.cells #[.string ⟨(Sk.stpT (l, n)).toArray⟩] 9)))
      clear hb2 HB1 HR1 CT HK1 HCK
      go_wp2_with (at_builtin; refine wpList_append_text rfl _ _ 98 rfl 9 i0 Tryd.underlying98 hi0 hz0 hz1 hz2 _ F (Sk.spB (l, n)) w2.heap.size rfl rfl w.heap.size HR2.out (by simp [Sk.spB]) (Nat.le_trans HLen.out (by omega)) HB2.out.size ?_; intro v5 w5 hr5 hb5; have HR5 := Lib.hid hr5; have HB5 := Lib.hid (HB2.out.trans hb5); clear hr5 hb5)
      exact ⟨⟨i + 1, by omega, by first | rfl | go_num, by rw [HTi.out]; exact HR5, HB5⟩, by simp [intOf]; omega⟩
    · obtain rfl : i = L.length := by omega
      rw [List.take_length] at HR
      have CJ2 := CJ _ _ HR.out
      clear CJ HT HAct
      go_wp2_with fail
      refine (CJ2.out).mono ?_
      rintro e w2 ⟨rfl, hb2⟩
      have HB2 := Lib.hid (below_nxt HBW.out hb2)
      clear hb2
      go_wp2
      go_ret
      exact ⟨rfl, HB2.out⟩
def FmtP (q : List UInt8 × Int) (w : World) (e : Ending) (w' : World) : Prop := e = .returned (.tuple #[.string ⟨q.1.toArray⟩, .int .i64 q.2]) ∧ Below w.heap.size w w'
set_option maxHeartbeats 4000000 in
set_option maxRecDepth 100000 in
theorem sFmt_any (v : Value) (L : List Sk.Stp) (w : World) (hst : St w) (hs : SeeT w v L) :
    Calls Tryd.prog 51 #[v] w (FmtP (Sk.fmtV L) w) := by
  have HST := Lib.hid hst
  have HS := Lib.hid hs
  obtain ⟨ao, cap, rfl, hcap1, hcap2, hC⟩ := hs
  have HC := Lib.hid hC
  by_cases h64 : 64 < L.length
  · have hv : Sk.fmtV L = ([], 5) := if_pos h64
    rw [hv]
    have h6 : decide (64 < (L.length : Int)) = true := decide_eq_true (by omega)
    clear hv h64 hC hst
    go_enter Tryd.func51, Tryd.ntmps51
    go_wp2
    exact bodyPost_ret (v := .tuple #[.string ⟨#[]⟩, .int .i64 5]) (by simp [results, Tryd.results51, go_sem]) rfl ⟨rfl, Below.refl _ _⟩
  · have hv : Sk.fmtV L = if Sk.chkF L = 0 then (Sk.fmtT L, 0) else ([], Sk.chkF L) := if_neg h64
    have hl : L.length ≤ 64 := by omega
    have h6 : decide (64 < (L.length : Int)) = false := decide_eq_false (by omega)
    have HNo := Lib.hid (fun i (hi : i < L.length) (hb : ∀ a, a < i → Sk.chkP (L.getD a Sk.t0).1 (L.getD a Sk.t0).2 = 0) (h : Sk.chkP (L.getD i Sk.t0).1 (L.getD i Sk.t0).2 ≠ 0) => show Sk.fmtV L = ([], Sk.chkP (L.getD i Sk.t0).1 (L.getD i Sk.t0).2) by
      have e : Sk.chkF L = Sk.chkP (L.getD i Sk.t0).1 (L.getD i Sk.t0).2 := Sk.fe_stop (f := fun i => Sk.chkP (L.getD i Sk.t0).1 (L.getD i Sk.t0).2) hb h hi
      rw [hv, e, if_neg h])
    have HYes := Lib.hid (fun (hb : ∀ a, a < L.length → Sk.chkP (L.getD a Sk.t0).1 (L.getD a Sk.t0).2 = 0) => show Sk.fmtV L = (Sk.fmtT L, 0) ∧ Sk.chkF L = 0 from ⟨by rw [hv, if_pos (Sk.chkF_of hb)], Sk.chkF_of hb⟩)
    have CJ := fun W (h : St W) (h2 : SeeT W (.slice ao L.length cap) L) (hc : Sk.chkF L = 0) => Lib.hid (jnT_any _ L W h h2 hc hl)
    clear hv h64 hC hst
    generalize Sk.fmtV L = q at *
    go_enter Tryd.func51, Tryd.ntmps51
    go_wp2
    go_loopw [12] (fun s12 wr => ∃ i : Nat, i ≤ L.length ∧ s12 = .int .i64 (i : Int) ∧ Hid (∀ a, a < i → Sk.chkP (L.getD a Sk.t0).1 (L.getD a Sk.t0).2 = 0) ∧ Hid (Below w.heap.size w wr)) (fun s12 _ => L.length - (intOf s12).toNat)
    case atStart => exact ⟨0, Nat.zero_le _, rfl, Lib.hid (fun a h => by omega), Lib.hid (Below.refl _ _)⟩
    case round =>
      obtain ⟨i, hi, rfl, HJ, HBW⟩ := hrel
      by_cases hil : i < L.length
      · obtain ⟨g, off, ak, ck, rfl, hg, c1, c2, hk⟩ := (HC.out.step HBW.out).at (Below.refl _ _) hil
        have HNi := Lib.hid (HNo.out i hil HJ.out)
        have HJ2 : Hid (Sk.chkP (L.getD i Sk.t0).1 (L.getD i Sk.t0).2 = 0 → ∀ a, a < i + 1 → Sk.chkP (L.getD a Sk.t0).1 (L.getD a Sk.t0).2 = 0) := Lib.hid (fun h a ha => by
          by_cases e : a = i
          · rw [e]; exact h
          · exact HJ.out a (by omega))
        clear HNo HYes HJ CJ
        generalize L.getD i Sk.t0 = y at *
        obtain ⟨l, n⟩ := y
        simp only at c1 c2 hk
        obtain ⟨P1, L1, z1⟩ := boxP_new wr (.slice ak l.length ck) (.int .i64 n) 70
        have HB1 := Lib.hid (below_nxt HBW.out L1)
        have CT := fun W (h2 : SeeK W (.slice ak l.length ck) l) => Lib.hid (sStp_any _ l n W h2)
        have HK1 := Lib.hid (hk.step L1)
        clear P1 L1 z1 HBW hk
        change Hid (Sk.chkP l n ≠ 0 → q = ([], Sk.chkP l n)) at HNi
        change Hid (Sk.chkP l n = 0 → _) at HJ2
        generalize Sk.chkP l n = ck' at *
        go_wp2_with fail
        refine ((CT _ HK1.out).out).mono ?_
        rintro e w2 ⟨rfl, hb2⟩
        have HB2 := Lib.hid (below_nxt HB1.out hb2)
        clear hb2 HB1
        by_cases h0 : ck' = 0
        · have HJ3 := Lib.hid (HJ2.out h0)
          subst h0
          clear HNi HJ2
          go_wp2
          exact ⟨⟨i + 1, by omega, by first | rfl | go_num, HJ3, HB2⟩, by simp [intOf]; omega⟩
        · have hq := HNi.out h0
          subst hq
          have h0' : (ck' == 0) = false := by simpa using h0
          clear HNi HJ2 h0
          go_wp2
          exact bodyPost_ret (v := .tuple #[.string ⟨#[]⟩, .int .i64 ck']) (by simp [results, Tryd.results51, go_sem]) rfl ⟨rfl, HB2.out⟩
      · obtain rfl : i = L.length := by omega
        obtain ⟨hq, hc⟩ := HYes.out HJ.out
        subst hq
        have CJ2 := CJ wr (HST.out.below HBW.out HST.out.size) (HS.out.step HBW.out) hc
        clear HNo HYes HJ CJ hc
        go_wp2_with fail
        refine (CJ2.out).mono ?_
        rintro e w2 ⟨rfl, hb2⟩
        have HB2 := Lib.hid (below_nxt HBW.out hb2)
        clear hb2
        go_wp2
        exact bodyPost_ret (v := .tuple #[.string ⟨(Sk.fmtT L).toArray⟩, .int .i64 0]) (by simp [results, Tryd.results51, go_sem]) rfl ⟨rfl, HB2.out⟩
end Go.Proofs.YtecfbncfhehdcaaDoor

