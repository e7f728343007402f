/- Ends that came before: plain facts. Repeats of the reference of layer 14. -/
import Derived.Test.YtjpbccpleflkhaaDoorG12
import Derived.Test.YtjpbccpleflkhaaDoorG14
import Derived.BigQuiet
import Derived.Test.YtjpbccpleflkhaaDoorG17
namespace Sq
open Sk
/-- Were the ends before step k there before an earlier step? -/
def was (n : Nat) (L : List Stp) (k : Nat) : Bool := (List.range k).any fun i => decide (bh n L i = bh n L k)
/-- The first m steps, of which the ends came before. -/
def rrI (n : Nat) (L : List Stp) (m : Nat) : List Int := ((List.range m).filter (was n L)).map fun k : Nat => (k : Int)
theorem rrI_succ (n : Nat) (L : List Stp) (m : Nat) : rrI n L (m + 1) = if was n L m then rrI n L m ++ [(m : Int)] else rrI n L m := by
  unfold rrI
  rw [List.range_succ, List.filter_append, List.map_append, List.filter_cons]
  cases h : was n L m <;> simp
theorem rrI_one (n : Nat) (L : List Stp) : rrI n L 1 = [] := by rw [show 1 = 0 + 1 from rfl, rrI_succ]; rfl
theorem rrI_len (n : Nat) (L : List Stp) (m : Nat) : (rrI n L m).length ≤ m := by
  unfold rrI
  rw [List.length_map]
  have := List.length_filter_le (was n L) (List.range m)
  rwa [List.length_range] at this
theorem was_iff {n : Nat} {L : List Stp} {k : Nat} : was n L k = true ↔ ∃ i, i < k ∧ bh n L i = bh n L k := by
  unfold was
  rw [List.any_eq_true]
  constructor
  · rintro ⟨i, hi, h⟩; exact ⟨i, List.mem_range.1 hi, of_decide_eq_true h⟩
  · rintro ⟨i, hi, h⟩; exact ⟨i, List.mem_range.2 hi, decide_eq_true h⟩
theorem rpF_map (L : List Stp) : ∀ m, (rpF L (List.range m)).1 = (List.range m).map (bh 6 L)
  | 0 => rfl
  | m + 1 => by rw [List.range_succ, rpF_snoc, List.map_append, ← rpF_map L m]; rfl
theorem rpF_two (L : List Stp) : ∀ {m : Nat}, m ≤ L.length → (rpF L (List.range m)).2 = rrI 6 L m
  | 0, _ => rfl
  | m + 1, hm => by
    rw [List.range_succ, rpF_snoc, rrI_succ, ← rpF_two L (show m ≤ L.length by omega)]
    unfold rpS
    simp only
    rw [rpF_map]
    have h : (m < L.length ∧ bh 6 L m ∈ (List.range m).map (bh 6 L)) ↔ was 6 L m = true := by
      rw [was_iff, List.mem_map]
      constructor
      · rintro ⟨-, i, hi, h⟩; exact ⟨i, List.mem_range.1 hi, h⟩
      · rintro ⟨i, hi, h⟩; exact ⟨by omega, i, List.mem_range.2 hi, h⟩
    by_cases g : was 6 L m = true
    · rw [if_pos (h.2 g), if_pos g]
    · rw [if_neg (fun e => g (h.1 e)), if_neg g]
theorem rpF_end (L : List Stp) : (rpF L (List.range (L.length + 1))).2 = rrI 6 L L.length := by
  rw [List.range_succ, rpF_snoc, ← rpF_two L (Nat.le_refl _)]
  unfold rpS
  rw [if_neg (fun e => by omega)]
theorem bh_drop {n : Nat} {L : List Stp} (h : Rt (n : Int) L) {k : Nat} (hk : k ≤ L.length) : (bh 6 L k).drop n = List.replicate (6 - n) false :=
  bh_low (by have := h.n1; omega) hk (fun i hi => (stE_ok (h.stp i (by omega))).2.1)
theorem bh_same {n : Nat} {L : List Stp} (h : Rt (n : Int) L) {x y : Nat} (hx : x ≤ L.length) (hy : y ≤ L.length) : bh 6 L x = bh 6 L y ↔ bh n L x = bh n L y := by
  have hn : n ≤ 6 := by have := h.n6; omega
  rw [bh_cut hn L x, bh_cut hn L y]
  constructor
  · intro e; rw [e]
  · intro e
    rw [← List.take_append_drop n (bh 6 L x), ← List.take_append_drop n (bh 6 L y), e, bh_drop h hx, bh_drop h hy]
theorem was_same {n : Nat} {L : List Stp} (h : Rt (n : Int) L) {k : Nat} (hk : k ≤ L.length) : was 6 L k = was n L k := by
  apply bool_eq
  rw [was_iff, was_iff]
  constructor
  · rintro ⟨i, hi, e⟩; exact ⟨i, hi, (bh_same h (by omega) hk).1 e⟩
  · rintro ⟨i, hi, e⟩; exact ⟨i, hi, (bh_same h (by omega) hk).2 e⟩
theorem rrI_same {n : Nat} {L : List Stp} (h : Rt (n : Int) L) : rrI 6 L L.length = rrI n L L.length := by
  unfold rrI
  congr 1
  exact List.filter_congr fun k hk => was_same h (by have := List.mem_range.1 hk; omega)
/-- Is one of the first i ends as that before step k? -/
def wasI (n : Nat) (L : List Stp) (k i : Nat) : Bool := (List.range i).any fun i => decide (bh n L i = bh n L k)
theorem wasI_succ (n : Nat) (L : List Stp) (k i : Nat) : wasI n L k (i + 1) = (wasI n L k i || decide (bh n L i = bh n L k)) := by
  unfold wasI
  rw [List.range_succ, List.any_append]; simp
end Sq

namespace Go.Proofs.YtjpbccpleflkhaaDoor
open Go.RowKit Go.Shelf
attribute [local go_sem] Oper.semAt_some
set_option maxHeartbeats 16000000 in
set_option maxRecDepth 100000 in
theorem rRep_any (n : Int) (v : Value) (L : List Sk.Stp) (w : World) (hs : SeeT w v L) : Calls Tryd.prog 33 #[.agg #[.int .i64 n, v]] w (RepP (Sq.repV n L) w) := by
  obtain ⟨i0, hi0, hz0, hz1, hz2⟩ := info_int
  have HS := Lib.hid hs
  obtain ⟨ao, cap, rfl, hcap1, hcap2, -⟩ := hs
  have CC := fun V (h : SeeT V (.slice ao L.length cap) L) => Lib.hid (rChk_any n (.slice ao L.length cap) L V h)
  obtain ⟨P0, L0, z0⟩ := boxP_new w (.int .i64 n) (.slice ao L.length cap) 32
  have HL0 := Lib.hid L0
  have HP0 := Lib.hid P0
  by_cases hc : Sq.chk n L = 0
  · have hR := Sq.chk_ok hc
    obtain ⟨nn, rfl⟩ := Int.eq_ofNat_of_zero_le (show 0 ≤ n by have := hR.n1; omega)
    have hv : Sq.repV (nn : Int) L = (Sq.rrI nn L L.length, 0) := by unfold Sq.repV; rw [if_pos hc, Sq.rpF_end, Sq.rrI_same hR]
    rw [hv]
    rw [hc] at CC
    have hl64 := hR.l64
    have hl1 := hR.l1
    have hn1 := hR.n1
    have hn6 := hR.n6
    have CB := Lib.hid (fun k (hk : k ≤ L.length) V (h : SeeT V (.slice ao L.length cap) L) => rBeh_any nn (.slice ao L.length cap) L k V h (by omega) (by omega) hk (by have := fit_of hR hk; rwa [Int.toNat_natCast] at this))
    clear hc hR hv
    obtain ⟨p0, p1, p2⟩ := P0
    clear L0 z0
    go_enter Tryd.func33, Tryd.ntmps33
    go_wp2_with fail
    refine ((CC _ (HS.out.step HL0.out)).out).mono ?_
    rintro e w1 ⟨rfl, hb1⟩
    have HB1 := Lib.hid (below_nxt HL0.out hb1)
    have HP1 := Lib.hid (HP0.out.step hb1)
    clear hb1 p0 p1 p2
    go_wp2
    go_loopw [5, 6] (fun s5 s6 wr => ∃ k : Nat, 1 ≤ k ∧ k ≤ L.length ∧ s6 = .int .i64 (k : Int) ∧ Hid (RowI (w.heap.size + 1) 3 wr s5 (Sq.rrI nn L k)) ∧ Hid (BoxP wr w.heap.size (.int .i64 (nn : Int)) (.slice ao L.length cap)) ∧ Hid (Below w.heap.size w wr)) (fun _ s6 _ => L.length - (intOf s6).toNat)
    case atStart => exact ⟨1, by omega, by omega, rfl, Lib.hid (by rw [Sq.rrI_one]; exact RowI.nil _ _ _), HP1, HB1⟩
    case round =>
      obtain ⟨k, hk1, hk, rfl, HR, HP, HB⟩ := hrel
      obtain ⟨ro, rc, hro⟩ := HR.out.form
      subst hro
      obtain ⟨p0, p1, p2⟩ := HP.out
      have hwk : IntKind.i64.wrap (k : Int) = (k : Int) := IntWalk.i64_in _ (by omega)
      have hiz : (L.length : Int) ≤ 64 := by omega
      by_cases hkl : k < L.length
      · have HTk := Lib.hid (Sq.rrI_succ nn L k)
        have HLk := Lib.hid (Sq.rrI_len nn L k)
        have CBk := fun V (h : SeeT V (.slice ao L.length cap) L) => Lib.hid (CB.out k hk V h)
        go_wp2
        clear p0 p1 p2
        go_loopw [7, 8] (fun s7 s8 wq => ∃ i : Nat, i ≤ k ∧ s8 = .int .i64 (i : Int) ∧ s7 = .bool (Sq.wasI nn L k i) ∧ Hid (RowI (w.heap.size + 1) 3 wq (.slice ro (Sq.rrI nn L k).length rc) (Sq.rrI nn L k)) ∧ Hid (BoxP wq w.heap.size (.int .i64 (nn : Int)) (.slice ao L.length cap)) ∧ Hid (Below w.heap.size w wq)) (fun _ s8 _ => k - (intOf s8).toNat)
        case atStart => exact ⟨0, Nat.zero_le _, rfl, rfl, HR, HP, HB⟩
        case round =>
          obtain ⟨i, hi, rfl, rfl, HRi, HPi, HBi⟩ := hrel
          have hwi : IntKind.i64.wrap (i : Int) = (i : Int) := IntWalk.i64_in _ (by omega)
          by_cases hik : i < k
          · have HWi := Lib.hid (Sq.wasI_succ nn L k i)
            have CBi := fun V (h : SeeT V (.slice ao L.length cap) L) => Lib.hid (CB.out i (by omega) V h)
            obtain ⟨p0, p1, p2⟩ := HPi.out
            clear CB
            generalize hf : Sq.wasI nn L k i = f at *
            cases f
            · have HE : Hid (Sq.wasI nn L k (i + 1) = decide (Sq.bh nn L i = Sq.bh nn L k)) := Lib.hid (by rw [HWi.out]; rfl)
              generalize hd : decide (Sq.bh nn L i = Sq.bh nn L k) = d at *
              have CE := fun u1 u2 V (h1 : SeeB V u1 (Sq.bh nn L i)) (h2 : SeeB V u2 (Sq.bh nn L k)) => Lib.hid (rSmE_any u1 u2 _ _ V h1 h2)
              rw [hd] at CE
              clear HWi hf hd p0 p1 p2
              have hdr := (Below.refl wr.heap.size wr).drew
              have HBd := Lib.hid (below_nxt HBi.out hdr)
              have HRd := Lib.hid (HRi.out.step hdr)
              have HPd := Lib.hid (HPi.out.step hdr)
              have ST := Lib.hid (HS.out.step HBd.out)
              obtain ⟨-, P1, P2⟩ := id HPd.out
              clear hdr HBi HRi HPi HR HP HB
              go_wp2_with fail
              go_wp2
              go_region_held3 (fun W => W.cell? ⟨w.heap.size, 0, none⟩ = some (.int .i64 (nn : Int)) ∧ W.cell? ⟨w.heap.size, 1, none⟩ = some (.slice ao L.length cap))
                (first | (refine ⟨?_, ?_⟩ <;> with_reducible assumption) | (go_split_ands; refine ⟨?_, ?_⟩ <;> with_reducible assumption))
                (first
                  | (go_at_call 47; (with_reducible refine ((CE _ _ _ U1.out U2.out).out).mono ?_); rintro e wn ⟨rfl, hb⟩; have STq := Lib.hid (ST.out.step hb); have HBq := Lib.hid (below_nxt HBd.out hb); have HRq := Lib.hid (HRd.out.step hb); have HPq := Lib.hid (HPd.out.step hb); clear ST HBd HRd HPd P1 P2; have ST := STq; have HBd := HBq; have HRd := HRq; have HPd := HPq; clear STq HBq HRq HPq; obtain ⟨-, P1, P2⟩ := id HPd.out; clear hb U1 U2)
                  | (go_at_call 44; (with_reducible refine ((CBk _ ST.out).out).mono ?_); rintro e wn ⟨u2, rfl, hse, hb⟩; have U2 := Lib.hid hse; have U1q := Lib.hid (U1.out.step hb); clear U1; have U1 := U1q; clear U1q; have STq := Lib.hid (ST.out.step hb); have HBq := Lib.hid (below_nxt HBd.out hb); have HRq := Lib.hid (HRd.out.step hb); have HPq := Lib.hid (HPd.out.step hb); clear ST HBd HRd HPd P1 P2; have ST := STq; have HBd := HBq; have HRd := HRq; have HPd := HPq; clear STq HBq HRq HPq; obtain ⟨-, P1, P2⟩ := id HPd.out; clear hb hse)
                  | (go_at_call 44; (with_reducible refine ((CBi _ ST.out).out).mono ?_); rintro e wn ⟨u1, rfl, hse, hb⟩; have U1 := Lib.hid hse; have STq := Lib.hid (ST.out.step hb); have HBq := Lib.hid (below_nxt HBd.out hb); have HRq := Lib.hid (HRd.out.step hb); have HPq := Lib.hid (HPd.out.step hb); clear ST HBd HRd HPd P1 P2; have ST := STq; have HBd := HBq; have HRd := HRq; have HPd := HPq; clear STq HBq HRq HPq; obtain ⟨-, P1, P2⟩ := id HPd.out; clear hb hse))
              all_goals (go_wp2; exact ⟨⟨i + 1, by omega, by first | rfl | go_num, by rw [HE.out], HRd, HPd, HBd⟩, by simp [intOf]; omega⟩)
            · have HE : Hid (Sq.wasI nn L k (i + 1) = true) := Lib.hid (by rw [HWi.out]; rfl)
              clear HWi hf
              go_wp2_with fail
              go_quiet (fail)
              go_wp2
              exact ⟨⟨i + 1, by omega, by first | rfl | go_num, by rw [HE.out], Lib.hid (HRi.out.step (below_drewN _ _)), Lib.hid (HPi.out.step (below_drewN _ _)), Lib.hid (HBi.out.trans (below_drewN _ _))⟩, by simp [intOf]; omega⟩
          · obtain rfl : i = k := by omega
            have HW : Hid (Sq.wasI nn L i i = Sq.was nn L i) := Lib.hid rfl
            have hww := HW.out
            obtain ⟨p0, p1, p2⟩ := HPi.out
            rw [hww]
            clear hww HW
            cases hw : Sq.was nn L i
            · have HTn := Lib.hid (show Sq.rrI nn L (i + 1) = Sq.rrI nn L i by rw [HTk.out, hw]; rfl)
              clear hw HTk
              generalize Sq.rrI nn L i = F at *
              go_wp2
              exact ⟨⟨i + 1, by omega, by omega, by first | rfl | go_num, by rw [HTn.out]; exact HRi, HPi, HBi⟩, by simp [intOf]; omega⟩
            · have HTn := Lib.hid (show Sq.rrI nn L (i + 1) = Sq.rrI nn L i ++ [(i : Int)] by rw [HTk.out, hw]; rfl)
              clear hw HTk
              have hz2' := HPi.out.1
              generalize Sq.rrI nn L i = F at *
              clear p0 p1 p2
              go_wp2_with (at_builtin; refine wpList_append_int1 rfl _ _ 54 rfl 3 i0 Tryd.underlying54 hi0 hz0 hz1 hz2 _ F (i : Int) wr.heap.size rfl rfl (w.heap.size + 1) (HRi.out.step (allocB _ _)) (by simp) (by have := HLk.out; omega) (Nat.le_trans (show w.heap.size + 1 ≤ wr.heap.size from hz2') (by simp)) ?_; intro a5 p5 w5 hr5 hg5; have HR5 := Lib.hid hr5; have HP5 := Lib.hid ((HPi.out.step (allocB _ (.cells #[.int .i64 (i : Int)] 3))).blk (hg5.block w.heap.size (Nat.lt_of_lt_of_le hz2' (by simp)) (fun e => by have := (HRi.out.lt _ e.symm).1; omega))); have HB5 := Lib.hid ((HBi.out.alloc HBi.out.size (.cells #[.int .i64 (i : Int)] 3)).grown hg5 (Nat.le_trans HBi.out.size (by simp)) (fun r e => by have := (HRi.out.lt r e).1; omega)); clear hr5 hg5)
              exact ⟨⟨i + 1, by omega, by omega, by first | rfl | go_num, by rw [HTn.out]; exact HR5, HP5, HB5⟩, by simp [intOf]; omega⟩
      · obtain rfl : k = L.length := by omega
        have HSe := Lib.hid HR.out.sees
        clear CB
        generalize Sq.rrI nn L L.length = F at *
        go_wp2
        exact bodyPost_ret (v := .tuple #[.slice ro F.length rc, .int .i64 0]) (by simp [results, Tryd.f33, go_sem]) rfl ⟨ro, rc, rfl, HSe.out, HB.out⟩
  · have hv : Sq.repV n L = ([], Sq.chk n L) := by unfold Sq.repV; rw [if_neg hc]
    rw [hv]
    have hct : (Sq.chk n L != 0) = true := by simpa using hc
    clear hv hc
    generalize Sq.chk n L = c at *
    obtain ⟨p0, p1, p2⟩ := P0
    clear L0 z0
    go_enter Tryd.func33, Tryd.ntmps33
    go_wp2_with fail
    refine ((CC _ (HS.out.step HL0.out)).out).mono ?_
    rintro e w1 ⟨rfl, hb1⟩
    have HB1 := Lib.hid (below_nxt HL0.out hb1)
    clear hb1 p0 p1 p2
    go_wp2
    exact bodyPost_ret (v := .tuple #[.slice none 0 0, .int .i64 c]) (by simp [results, Tryd.f33, go_sem]) rfl ⟨none, 0, rfl, SeeI.nil _, HB1.out⟩
end Go.Proofs.YtjpbccpleflkhaaDoor
