/- The call of ImplicantGrows. -/
import Derived.Test.YtabflijfbjdpgaaDoorLC
import Derived.Test.YtabflijfbjdpgaaDoorIy
import Derived.Test.YtabflijfbjdpgaaDoorJd
namespace Go.Proofs.YtabflijfbjdpgaaDoor
open Go.RowKit Go.Shelf

/-- What stands as the law goes on. -/
def GI (T L D n on : Nat) (m : Int) (fr c v : Nat) (ao : Option Addr) (l : List (Nat × Nat)) (cap : Nat) (W : World) : Prop :=
  TaskI W T n on m fr ∧ CubI W (T + 1) c v ∧ BadI W D ∧ (L < W.heap.size ∧ W.cell? ⟨L, 0, none⟩ = some (.slice ao l.length cap)) ∧ CellsC W ao l ∧ St W
theorem GI.step {T L D n on : Nat} {m : Int} {fr c v : Nat} {ao : Option Addr} {l : List (Nat × Nat)} {cap : Nat} {W W' : World} (h : GI T L D n on m fr c v ao l cap W) (hb : Below W.heap.size W W') : GI T L D n on m fr c v ao l cap W' :=
  ⟨h.1.step hb, h.2.1.step hb, h.2.2.1.step hb, ⟨Nat.lt_of_lt_of_le h.2.2.2.1.1 hb.size, (hb.cell (p := ⟨L, 0, none⟩) h.2.2.2.1.1).trans h.2.2.2.1.2⟩, h.2.2.2.2.1.next hb, h.2.2.2.2.2.next hb⟩
theorem bad_new (w1 : World) (u : Value) (T B : TypeId) : BadI ((w1.alloc (.cells #[u] T)).alloc (.cells #[.bool false] B)) (w1.heap.size + 1) ∧ (w1.heap.size < ((w1.alloc (.cells #[u] T)).alloc (.cells #[.bool false] B)).heap.size ∧ ((w1.alloc (.cells #[u] T)).alloc (.cells #[.bool false] B)).cell? ⟨w1.heap.size, 0, none⟩ = some u) ∧ Below w1.heap.size w1 ((w1.alloc (.cells #[u] T)).alloc (.cells #[.bool false] B)) := by
  have LZ : Below (w1.alloc (.cells #[u] T)).heap.size (w1.alloc (.cells #[u] T)) ((w1.alloc (.cells #[u] T)).alloc (.cells #[.bool false] B)) := (Below.refl _ _).alloc (Nat.le_refl _) _
  have e : w1.heap.size + 1 = (w1.alloc (.cells #[u] T)).heap.size := by simp
  refine ⟨⟨by simp, ?_, ?_⟩, ⟨by simp; omega, (LZ.cell (p := ⟨w1.heap.size, 0, none⟩) (by simp)).trans (by simp)⟩, ((Below.refl _ _).alloc (Nat.le_refl _) _).alloc (by simp) _⟩
  · rw [e]; simp
  · rw [e]; simp

set_option linter.unusedSimpArgs false in
set_option maxHeartbeats 16000000 in
set_option maxRecDepth 100000 in
theorem lawGrows_ok (n on : Nat) (m : Int) (fr c v : Nat) (w : World) (hst : St w) (hn : n ≤ 6) (ho : on < 2 ^ 64) (hf : fr < 2 ^ 64) (hc : c < 2 ^ n) (hs : Ic.Sub v c) (hchk : Ic.tchk n on m fr = 0) :
    Calls Tryd.prog 10 #[.agg #[.int .i64 n, .int .u64 on, .int .i64 m, .int .u64 fr], .agg #[.int .u64 c, .int .u64 v]] w fun e w' => e = .returned (.bool true) ∧ Below w.heap.size w w' := by
  have hc64 := Ic.w64 hn hc
  have hv64 := Ic.w64 hn (hs.lt hc)
  have hck := Ic.chk_of hn hc hs
  have K1 := fun W => Lib.hid (rcCheckTask_any n on m fr W ho hf)
  rw [hchk] at K1
  have K2 := fun W => Lib.hid (rcCheck_any n c v W hc64 hv64)
  rw [hck] at K2
  have CP := fun W (h : St W) => Lib.hid (iPrimes_ok n on m fr W hn ho hf h hchk)
  have CI := fun W (h : St W) => Lib.hid (iImplies_any n on m fr c v W ho hf hc64 hv64 h)
  have HIV : Ic.impV n on m fr c v = (Ic.imp n on fr c v, 0) := by
    unfold Ic.impV; rw [if_neg (by rw [hchk]; simp), if_neg (by rw [hck]; simp), Int.toNat_natCast]
  rw [HIV] at CI
  dsimp only at CI
  have CPt := fun W => Lib.hid (rcPoints_any n c v W hn hc64)
  have CM := fun sv W (h : Sees .i64 W sv (Tt.pts (Ic.inn c v) (2 ^ n))) => Lib.hid (rMade_any n sv _ W hn h (Nat.le_trans (Tt.pts_len _ _) (Tt.size_le hn)))
  simp only [mk_pts] at CM
  have hmk : Tt.mk n (Ic.inn c v) = Ic.tab n c v := Nat.eq_of_testBit_eq fun i => by rw [Tt.mk_bit, Ic.tab_bit]
  simp only [hmk] at CM
  have CBo := fun W => Lib.hid (rBoth_any n on n (Ic.tab n c v) W ho (Tt.w64 hn (Ic.tab_lt n c v)))
  simp only [Nat.and_comm on] at CBo
  have hlen := Ic.primesS_len (on := on) (fr := fr) hn
  have HF := Lib.hid (fun i (hi : i < (Ic.primesS n on fr).length) => Ic.primesS_mem.1 (Ic.getD_mem hi))
  have HY := Lib.hid (fun x y (h1 : x < 2 ^ n) (h2 : Ic.Sub y x) (h3 : Ic.imp n on fr x y = true) => Ic.held_of hn ho hf h1 h2 h3)
  have HN := Lib.hid (fun (h3 : Ic.imp n on fr c v = false) h4 => Ic.held_not hn ho hf hc hs h3 h4)
  have HCI := Lib.hid (fun x y p q h1 h2 h3 h4 h5 h6 h7 => Ic.cons_imp (n := n) (on := on) (fr := fr) (c := x) (v := y) (d := p) (u := q) hn ho hf h1 h2 h3 h4 h5 h6 h7)
  generalize Ic.primesS n on fr = l at *
  have CHx := fun ao cap (h1 : l.length ≤ cap) (h2 : cap ≤ 9223372036854775807) L D W (h : GI w.heap.size L D n on m fr c v ao l cap W) x y (hx : x < 2 ^ n) (hy : Ic.Sub y x) => Lib.hid (gHeld_any n on m fr x y w.heap.size D L l ao cap W h.2.2.2.2.2 hn ho hx hy (fun i hi => (HF.out i hi).1) (by omega) h1 h2 h.2.2.2.2.1 h.1 h.2.2.1 h.2.2.2.1.1 h.2.2.2.1.2)
  have HYc := Lib.hid (fun h => HY.out c v hc hs h)
  have HCF := Lib.hid (And.intro hc hs)
  have HHN := Lib.hid hn
  have HST := Lib.hid hst
  clear hchk hck hc64 hv64 hst HIV hmk ho hf hc hs
  obtain ⟨P1, L1, z1⟩ := cub1_new (w.alloc (.cells #[.int .i64 n, .int .u64 (on : Int), .int .i64 m, .int .u64 (fr : Int)] 58)) c v 24
  obtain ⟨P0, L0, z0⟩ := task_new w n on m fr 58
  replace P0 := P0.step L1
  replace L0 := below_nxt L0 L1
  rw [z0] at P1 z1
  clear L1 z0
  generalize hX : (w.alloc (.cells #[.int .i64 n, .int .u64 (on : Int), .int .i64 m, .int .u64 (fr : Int)] 58)).alloc (.cells #[.int .u64 (c : Int), .int .u64 (v : Int)] 24) = X at *
  have HB0 := Lib.hid L0
  have HP0 := Lib.hid P0
  have HP1 := Lib.hid P1
  obtain ⟨p0, p1, p2, p3, p4⟩ := P0
  obtain ⟨q0, q1, q2, q3, q4⟩ := P1
  clear L0
  go_enter Tryd.func10, Tryd.ntmps10
  go_wp2_with (first | (go_at_call 31; refine ((K1 _).out).mono ?_; rintro e v1 ⟨rfl, hb⟩; have HV1 := Lib.hid (below_nxt HB0.out hb); have U1 := Lib.hid (HP0.out.step hb); have V1 := Lib.hid (HP1.out.step hb); clear hb p1 p2 p3 p4 q1 q2 q3 q4; obtain ⟨p0', p1, p2, p3, p4⟩ := U1.out; obtain ⟨q0', q1, q2, q3, q4⟩ := V1.out) | (go_at_call 16; refine ((K2 _).out).mono ?_; rintro e v2 ⟨rfl, hb⟩; have HV2 := Lib.hid (below_nxt HV1.out hb); have U2 := Lib.hid (U1.out.step hb); have V2 := Lib.hid (V1.out.step hb); clear hb p1 p2 p3 p4 q1 q2 q3 q4; obtain ⟨p0'', p1, p2, p3, p4⟩ := U2.out; obtain ⟨q0'', q1, q2, q3, q4⟩ := V2.out) | fail)
  go_at_call 33
  refine ((CP _ (HST.out.next HV2.out)).out).mono ?_
  rintro e w1 ⟨pv, rfl, hsee, hb⟩
  obtain ⟨ao, cap, rfl, hcap1, hcap2, hcells⟩ := hsee.opened
  have HW1 := Lib.hid (below_nxt HV2.out hb)
  have U3 := Lib.hid (U2.out.step hb)
  have V3 := Lib.hid (V2.out.step hb)
  have HC1 := Lib.hid hcells
  clear hb hsee hcells p1 p2 p3 p4 q1 q2 q3 q4 U1 V1 U2 V2 K1 K2 CP HV1
  obtain ⟨p0a, p1, p2, p3, p4⟩ := U3.out
  obtain ⟨q0a, q1, q2, q3, q4⟩ := V3.out
  by_cases h100 : l.length ≤ 100
  · have h100' : decide (l.length > 100) = false := by simp; omega
    go_wp2_with (fail)
    obtain ⟨b1, b2, LY⟩ := bad_new w1 (.slice ao l.length cap) 66 4
    have GY : Hid (GI w.heap.size w1.heap.size (w1.heap.size + 1) n on m fr c v ao l cap ((w1.alloc (.cells #[.slice ao l.length cap] 66)).alloc (.cells #[.bool false] 4))) := Lib.hid ⟨U3.out.step LY, V3.out.step LY, b1, b2, HC1.out.next LY, HST.out.next (below_nxt HW1.out LY)⟩
    have HY1 := Lib.hid (below_nxt HW1.out LY)
    clear b1 b2 LY U3 V3 HC1 p1 p2 p3 p4 q1 q2 q3 q4
    generalize (w1.alloc (.cells #[.slice ao l.length cap] 66)).alloc (.cells #[.bool false] 4) = Y at *
    go_at_call 28
    refine ((CI _ GY.out.2.2.2.2.2).out).mono ?_
    rintro e w2 ⟨rfl, hb⟩
    have HW2 := Lib.hid (below_nxt HY1.out hb)
    have G2 := Lib.hid (GY.out.step hb)
    clear hb CI GY
    have CHc := fun W h => CHx ao cap hcap1 hcap2 w1.heap.size (w1.heap.size + 1) W h c v HCF.out.1 HCF.out.2
    have HD := Lib.hid ((Below.refl w2.heap.size w2).drew)
    generalize hib : Ic.imp n on fr c v = ib at *
    cases ib with
    | true =>
      rw [HYc.out rfl] at CHc
      go_wp2_with (fail)
      refine wp_region_noPanic ?_
      refine wp_region_held_drew (S := (fun W => ((W.cell? ⟨w.heap.size, 0, none⟩ = some (.int .i64 n) ∧ W.cell? ⟨w.heap.size, 1, none⟩ = some (.int .u64 (on : Int)) ∧ W.cell? ⟨w.heap.size, 2, none⟩ = some (.int .i64 m) ∧ W.cell? ⟨w.heap.size, 3, none⟩ = some (.int .u64 (fr : Int))) ∧ (W.cell? ⟨w.heap.size + 1, 0, none⟩ = some (.int .u64 (c : Int)) ∧ W.cell? ⟨w.heap.size + 1, 1, none⟩ = some (.int .u64 (v : Int))) ∧ Hid (Below w2.heap.size w2 W)))) (by kernel_rfl) ?_ (fun hHeld => ?_)
      · exact ⟨⟨(G2.out.step HD.out).1.2.1, (G2.out.step HD.out).1.2.2.1, (G2.out.step HD.out).1.2.2.2.1, (G2.out.step HD.out).1.2.2.2.2⟩, ⟨(G2.out.step HD.out).2.1.2.1, (G2.out.step HD.out).2.1.2.2.1⟩, HD⟩
      refine wpAnyH_take (i := 0) (v := ?_) rfl (by kernel_rfl) (by kernel_rfl) (by kernel_rfl) (fun _ _ _ h => h) (Or.inl ⟨by rfl, ?_⟩) (by assumption) ?_
      rotate_left 1
      · (intro w hSw; (try dsimp only at hSw); go_simp; (try with_reducible rfl))
      try simp only [Act.put, List.getElem_toArray, List.getElem_cons_succ, List.getElem_cons_zero, List.setIfInBounds_toArray, List.set_cons_zero, List.set_cons_succ]
      refine wpAnyH_take (i := 1) (v := ?_) rfl (by kernel_rfl) (by kernel_rfl) (by kernel_rfl) (fun _ _ _ h => h) (Or.inl ⟨by rfl, ?_⟩) (by assumption) ?_
      rotate_left 1
      · (intro w hSw; (try dsimp only at hSw); go_simp; (try with_reducible rfl))
      try simp only [Act.put, List.getElem_toArray, List.getElem_cons_succ, List.getElem_cons_zero, List.setIfInBounds_toArray, List.set_cons_zero, List.set_cons_succ]
      refine wpAnyH_take (i := 2) (v := ?_) rfl (by kernel_rfl) (by kernel_rfl) (by kernel_rfl) (fun _ _ _ h => h) (Or.inl ⟨by rfl, ?_⟩) (by assumption) ?_
      rotate_left 1
      · (intro w hSw; (try dsimp only at hSw); go_simp; (try with_reducible rfl))
      try simp only [Act.put, List.getElem_toArray, List.getElem_cons_succ, List.getElem_cons_zero, List.setIfInBounds_toArray, List.set_cons_zero, List.set_cons_succ]
      refine wpAnyH_take (i := 3) (v := ?_) rfl (by kernel_rfl) (by kernel_rfl) (by kernel_rfl) (fun _ _ _ h => h) (Or.inl ⟨by rfl, ?_⟩) (by assumption) ?_
      rotate_left 1
      · (intro w hSw; (try dsimp only at hSw); go_simp; (try with_reducible rfl))
      try simp only [Act.put, List.getElem_toArray, List.getElem_cons_succ, List.getElem_cons_zero, List.setIfInBounds_toArray, List.set_cons_zero, List.set_cons_succ]
      refine wpAnyH_take (i := 4) (v := ?_) rfl (by kernel_rfl) (by kernel_rfl) (by kernel_rfl) (fun _ _ _ h => h) (Or.inl ⟨by rfl, ?_⟩) (by assumption) ?_
      rotate_left 1
      · (intro w hSw; (try dsimp only at hSw); go_simp; (try with_reducible rfl))
      try simp only [Act.put, List.getElem_toArray, List.getElem_cons_succ, List.getElem_cons_zero, List.setIfInBounds_toArray, List.set_cons_zero, List.set_cons_succ]
      refine wpAnyH_take (i := 5) (v := ?_) rfl (by kernel_rfl) (by kernel_rfl) (by kernel_rfl) (fun _ _ _ h => h) (Or.inl ⟨by rfl, ?_⟩) (by assumption) ?_
      rotate_left 1
      · (intro w hSw; (try dsimp only at hSw); go_simp; (try with_reducible rfl))
      try simp only [Act.put, List.getElem_toArray, List.getElem_cons_succ, List.getElem_cons_zero, List.setIfInBounds_toArray, List.set_cons_zero, List.set_cons_succ]
      refine wpAnyH_take (i := 6) (v := ?_) rfl (by kernel_rfl) (by kernel_rfl) (by kernel_rfl) (fun _ _ _ h => h) (Or.inl ⟨by rfl, ?_⟩) (by assumption) ?_
      rotate_left 1
      · (intro w hSw; (try dsimp only at hSw); go_simp; (try with_reducible rfl))
      try simp only [Act.put, List.getElem_toArray, List.getElem_cons_succ, List.getElem_cons_zero, List.setIfInBounds_toArray, List.set_cons_zero, List.set_cons_succ]
      refine wpAnyH_ready (rs := [7]) (by kernel_rfl) (by simp) ?_
      refine AllReadyH.cons rfl (fun K hK => ?_) AllReadyH.nil
      go_simp
      (go_at_call 41; (with_reducible refine ((CHc _ (G2.out.step HD.out)).out).mono ?_); rintro e w3 ⟨rfl, hb⟩; have HB3 := Lib.hid (below_nxt HD.out hb); clear hb)
      go_simp
      refine hK.out _ _ ?_ (fun hHeld => ?_)
      · exact ⟨⟨(G2.out.step HB3.out).1.2.1, (G2.out.step HB3.out).1.2.2.1, (G2.out.step HB3.out).1.2.2.2.1, (G2.out.step HB3.out).1.2.2.2.2⟩, ⟨(G2.out.step HB3.out).2.1.2.1, (G2.out.step HB3.out).2.1.2.2.1⟩, HB3⟩
      clear hK K
      try simp only [Act.put, List.getElem_toArray, List.getElem_cons_succ, List.getElem_cons_zero, List.setIfInBounds_toArray, List.set_cons_zero, List.set_cons_succ]
      refine wpAnyH_take (i := 8) (v := ?_) rfl (by kernel_rfl) (by kernel_rfl) (by kernel_rfl) (fun _ _ _ h => h) (Or.inl ⟨by rfl, ?_⟩) (by assumption) ?_
      rotate_left 1
      · (intro w hSw; (try dsimp only at hSw); go_simp; (try with_reducible rfl))
      try simp only [Act.put, List.getElem_toArray, List.getElem_cons_succ, List.getElem_cons_zero, List.setIfInBounds_toArray, List.set_cons_zero, List.set_cons_succ]
      refine wpAnyH_take (i := 9) (v := ?_) rfl (by kernel_rfl) (by kernel_rfl) (by kernel_rfl) (fun _ _ _ h => h) (Or.inl ⟨by rfl, ?_⟩) (by assumption) ?_
      rotate_left 1
      · (intro w hSw; (try dsimp only at hSw); go_simp; (try with_reducible rfl))
      try simp only [Act.put, List.getElem_toArray, List.getElem_cons_succ, List.getElem_cons_zero, List.setIfInBounds_toArray, List.set_cons_zero, List.set_cons_succ]
      refine wpAnyH_take (i := 10) (v := ?_) rfl (by kernel_rfl) (by kernel_rfl) (by kernel_rfl) (fun _ _ _ h => h) (Or.inl ⟨by rfl, ?_⟩) (by assumption) ?_
      rotate_left 1
      · (intro w hSw; (try dsimp only at hSw); go_simp; (try with_reducible rfl))
      try simp only [Act.put, List.getElem_toArray, List.getElem_cons_succ, List.getElem_cons_zero, List.setIfInBounds_toArray, List.set_cons_zero, List.set_cons_succ]
      refine wpAnyH_take (i := 11) (v := ?_) rfl (by kernel_rfl) (by kernel_rfl) (by kernel_rfl) (fun _ _ _ h => h) (Or.inl ⟨by rfl, ?_⟩) (by assumption) ?_
      rotate_left 1
      · (intro w hSw; (try dsimp only at hSw); go_simp; (try with_reducible rfl))
      try simp only [Act.put, List.getElem_toArray, List.getElem_cons_succ, List.getElem_cons_zero, List.setIfInBounds_toArray, List.set_cons_zero, List.set_cons_succ]
      refine wpAnyH_take (i := 12) (v := ?_) rfl (by kernel_rfl) (by kernel_rfl) (by kernel_rfl) (fun _ _ _ h => h) (Or.inl ⟨by rfl, ?_⟩) (by assumption) ?_
      rotate_left 1
      · (intro w hSw; (try dsimp only at hSw); go_simp; (try with_reducible rfl))
      try simp only [Act.put, List.getElem_toArray, List.getElem_cons_succ, List.getElem_cons_zero, List.setIfInBounds_toArray, List.set_cons_zero, List.set_cons_succ]
      refine wpAnyH_take (i := 13) (v := ?_) rfl (by kernel_rfl) (by kernel_rfl) (by kernel_rfl) (fun _ _ _ h => h) (Or.inl ⟨by rfl, ?_⟩) (by assumption) ?_
      rotate_left 1
      · (intro w hSw; (try dsimp only at hSw); go_simp; (try with_reducible rfl))
      try simp only [Act.put, List.getElem_toArray, List.getElem_cons_succ, List.getElem_cons_zero, List.setIfInBounds_toArray, List.set_cons_zero, List.set_cons_succ]
      refine wpAnyH_take (i := 14) (v := ?_) rfl (by kernel_rfl) (by kernel_rfl) (by kernel_rfl) (fun _ _ _ h => h) (Or.inl ⟨by rfl, ?_⟩) (by assumption) ?_
      rotate_left 1
      · (intro w hSw; (try dsimp only at hSw); go_simp; (try with_reducible rfl))
      try simp only [Act.put, List.getElem_toArray, List.getElem_cons_succ, List.getElem_cons_zero, List.setIfInBounds_toArray, List.set_cons_zero, List.set_cons_succ]
      refine wpAnyH_take (i := 15) (v := undef) rfl (by kernel_rfl) (by kernel_rfl) (by kernel_rfl) (fun _ _ _ h => h) (Or.inr ⟨by rfl, rfl⟩) (by assumption) ?_
      try simp only [Act.put, List.getElem_toArray, List.getElem_cons_succ, List.getElem_cons_zero, List.setIfInBounds_toArray, List.set_cons_zero, List.set_cons_succ]
      refine wpAnyH_take (i := 16) (v := undef) rfl (by kernel_rfl) (by kernel_rfl) (by kernel_rfl) (fun _ _ _ h => h) (Or.inr ⟨by rfl, rfl⟩) (by assumption) ?_
      try simp only [Act.put, List.getElem_toArray, List.getElem_cons_succ, List.getElem_cons_zero, List.setIfInBounds_toArray, List.set_cons_zero, List.set_cons_succ]
      refine wpAnyH_take (i := 17) (v := undef) rfl (by kernel_rfl) (by kernel_rfl) (by kernel_rfl) (fun _ _ _ h => h) (Or.inr ⟨by rfl, rfl⟩) (by assumption) ?_
      try simp only [Act.put, List.getElem_toArray, List.getElem_cons_succ, List.getElem_cons_zero, List.setIfInBounds_toArray, List.set_cons_zero, List.set_cons_succ]
      refine wpAnyH_take (i := 18) (v := ?_) rfl (by kernel_rfl) (by kernel_rfl) (by kernel_rfl) (fun _ _ _ h => h) (Or.inl ⟨by rfl, ?_⟩) (by assumption) ?_
      rotate_left 1
      · (intro w hSw; (try dsimp only at hSw); go_simp; (try with_reducible rfl))
      try simp only [Act.put, List.getElem_toArray, List.getElem_cons_succ, List.getElem_cons_zero, List.setIfInBounds_toArray, List.set_cons_zero, List.set_cons_succ]
      refine wpAnyH_take (i := 19) (v := ?_) rfl (by kernel_rfl) (by kernel_rfl) (by kernel_rfl) (fun _ _ _ h => h) (Or.inl ⟨by rfl, ?_⟩) (by assumption) ?_
      rotate_left 1
      · (intro w hSw; (try dsimp only at hSw); go_simp; (try with_reducible rfl))
      try simp only [Act.put, List.getElem_toArray, List.getElem_cons_succ, List.getElem_cons_zero, List.setIfInBounds_toArray, List.set_cons_zero, List.set_cons_succ]
      refine wpAnyH_take (i := 20) (v := undef) rfl (by kernel_rfl) (by kernel_rfl) (by kernel_rfl) (fun _ _ _ h => h) (Or.inr ⟨by rfl, rfl⟩) (by assumption) ?_
      try simp only [Act.put, List.getElem_toArray, List.getElem_cons_succ, List.getElem_cons_zero, List.setIfInBounds_toArray, List.set_cons_zero, List.set_cons_succ]
      refine wpAnyH_take (i := 21) (v := undef) rfl (by kernel_rfl) (by kernel_rfl) (by kernel_rfl) (fun _ _ _ h => h) (Or.inr ⟨by rfl, rfl⟩) (by assumption) ?_
      try simp only [Act.put, List.getElem_toArray, List.getElem_cons_succ, List.getElem_cons_zero, List.setIfInBounds_toArray, List.set_cons_zero, List.set_cons_succ]
      refine wpAnyH_take (i := 22) (v := undef) rfl (by kernel_rfl) (by kernel_rfl) (by kernel_rfl) (fun _ _ _ h => h) (Or.inr ⟨by rfl, rfl⟩) (by assumption) ?_
      try simp only [Act.put, List.getElem_toArray, List.getElem_cons_succ, List.getElem_cons_zero, List.setIfInBounds_toArray, List.set_cons_zero, List.set_cons_succ]
      refine wpAnyH_take (i := 23) (v := undef) rfl (by kernel_rfl) (by kernel_rfl) (by kernel_rfl) (fun _ _ _ h => h) (Or.inr ⟨by rfl, rfl⟩) (by assumption) ?_
      try simp only [Act.put, List.getElem_toArray, List.getElem_cons_succ, List.getElem_cons_zero, List.setIfInBounds_toArray, List.set_cons_zero, List.set_cons_succ]
      refine wpAnyH_take (i := 24) (v := undef) rfl (by kernel_rfl) (by kernel_rfl) (by kernel_rfl) (fun _ _ _ h => h) (Or.inr ⟨by rfl, rfl⟩) (by assumption) ?_
      try simp only [Act.put, List.getElem_toArray, List.getElem_cons_succ, List.getElem_cons_zero, List.setIfInBounds_toArray, List.set_cons_zero, List.set_cons_succ]
      refine wpAnyH_take (i := 25) (v := undef) rfl (by kernel_rfl) (by kernel_rfl) (by kernel_rfl) (fun _ _ _ h => h) (Or.inr ⟨by rfl, rfl⟩) (by assumption) ?_
      try simp only [Act.put, List.getElem_toArray, List.getElem_cons_succ, List.getElem_cons_zero, List.setIfInBounds_toArray, List.set_cons_zero, List.set_cons_succ]
      refine wpAnyH_take (i := 26) (v := undef) rfl (by kernel_rfl) (by kernel_rfl) (by kernel_rfl) (fun _ _ _ h => h) (Or.inr ⟨by rfl, rfl⟩) (by assumption) ?_
      try simp only [Act.put, List.getElem_toArray, List.getElem_cons_succ, List.getElem_cons_zero, List.setIfInBounds_toArray, List.set_cons_zero, List.set_cons_succ]
      refine wpAnyH_take (i := 27) (v := undef) rfl (by kernel_rfl) (by kernel_rfl) (by kernel_rfl) (fun _ _ _ h => h) (Or.inr ⟨by rfl, rfl⟩) (by assumption) ?_
      try simp only [Act.put, List.getElem_toArray, List.getElem_cons_succ, List.getElem_cons_zero, List.setIfInBounds_toArray, List.set_cons_zero, List.set_cons_succ]
      refine wpAnyH_take (i := 28) (v := undef) rfl (by kernel_rfl) (by kernel_rfl) (by kernel_rfl) (fun _ _ _ h => h) (Or.inr ⟨by rfl, rfl⟩) (by assumption) ?_
      try simp only [Act.put, List.getElem_toArray, List.getElem_cons_succ, List.getElem_cons_zero, List.setIfInBounds_toArray, List.set_cons_zero, List.set_cons_succ]
      refine wpAnyH_take (i := 29) (v := undef) rfl (by kernel_rfl) (by kernel_rfl) (by kernel_rfl) (fun _ _ _ h => h) (Or.inr ⟨by rfl, rfl⟩) (by assumption) ?_
      try simp only [Act.put, List.getElem_toArray, List.getElem_cons_succ, List.getElem_cons_zero, List.setIfInBounds_toArray, List.set_cons_zero, List.set_cons_succ]
      refine wpAnyH_take (i := 30) (v := undef) rfl (by kernel_rfl) (by kernel_rfl) (by kernel_rfl) (fun _ _ _ h => h) (Or.inr ⟨by rfl, rfl⟩) (by assumption) ?_
      try simp only [Act.put, List.getElem_toArray, List.getElem_cons_succ, List.getElem_cons_zero, List.setIfInBounds_toArray, List.set_cons_zero, List.set_cons_succ]
      refine wpAnyH_take (i := 31) (v := undef) rfl (by kernel_rfl) (by kernel_rfl) (by kernel_rfl) (fun _ _ _ h => h) (Or.inr ⟨by rfl, rfl⟩) (by assumption) ?_
      try simp only [Act.put, List.getElem_toArray, List.getElem_cons_succ, List.getElem_cons_zero, List.setIfInBounds_toArray, List.set_cons_zero, List.set_cons_succ]
      refine wpAnyH_take (i := 32) (v := undef) rfl (by kernel_rfl) (by kernel_rfl) (by kernel_rfl) (fun _ _ _ h => h) (Or.inr ⟨by rfl, rfl⟩) (by assumption) ?_
      try simp only [Act.put, List.getElem_toArray, List.getElem_cons_succ, List.getElem_cons_zero, List.setIfInBounds_toArray, List.set_cons_zero, List.set_cons_succ]
      refine wpAnyH_take (i := 33) (v := undef) rfl (by kernel_rfl) (by kernel_rfl) (by kernel_rfl) (fun _ _ _ h => h) (Or.inr ⟨by rfl, rfl⟩) (by assumption) ?_
      try simp only [Act.put, List.getElem_toArray, List.getElem_cons_succ, List.getElem_cons_zero, List.setIfInBounds_toArray, List.set_cons_zero, List.set_cons_succ]
      refine wpAnyH_take (i := 34) (v := ?_) rfl (by kernel_rfl) (by kernel_rfl) (by kernel_rfl) (fun _ _ _ h => h) (Or.inl ⟨by rfl, ?_⟩) (by assumption) ?_
      rotate_left 1
      · (intro w hSw; (try dsimp only at hSw); go_simp; (try with_reducible rfl))
      try simp only [Act.put, List.getElem_toArray, List.getElem_cons_succ, List.getElem_cons_zero, List.setIfInBounds_toArray, List.set_cons_zero, List.set_cons_succ]
      refine wpAnyH_take (i := 35) (v := ?_) rfl (by kernel_rfl) (by kernel_rfl) (by kernel_rfl) (fun _ _ _ h => h) (Or.inl ⟨by rfl, ?_⟩) (by assumption) ?_
      rotate_left 1
      · (intro w hSw; (try dsimp only at hSw); go_simp; (try with_reducible rfl))
      try simp only [Act.put, List.getElem_toArray, List.getElem_cons_succ, List.getElem_cons_zero, List.setIfInBounds_toArray, List.set_cons_zero, List.set_cons_succ]
      refine wpAnyH_done (by kernel_rfl) ?_ _
      refine NoPanic.normal ?_
      have HG3 := Lib.hid (G2.out.step HB3.out)
      have HWx := Lib.hid (below_nxt HW2.out HB3.out)
      obtain ⟨l0, l1⟩ := HG3.out.2.2.2.1
      clear CHc CPt CM CBo
      go_wp2_with (fail)
      go_loopw [92] (fun s92 wr => ∃ i : Nat, i ≤ l.length ∧ s92 = .int .i64 i ∧ Hid (Below w3.heap.size w3 wr)) (fun s92 _ => l.length - (intOf s92).toNat)
      case atStart => exact ⟨0, Nat.zero_le _, rfl, Lib.hid (Below.refl _ _)⟩
      case round =>
        clear l1
        obtain ⟨i, hi, rfl, HB⟩ := hrel
        by_cases hil : i < l.length
        · obtain ⟨g, rfl, hg, c1, c2⟩ := HG3.out.2.2.2.2.1.at HB.out hil
          have GO := Lib.hid (HG3.out.step HB.out)
          have HFi := Lib.hid (HF.out i hil)
          have HFj := Lib.hid (fun j (hj : j < i) => HF.out j (by omega))
          obtain ⟨l0', l1⟩ := GO.out.2.2.2.1
          generalize l.getD i (0, 0) = x at *
          obtain ⟨wo, hwo⟩ : ∃ wo, wo = wr := ⟨_, rfl⟩
          rw [← hwo] at HB GO c1 c2 l0' l1 ⊢
          clear hwo wr
          go_wp2_with (fail)
          obtain ⟨A0, LA, zA⟩ := cub1_new wo x.1 x.2 24
          have HA := Lib.hid (below_nxt HB.out LA)
          generalize wo.alloc (.cells #[.int .u64 (x.1 : Int), .int .u64 (x.2 : Int)] 24) = V at *
          clear LA HB c1 c2 l1 l0' GO
          go_loopw [101] (fun s101 wq => ∃ j : Nat, j ≤ i ∧ s101 = .int .i64 j ∧ CubI wq wo.heap.size x.1 x.2 ∧ Hid (Below w3.heap.size w3 wq)) (fun s101 _ => i - (intOf s101).toNat)
          case atStart => exact ⟨0, Nat.zero_le _, rfl, A0, HA⟩
          case round =>
            clear A0 HA zA
            obtain ⟨j, hj, rfl, A, HBq⟩ := hrel
            by_cases hji : j < i
            · obtain ⟨g', he, hg', e1, e2⟩ := HG3.out.2.2.2.2.1.at HBq.out (show j < l.length by omega)
              obtain rfl : g = g' := by simpa using he
              have hxi := HFi.out
              have hyj := HFj.out j hji
              have GQ := Lib.hid (HG3.out.step HBq.out)
              clear he hg'
              generalize l.getD j (0, 0) = y at *
              have CX := fun W => Lib.hid (iCons_any n x.1 x.2 y.1 y.2 W (Ic.w64 HHN.out hxi.1.1) (Ic.w64 HHN.out (hxi.1.2.lt hxi.1.1)) (Ic.w64 HHN.out hyj.1.1) (Ic.w64 HHN.out (hyj.1.2.lt hyj.1.1)))
              have hk2 := Ic.chk2_zero.2 ⟨Ic.chk_of HHN.out hxi.1.1 hxi.1.2, Ic.chk_of HHN.out hyj.1.1 hyj.1.2⟩
              obtain ⟨t0, t1, t2, t3, t4⟩ := GQ.out.1
              obtain ⟨a0, a1, a2, a3, a4⟩ := id A
              by_cases hcn : Ic.cnt (Ic.opp x.1 x.2 y.1 y.2) = 1
              · have HCV : Ic.consV n x.1 x.2 y.1 y.2 = (((Ic.consC x.1 x.2 y.1 y.2, Ic.consU x.1 x.2 y.1 y.2), true), 0) := by
                  unfold Ic.consV; rw [if_pos hk2, if_pos hcn]; rfl
                rw [HCV] at CX
                dsimp only at CX
                have hdc := Ic.consC_lt (v := x.2) (u := y.2) hxi.1.1 hyj.1.1
                have hds := Ic.cons_sub HHN.out hxi.1.1 hyj.1.1 hxi.1.2 hyj.1.2
                have hhd := HY.out _ _ hdc hds (HCI.out _ _ _ _ hxi.1.1 hyj.1.1 hxi.1.2 hyj.1.2 (Ic.prime_iff.1 hxi.2).2.1 (Ic.prime_iff.1 hyj.2).2.1 hcn)
                have CHd := fun W h => CHx (some ⟨g, 0, none⟩) cap hcap1 hcap2 w1.heap.size (w1.heap.size + 1) W h _ _ hdc hds
                rw [hhd] at CHd
                clear HCV hcn hk2 hdc hds hhd hxi hyj
                generalize Ic.consC x.1 x.2 y.1 y.2 = dc at *
                generalize Ic.consU x.1 x.2 y.1 y.2 = du at *
                go_wp2_with (fail)
                obtain ⟨B0, LB, zB⟩ := cub1_new wr y.1 y.2 24
                have HBB := Lib.hid (below_nxt HBq.out LB)
                have AB := Lib.hid (A.step LB)
                have GB := Lib.hid (GQ.out.step LB)
                clear LB B0 t1 t2 t3 t4 a1 a2 a3 a4 e1 e2 A
                generalize wr.alloc (.cells #[.int .u64 (y.1 : Int), .int .u64 (y.2 : Int)] 24) = V2 at *
                go_at_call 22
                refine ((CX _).out).mono ?_
                rintro e w7 ⟨rfl, hb⟩
                have HB7 := Lib.hid (below_nxt HBB.out hb)
                have A7 := Lib.hid (AB.out.step hb)
                have G7 := Lib.hid (GB.out.step hb)
                clear hb
                go_wp2_with (fail)
                obtain ⟨D0, LD, zD⟩ := cub1_new w7 dc du 24
                have HB8 := Lib.hid (below_nxt HB7.out LD)
                have A8 := Lib.hid (A7.out.step LD)
                have G8 := Lib.hid (G7.out.step LD)
                clear LD D0
                generalize w7.alloc (.cells #[.int .u64 (dc : Int), .int .u64 (du : Int)] 24) = V3 at *
                go_at_call 41
                refine ((CHd _ G8.out).out).mono ?_
                rintro e w9 ⟨rfl, hb⟩
                have HB9 := Lib.hid (below_nxt HB8.out hb)
                have A9 := Lib.hid (A8.out.step hb)
                clear hb
                go_wp2
                exact ⟨⟨j + 1, by omega, rfl, A9.out, HB9⟩, by simp [intOf]; omega⟩
              · have HCV : Ic.consV n x.1 x.2 y.1 y.2 = (((0, 0), false), 0) := by
                  unfold Ic.consV; rw [if_pos hk2, if_neg hcn]
                rw [HCV] at CX
                dsimp only at CX
                clear HCV hcn hk2 hxi hyj
                simp only [Int.natCast_zero] at CX
                go_wp2_with (fail)
                obtain ⟨B0, LB, zB⟩ := cub1_new wr y.1 y.2 24
                have HBB := Lib.hid (below_nxt HBq.out LB)
                have AB := Lib.hid (A.step LB)
                clear LB B0 t1 t2 t3 t4 a1 a2 a3 a4 e1 e2 A
                generalize wr.alloc (.cells #[.int .u64 (y.1 : Int), .int .u64 (y.2 : Int)] 24) = V2 at *
                go_at_call 22
                refine ((CX _).out).mono ?_
                rintro e w7 ⟨rfl, hb⟩
                have HB7 := Lib.hid (below_nxt HBB.out hb)
                have A7 := Lib.hid (AB.out.step hb)
                clear hb
                go_wp2
                exact ⟨⟨j + 1, by omega, rfl, A7.out.step ((Below.refl _ _).alloc (Nat.le_refl _) _), Lib.hid (below_nxt HB7.out ((Below.refl _ _).alloc (Nat.le_refl _) _))⟩, by simp [intOf]; omega⟩
            · obtain rfl : j = i := by omega
              go_wp2
              exact ⟨⟨j + 1, by omega, rfl, HBq⟩, by simp [intOf]; omega⟩
        · obtain rfl : i = l.length := by omega
          obtain ⟨d0, d1, d2⟩ := (HG3.out.step HB.out).2.2.1
          have HWR := Lib.hid (below_nxt HWx.out HB.out)
          go_wp2_with (go_at_call 17; refine (awake_any _ (HST.out.next HWR.out)).mono ?_; rintro e wz ⟨rfl, hb⟩; have HZ := Lib.hid (below_nxt HWR.out hb); clear hb)
          go_ret
          exact ⟨rfl, HZ.out⟩
    | false =>
      cases hh : heldB n on l c v with
      | false =>
        rw [hh] at CHc
        go_wp2_with (fail)
        refine wp_region_noPanic ?_
        refine wp_region_held_drew (S := (fun W => ((W.cell? ⟨w.heap.size, 0, none⟩ = some (.int .i64 n) ∧ W.cell? ⟨w.heap.size, 1, none⟩ = some (.int .u64 (on : Int)) ∧ W.cell? ⟨w.heap.size, 2, none⟩ = some (.int .i64 m) ∧ W.cell? ⟨w.heap.size, 3, none⟩ = some (.int .u64 (fr : Int))) ∧ (W.cell? ⟨w.heap.size + 1, 0, none⟩ = some (.int .u64 (c : Int)) ∧ W.cell? ⟨w.heap.size + 1, 1, none⟩ = some (.int .u64 (v : Int))) ∧ Hid (Below w2.heap.size w2 W)))) (by kernel_rfl) ?_ (fun hHeld => ?_)
        · exact ⟨⟨(G2.out.step HD.out).1.2.1, (G2.out.step HD.out).1.2.2.1, (G2.out.step HD.out).1.2.2.2.1, (G2.out.step HD.out).1.2.2.2.2⟩, ⟨(G2.out.step HD.out).2.1.2.1, (G2.out.step HD.out).2.1.2.2.1⟩, HD⟩
        refine wpAnyH_take (i := 0) (v := ?_) rfl (by kernel_rfl) (by kernel_rfl) (by kernel_rfl) (fun _ _ _ h => h) (Or.inl ⟨by rfl, ?_⟩) (by assumption) ?_
        rotate_left 1
        · (intro w hSw; (try dsimp only at hSw); go_simp; (try with_reducible rfl))
        try simp only [Act.put, List.getElem_toArray, List.getElem_cons_succ, List.getElem_cons_zero, List.setIfInBounds_toArray, List.set_cons_zero, List.set_cons_succ]
        refine wpAnyH_take (i := 1) (v := ?_) rfl (by kernel_rfl) (by kernel_rfl) (by kernel_rfl) (fun _ _ _ h => h) (Or.inl ⟨by rfl, ?_⟩) (by assumption) ?_
        rotate_left 1
        · (intro w hSw; (try dsimp only at hSw); go_simp; (try with_reducible rfl))
        try simp only [Act.put, List.getElem_toArray, List.getElem_cons_succ, List.getElem_cons_zero, List.setIfInBounds_toArray, List.set_cons_zero, List.set_cons_succ]
        refine wpAnyH_take (i := 2) (v := ?_) rfl (by kernel_rfl) (by kernel_rfl) (by kernel_rfl) (fun _ _ _ h => h) (Or.inl ⟨by rfl, ?_⟩) (by assumption) ?_
        rotate_left 1
        · (intro w hSw; (try dsimp only at hSw); go_simp; (try with_reducible rfl))
        try simp only [Act.put, List.getElem_toArray, List.getElem_cons_succ, List.getElem_cons_zero, List.setIfInBounds_toArray, List.set_cons_zero, List.set_cons_succ]
        refine wpAnyH_take (i := 3) (v := ?_) rfl (by kernel_rfl) (by kernel_rfl) (by kernel_rfl) (fun _ _ _ h => h) (Or.inl ⟨by rfl, ?_⟩) (by assumption) ?_
        rotate_left 1
        · (intro w hSw; (try dsimp only at hSw); go_simp; (try with_reducible rfl))
        try simp only [Act.put, List.getElem_toArray, List.getElem_cons_succ, List.getElem_cons_zero, List.setIfInBounds_toArray, List.set_cons_zero, List.set_cons_succ]
        refine wpAnyH_take (i := 4) (v := ?_) rfl (by kernel_rfl) (by kernel_rfl) (by kernel_rfl) (fun _ _ _ h => h) (Or.inl ⟨by rfl, ?_⟩) (by assumption) ?_
        rotate_left 1
        · (intro w hSw; (try dsimp only at hSw); go_simp; (try with_reducible rfl))
        try simp only [Act.put, List.getElem_toArray, List.getElem_cons_succ, List.getElem_cons_zero, List.setIfInBounds_toArray, List.set_cons_zero, List.set_cons_succ]
        refine wpAnyH_take (i := 5) (v := undef) rfl (by kernel_rfl) (by kernel_rfl) (by kernel_rfl) (fun _ _ _ h => h) (Or.inr ⟨by rfl, rfl⟩) (by assumption) ?_
        try simp only [Act.put, List.getElem_toArray, List.getElem_cons_succ, List.getElem_cons_zero, List.setIfInBounds_toArray, List.set_cons_zero, List.set_cons_succ]
        refine wpAnyH_take (i := 6) (v := undef) rfl (by kernel_rfl) (by kernel_rfl) (by kernel_rfl) (fun _ _ _ h => h) (Or.inr ⟨by rfl, rfl⟩) (by assumption) ?_
        try simp only [Act.put, List.getElem_toArray, List.getElem_cons_succ, List.getElem_cons_zero, List.setIfInBounds_toArray, List.set_cons_zero, List.set_cons_succ]
        refine wpAnyH_take (i := 7) (v := undef) rfl (by kernel_rfl) (by kernel_rfl) (by kernel_rfl) (fun _ _ _ h => h) (Or.inr ⟨by rfl, rfl⟩) (by assumption) ?_
        try simp only [Act.put, List.getElem_toArray, List.getElem_cons_succ, List.getElem_cons_zero, List.setIfInBounds_toArray, List.set_cons_zero, List.set_cons_succ]
        refine wpAnyH_take (i := 8) (v := undef) rfl (by kernel_rfl) (by kernel_rfl) (by kernel_rfl) (fun _ _ _ h => h) (Or.inr ⟨by rfl, rfl⟩) (by assumption) ?_
        try simp only [Act.put, List.getElem_toArray, List.getElem_cons_succ, List.getElem_cons_zero, List.setIfInBounds_toArray, List.set_cons_zero, List.set_cons_succ]
        refine wpAnyH_take (i := 9) (v := ?_) rfl (by kernel_rfl) (by kernel_rfl) (by kernel_rfl) (fun _ _ _ h => h) (Or.inl ⟨by rfl, ?_⟩) (by assumption) ?_
        rotate_left 1
        · (intro w hSw; (try dsimp only at hSw); go_simp; (try with_reducible rfl))
        try simp only [Act.put, List.getElem_toArray, List.getElem_cons_succ, List.getElem_cons_zero, List.setIfInBounds_toArray, List.set_cons_zero, List.set_cons_succ]
        refine wpAnyH_take (i := 10) (v := ?_) rfl (by kernel_rfl) (by kernel_rfl) (by kernel_rfl) (fun _ _ _ h => h) (Or.inl ⟨by rfl, ?_⟩) (by assumption) ?_
        rotate_left 1
        · (intro w hSw; (try dsimp only at hSw); go_simp; (try with_reducible rfl))
        try simp only [Act.put, List.getElem_toArray, List.getElem_cons_succ, List.getElem_cons_zero, List.setIfInBounds_toArray, List.set_cons_zero, List.set_cons_succ]
        refine wpAnyH_take (i := 11) (v := ?_) rfl (by kernel_rfl) (by kernel_rfl) (by kernel_rfl) (fun _ _ _ h => h) (Or.inl ⟨by rfl, ?_⟩) (by assumption) ?_
        rotate_left 1
        · (intro w hSw; (try dsimp only at hSw); go_simp; (try with_reducible rfl))
        try simp only [Act.put, List.getElem_toArray, List.getElem_cons_succ, List.getElem_cons_zero, List.setIfInBounds_toArray, List.set_cons_zero, List.set_cons_succ]
        refine wpAnyH_take (i := 12) (v := ?_) rfl (by kernel_rfl) (by kernel_rfl) (by kernel_rfl) (fun _ _ _ h => h) (Or.inl ⟨by rfl, ?_⟩) (by assumption) ?_
        rotate_left 1
        · (intro w hSw; (try dsimp only at hSw); go_simp; (try with_reducible rfl))
        try simp only [Act.put, List.getElem_toArray, List.getElem_cons_succ, List.getElem_cons_zero, List.setIfInBounds_toArray, List.set_cons_zero, List.set_cons_succ]
        refine wpAnyH_take (i := 13) (v := ?_) rfl (by kernel_rfl) (by kernel_rfl) (by kernel_rfl) (fun _ _ _ h => h) (Or.inl ⟨by rfl, ?_⟩) (by assumption) ?_
        rotate_left 1
        · (intro w hSw; (try dsimp only at hSw); go_simp; (try with_reducible rfl))
        try simp only [Act.put, List.getElem_toArray, List.getElem_cons_succ, List.getElem_cons_zero, List.setIfInBounds_toArray, List.set_cons_zero, List.set_cons_succ]
        refine wpAnyH_take (i := 14) (v := ?_) rfl (by kernel_rfl) (by kernel_rfl) (by kernel_rfl) (fun _ _ _ h => h) (Or.inl ⟨by rfl, ?_⟩) (by assumption) ?_
        rotate_left 1
        · (intro w hSw; (try dsimp only at hSw); go_simp; (try with_reducible rfl))
        try simp only [Act.put, List.getElem_toArray, List.getElem_cons_succ, List.getElem_cons_zero, List.setIfInBounds_toArray, List.set_cons_zero, List.set_cons_succ]
        refine wpAnyH_take (i := 15) (v := ?_) rfl (by kernel_rfl) (by kernel_rfl) (by kernel_rfl) (fun _ _ _ h => h) (Or.inl ⟨by rfl, ?_⟩) (by assumption) ?_
        rotate_left 1
        · (intro w hSw; (try dsimp only at hSw); go_simp; (try with_reducible rfl))
        try simp only [Act.put, List.getElem_toArray, List.getElem_cons_succ, List.getElem_cons_zero, List.setIfInBounds_toArray, List.set_cons_zero, List.set_cons_succ]
        refine wpAnyH_take (i := 16) (v := ?_) rfl (by kernel_rfl) (by kernel_rfl) (by kernel_rfl) (fun _ _ _ h => h) (Or.inl ⟨by rfl, ?_⟩) (by assumption) ?_
        rotate_left 1
        · (intro w hSw; (try dsimp only at hSw); go_simp; (try with_reducible rfl))
        try simp only [Act.put, List.getElem_toArray, List.getElem_cons_succ, List.getElem_cons_zero, List.setIfInBounds_toArray, List.set_cons_zero, List.set_cons_succ]
        refine wpAnyH_ready (rs := [17]) (by kernel_rfl) (by simp) ?_
        refine AllReadyH.cons rfl (fun K hK => ?_) AllReadyH.nil
        go_simp
        (go_at_call 41; (with_reducible refine ((CHc _ (G2.out.step HD.out)).out).mono ?_); rintro e w3 ⟨rfl, hb⟩; have HB3 := Lib.hid (below_nxt HD.out hb); clear hb)
        go_simp
        refine hK.out _ _ ?_ (fun hHeld => ?_)
        · exact ⟨⟨(G2.out.step HB3.out).1.2.1, (G2.out.step HB3.out).1.2.2.1, (G2.out.step HB3.out).1.2.2.2.1, (G2.out.step HB3.out).1.2.2.2.2⟩, ⟨(G2.out.step HB3.out).2.1.2.1, (G2.out.step HB3.out).2.1.2.2.1⟩, HB3⟩
        clear hK K
        try simp only [Act.put, List.getElem_toArray, List.getElem_cons_succ, List.getElem_cons_zero, List.setIfInBounds_toArray, List.set_cons_zero, List.set_cons_succ]
        refine wpAnyH_take (i := 18) (v := ?_) rfl (by kernel_rfl) (by kernel_rfl) (by kernel_rfl) (fun _ _ _ h => h) (Or.inl ⟨by rfl, ?_⟩) (by assumption) ?_
        rotate_left 1
        · (intro w hSw; (try dsimp only at hSw); go_simp; (try with_reducible rfl))
        try simp only [Act.put, List.getElem_toArray, List.getElem_cons_succ, List.getElem_cons_zero, List.setIfInBounds_toArray, List.set_cons_zero, List.set_cons_succ]
        refine wpAnyH_take (i := 19) (v := ?_) rfl (by kernel_rfl) (by kernel_rfl) (by kernel_rfl) (fun _ _ _ h => h) (Or.inl ⟨by rfl, ?_⟩) (by assumption) ?_
        rotate_left 1
        · (intro w hSw; (try dsimp only at hSw); go_simp; (try with_reducible rfl))
        try simp only [Act.put, List.getElem_toArray, List.getElem_cons_succ, List.getElem_cons_zero, List.setIfInBounds_toArray, List.set_cons_zero, List.set_cons_succ]
        refine wpAnyH_take (i := 20) (v := undef) rfl (by kernel_rfl) (by kernel_rfl) (by kernel_rfl) (fun _ _ _ h => h) (Or.inr ⟨by rfl, rfl⟩) (by assumption) ?_
        try simp only [Act.put, List.getElem_toArray, List.getElem_cons_succ, List.getElem_cons_zero, List.setIfInBounds_toArray, List.set_cons_zero, List.set_cons_succ]
        refine wpAnyH_take (i := 21) (v := undef) rfl (by kernel_rfl) (by kernel_rfl) (by kernel_rfl) (fun _ _ _ h => h) (Or.inr ⟨by rfl, rfl⟩) (by assumption) ?_
        try simp only [Act.put, List.getElem_toArray, List.getElem_cons_succ, List.getElem_cons_zero, List.setIfInBounds_toArray, List.set_cons_zero, List.set_cons_succ]
        refine wpAnyH_take (i := 22) (v := undef) rfl (by kernel_rfl) (by kernel_rfl) (by kernel_rfl) (fun _ _ _ h => h) (Or.inr ⟨by rfl, rfl⟩) (by assumption) ?_
        try simp only [Act.put, List.getElem_toArray, List.getElem_cons_succ, List.getElem_cons_zero, List.setIfInBounds_toArray, List.set_cons_zero, List.set_cons_succ]
        refine wpAnyH_take (i := 23) (v := undef) rfl (by kernel_rfl) (by kernel_rfl) (by kernel_rfl) (fun _ _ _ h => h) (Or.inr ⟨by rfl, rfl⟩) (by assumption) ?_
        try simp only [Act.put, List.getElem_toArray, List.getElem_cons_succ, List.getElem_cons_zero, List.setIfInBounds_toArray, List.set_cons_zero, List.set_cons_succ]
        refine wpAnyH_take (i := 24) (v := undef) rfl (by kernel_rfl) (by kernel_rfl) (by kernel_rfl) (fun _ _ _ h => h) (Or.inr ⟨by rfl, rfl⟩) (by assumption) ?_
        try simp only [Act.put, List.getElem_toArray, List.getElem_cons_succ, List.getElem_cons_zero, List.setIfInBounds_toArray, List.set_cons_zero, List.set_cons_succ]
        refine wpAnyH_take (i := 25) (v := undef) rfl (by kernel_rfl) (by kernel_rfl) (by kernel_rfl) (fun _ _ _ h => h) (Or.inr ⟨by rfl, rfl⟩) (by assumption) ?_
        try simp only [Act.put, List.getElem_toArray, List.getElem_cons_succ, List.getElem_cons_zero, List.setIfInBounds_toArray, List.set_cons_zero, List.set_cons_succ]
        refine wpAnyH_take (i := 26) (v := undef) rfl (by kernel_rfl) (by kernel_rfl) (by kernel_rfl) (fun _ _ _ h => h) (Or.inr ⟨by rfl, rfl⟩) (by assumption) ?_
        try simp only [Act.put, List.getElem_toArray, List.getElem_cons_succ, List.getElem_cons_zero, List.setIfInBounds_toArray, List.set_cons_zero, List.set_cons_succ]
        refine wpAnyH_take (i := 27) (v := undef) rfl (by kernel_rfl) (by kernel_rfl) (by kernel_rfl) (fun _ _ _ h => h) (Or.inr ⟨by rfl, rfl⟩) (by assumption) ?_
        try simp only [Act.put, List.getElem_toArray, List.getElem_cons_succ, List.getElem_cons_zero, List.setIfInBounds_toArray, List.set_cons_zero, List.set_cons_succ]
        refine wpAnyH_take (i := 28) (v := undef) rfl (by kernel_rfl) (by kernel_rfl) (by kernel_rfl) (fun _ _ _ h => h) (Or.inr ⟨by rfl, rfl⟩) (by assumption) ?_
        try simp only [Act.put, List.getElem_toArray, List.getElem_cons_succ, List.getElem_cons_zero, List.setIfInBounds_toArray, List.set_cons_zero, List.set_cons_succ]
        refine wpAnyH_take (i := 29) (v := undef) rfl (by kernel_rfl) (by kernel_rfl) (by kernel_rfl) (fun _ _ _ h => h) (Or.inr ⟨by rfl, rfl⟩) (by assumption) ?_
        try simp only [Act.put, List.getElem_toArray, List.getElem_cons_succ, List.getElem_cons_zero, List.setIfInBounds_toArray, List.set_cons_zero, List.set_cons_succ]
        refine wpAnyH_take (i := 30) (v := undef) rfl (by kernel_rfl) (by kernel_rfl) (by kernel_rfl) (fun _ _ _ h => h) (Or.inr ⟨by rfl, rfl⟩) (by assumption) ?_
        try simp only [Act.put, List.getElem_toArray, List.getElem_cons_succ, List.getElem_cons_zero, List.setIfInBounds_toArray, List.set_cons_zero, List.set_cons_succ]
        refine wpAnyH_take (i := 31) (v := undef) rfl (by kernel_rfl) (by kernel_rfl) (by kernel_rfl) (fun _ _ _ h => h) (Or.inr ⟨by rfl, rfl⟩) (by assumption) ?_
        try simp only [Act.put, List.getElem_toArray, List.getElem_cons_succ, List.getElem_cons_zero, List.setIfInBounds_toArray, List.set_cons_zero, List.set_cons_succ]
        refine wpAnyH_take (i := 32) (v := undef) rfl (by kernel_rfl) (by kernel_rfl) (by kernel_rfl) (fun _ _ _ h => h) (Or.inr ⟨by rfl, rfl⟩) (by assumption) ?_
        try simp only [Act.put, List.getElem_toArray, List.getElem_cons_succ, List.getElem_cons_zero, List.setIfInBounds_toArray, List.set_cons_zero, List.set_cons_succ]
        refine wpAnyH_take (i := 33) (v := undef) rfl (by kernel_rfl) (by kernel_rfl) (by kernel_rfl) (fun _ _ _ h => h) (Or.inr ⟨by rfl, rfl⟩) (by assumption) ?_
        try simp only [Act.put, List.getElem_toArray, List.getElem_cons_succ, List.getElem_cons_zero, List.setIfInBounds_toArray, List.set_cons_zero, List.set_cons_succ]
        refine wpAnyH_take (i := 34) (v := ?_) rfl (by kernel_rfl) (by kernel_rfl) (by kernel_rfl) (fun _ _ _ h => h) (Or.inl ⟨by rfl, ?_⟩) (by assumption) ?_
        rotate_left 1
        · (intro w hSw; (try dsimp only at hSw); go_simp; (try with_reducible rfl))
        try simp only [Act.put, List.getElem_toArray, List.getElem_cons_succ, List.getElem_cons_zero, List.setIfInBounds_toArray, List.set_cons_zero, List.set_cons_succ]
        refine wpAnyH_take (i := 35) (v := ?_) rfl (by kernel_rfl) (by kernel_rfl) (by kernel_rfl) (fun _ _ _ h => h) (Or.inl ⟨by rfl, ?_⟩) (by assumption) ?_
        rotate_left 1
        · (intro w hSw; (try dsimp only at hSw); go_simp; (try with_reducible rfl))
        try simp only [Act.put, List.getElem_toArray, List.getElem_cons_succ, List.getElem_cons_zero, List.setIfInBounds_toArray, List.set_cons_zero, List.set_cons_succ]
        refine wpAnyH_done (by kernel_rfl) ?_ _
        refine NoPanic.normal ?_
        have HG3 := Lib.hid (G2.out.step HB3.out)
        have HWx := Lib.hid (below_nxt HW2.out HB3.out)
        obtain ⟨l0, l1⟩ := HG3.out.2.2.2.1
        clear CHc CPt CM CBo
        go_wp2_with (fail)
        go_loopw [92] (fun s92 wr => ∃ i : Nat, i ≤ l.length ∧ s92 = .int .i64 i ∧ Hid (Below w3.heap.size w3 wr)) (fun s92 _ => l.length - (intOf s92).toNat)
        case atStart => exact ⟨0, Nat.zero_le _, rfl, Lib.hid (Below.refl _ _)⟩
        case round =>
          clear l1
          obtain ⟨i, hi, rfl, HB⟩ := hrel
          by_cases hil : i < l.length
          · obtain ⟨g, rfl, hg, c1, c2⟩ := HG3.out.2.2.2.2.1.at HB.out hil
            have GO := Lib.hid (HG3.out.step HB.out)
            have HFi := Lib.hid (HF.out i hil)
            have HFj := Lib.hid (fun j (hj : j < i) => HF.out j (by omega))
            obtain ⟨l0', l1⟩ := GO.out.2.2.2.1
            generalize l.getD i (0, 0) = x at *
            obtain ⟨wo, hwo⟩ : ∃ wo, wo = wr := ⟨_, rfl⟩
            rw [← hwo] at HB GO c1 c2 l0' l1 ⊢
            clear hwo wr
            go_wp2_with (fail)
            obtain ⟨A0, LA, zA⟩ := cub1_new wo x.1 x.2 24
            have HA := Lib.hid (below_nxt HB.out LA)
            generalize wo.alloc (.cells #[.int .u64 (x.1 : Int), .int .u64 (x.2 : Int)] 24) = V at *
            clear LA HB c1 c2 l1 l0' GO
            go_loopw [101] (fun s101 wq => ∃ j : Nat, j ≤ i ∧ s101 = .int .i64 j ∧ CubI wq wo.heap.size x.1 x.2 ∧ Hid (Below w3.heap.size w3 wq)) (fun s101 _ => i - (intOf s101).toNat)
            case atStart => exact ⟨0, Nat.zero_le _, rfl, A0, HA⟩
            case round =>
              clear A0 HA zA
              obtain ⟨j, hj, rfl, A, HBq⟩ := hrel
              by_cases hji : j < i
              · obtain ⟨g', he, hg', e1, e2⟩ := HG3.out.2.2.2.2.1.at HBq.out (show j < l.length by omega)
                obtain rfl : g = g' := by simpa using he
                have hxi := HFi.out
                have hyj := HFj.out j hji
                have GQ := Lib.hid (HG3.out.step HBq.out)
                clear he hg'
                generalize l.getD j (0, 0) = y at *
                have CX := fun W => Lib.hid (iCons_any n x.1 x.2 y.1 y.2 W (Ic.w64 HHN.out hxi.1.1) (Ic.w64 HHN.out (hxi.1.2.lt hxi.1.1)) (Ic.w64 HHN.out hyj.1.1) (Ic.w64 HHN.out (hyj.1.2.lt hyj.1.1)))
                have hk2 := Ic.chk2_zero.2 ⟨Ic.chk_of HHN.out hxi.1.1 hxi.1.2, Ic.chk_of HHN.out hyj.1.1 hyj.1.2⟩
                obtain ⟨t0, t1, t2, t3, t4⟩ := GQ.out.1
                obtain ⟨a0, a1, a2, a3, a4⟩ := id A
                by_cases hcn : Ic.cnt (Ic.opp x.1 x.2 y.1 y.2) = 1
                · have HCV : Ic.consV n x.1 x.2 y.1 y.2 = (((Ic.consC x.1 x.2 y.1 y.2, Ic.consU x.1 x.2 y.1 y.2), true), 0) := by
                    unfold Ic.consV; rw [if_pos hk2, if_pos hcn]; rfl
                  rw [HCV] at CX
                  dsimp only at CX
                  have hdc := Ic.consC_lt (v := x.2) (u := y.2) hxi.1.1 hyj.1.1
                  have hds := Ic.cons_sub HHN.out hxi.1.1 hyj.1.1 hxi.1.2 hyj.1.2
                  have hhd := HY.out _ _ hdc hds (HCI.out _ _ _ _ hxi.1.1 hyj.1.1 hxi.1.2 hyj.1.2 (Ic.prime_iff.1 hxi.2).2.1 (Ic.prime_iff.1 hyj.2).2.1 hcn)
                  have CHd := fun W h => CHx (some ⟨g, 0, none⟩) cap hcap1 hcap2 w1.heap.size (w1.heap.size + 1) W h _ _ hdc hds
                  rw [hhd] at CHd
                  clear HCV hcn hk2 hdc hds hhd hxi hyj
                  generalize Ic.consC x.1 x.2 y.1 y.2 = dc at *
                  generalize Ic.consU x.1 x.2 y.1 y.2 = du at *
                  go_wp2_with (fail)
                  obtain ⟨B0, LB, zB⟩ := cub1_new wr y.1 y.2 24
                  have HBB := Lib.hid (below_nxt HBq.out LB)
                  have AB := Lib.hid (A.step LB)
                  have GB := Lib.hid (GQ.out.step LB)
                  clear LB B0 t1 t2 t3 t4 a1 a2 a3 a4 e1 e2 A
                  generalize wr.alloc (.cells #[.int .u64 (y.1 : Int), .int .u64 (y.2 : Int)] 24) = V2 at *
                  go_at_call 22
                  refine ((CX _).out).mono ?_
                  rintro e w7 ⟨rfl, hb⟩
                  have HB7 := Lib.hid (below_nxt HBB.out hb)
                  have A7 := Lib.hid (AB.out.step hb)
                  have G7 := Lib.hid (GB.out.step hb)
                  clear hb
                  go_wp2_with (fail)
                  obtain ⟨D0, LD, zD⟩ := cub1_new w7 dc du 24
                  have HB8 := Lib.hid (below_nxt HB7.out LD)
                  have A8 := Lib.hid (A7.out.step LD)
                  have G8 := Lib.hid (G7.out.step LD)
                  clear LD D0
                  generalize w7.alloc (.cells #[.int .u64 (dc : Int), .int .u64 (du : Int)] 24) = V3 at *
                  go_at_call 41
                  refine ((CHd _ G8.out).out).mono ?_
                  rintro e w9 ⟨rfl, hb⟩
                  have HB9 := Lib.hid (below_nxt HB8.out hb)
                  have A9 := Lib.hid (A8.out.step hb)
                  clear hb
                  go_wp2
                  exact ⟨⟨j + 1, by omega, rfl, A9.out, HB9⟩, by simp [intOf]; omega⟩
                · have HCV : Ic.consV n x.1 x.2 y.1 y.2 = (((0, 0), false), 0) := by
                    unfold Ic.consV; rw [if_pos hk2, if_neg hcn]
                  rw [HCV] at CX
                  dsimp only at CX
                  clear HCV hcn hk2 hxi hyj
                  simp only [Int.natCast_zero] at CX
                  go_wp2_with (fail)
                  obtain ⟨B0, LB, zB⟩ := cub1_new wr y.1 y.2 24
                  have HBB := Lib.hid (below_nxt HBq.out LB)
                  have AB := Lib.hid (A.step LB)
                  clear LB B0 t1 t2 t3 t4 a1 a2 a3 a4 e1 e2 A
                  generalize wr.alloc (.cells #[.int .u64 (y.1 : Int), .int .u64 (y.2 : Int)] 24) = V2 at *
                  go_at_call 22
                  refine ((CX _).out).mono ?_
                  rintro e w7 ⟨rfl, hb⟩
                  have HB7 := Lib.hid (below_nxt HBB.out hb)
                  have A7 := Lib.hid (AB.out.step hb)
                  clear hb
                  go_wp2
                  exact ⟨⟨j + 1, by omega, rfl, A7.out.step ((Below.refl _ _).alloc (Nat.le_refl _) _), Lib.hid (below_nxt HB7.out ((Below.refl _ _).alloc (Nat.le_refl _) _))⟩, by simp [intOf]; omega⟩
              · obtain rfl : j = i := by omega
                go_wp2
                exact ⟨⟨j + 1, by omega, rfl, HBq⟩, by simp [intOf]; omega⟩
          · obtain rfl : i = l.length := by omega
            obtain ⟨d0, d1, d2⟩ := (HG3.out.step HB.out).2.2.1
            have HWR := Lib.hid (below_nxt HWx.out HB.out)
            go_wp2_with (go_at_call 17; refine (awake_any _ (HST.out.next HWR.out)).mono ?_; rintro e wz ⟨rfl, hb⟩; have HZ := Lib.hid (below_nxt HWR.out hb); clear hb)
            go_ret
            exact ⟨rfl, HZ.out⟩
      | true =>
        have h0 := HN.out rfl hh
        rw [hh] at CHc
        rw [h0] at CBo
        simp only [Int.natCast_zero] at CBo
        go_wp2_with (fail)
        refine wp_region_noPanic ?_
        refine wp_region_held_drew (S := (fun W => ((W.cell? ⟨w.heap.size, 0, none⟩ = some (.int .i64 n) ∧ W.cell? ⟨w.heap.size, 1, none⟩ = some (.int .u64 (on : Int)) ∧ W.cell? ⟨w.heap.size, 2, none⟩ = some (.int .i64 m) ∧ W.cell? ⟨w.heap.size, 3, none⟩ = some (.int .u64 (fr : Int))) ∧ (W.cell? ⟨w.heap.size + 1, 0, none⟩ = some (.int .u64 (c : Int)) ∧ W.cell? ⟨w.heap.size + 1, 1, none⟩ = some (.int .u64 (v : Int))) ∧ Hid (Below w2.heap.size w2 W)))) (by kernel_rfl) ?_ (fun hHeld => ?_)
        · exact ⟨⟨(G2.out.step HD.out).1.2.1, (G2.out.step HD.out).1.2.2.1, (G2.out.step HD.out).1.2.2.2.1, (G2.out.step HD.out).1.2.2.2.2⟩, ⟨(G2.out.step HD.out).2.1.2.1, (G2.out.step HD.out).2.1.2.2.1⟩, HD⟩
        refine wpAnyH_take (i := 0) (v := ?_) rfl (by kernel_rfl) (by kernel_rfl) (by kernel_rfl) (fun _ _ _ h => h) (Or.inl ⟨by rfl, ?_⟩) (by assumption) ?_
        rotate_left 1
        · (intro w hSw; (try dsimp only at hSw); go_simp; (try with_reducible rfl))
        try simp only [Act.put, List.getElem_toArray, List.getElem_cons_succ, List.getElem_cons_zero, List.setIfInBounds_toArray, List.set_cons_zero, List.set_cons_succ]
        refine wpAnyH_take (i := 1) (v := ?_) rfl (by kernel_rfl) (by kernel_rfl) (by kernel_rfl) (fun _ _ _ h => h) (Or.inl ⟨by rfl, ?_⟩) (by assumption) ?_
        rotate_left 1
        · (intro w hSw; (try dsimp only at hSw); go_simp; (try with_reducible rfl))
        try simp only [Act.put, List.getElem_toArray, List.getElem_cons_succ, List.getElem_cons_zero, List.setIfInBounds_toArray, List.set_cons_zero, List.set_cons_succ]
        refine wpAnyH_take (i := 2) (v := ?_) rfl (by kernel_rfl) (by kernel_rfl) (by kernel_rfl) (fun _ _ _ h => h) (Or.inl ⟨by rfl, ?_⟩) (by assumption) ?_
        rotate_left 1
        · (intro w hSw; (try dsimp only at hSw); go_simp; (try with_reducible rfl))
        try simp only [Act.put, List.getElem_toArray, List.getElem_cons_succ, List.getElem_cons_zero, List.setIfInBounds_toArray, List.set_cons_zero, List.set_cons_succ]
        refine wpAnyH_take (i := 3) (v := ?_) rfl (by kernel_rfl) (by kernel_rfl) (by kernel_rfl) (fun _ _ _ h => h) (Or.inl ⟨by rfl, ?_⟩) (by assumption) ?_
        rotate_left 1
        · (intro w hSw; (try dsimp only at hSw); go_simp; (try with_reducible rfl))
        try simp only [Act.put, List.getElem_toArray, List.getElem_cons_succ, List.getElem_cons_zero, List.setIfInBounds_toArray, List.set_cons_zero, List.set_cons_succ]
        refine wpAnyH_take (i := 4) (v := ?_) rfl (by kernel_rfl) (by kernel_rfl) (by kernel_rfl) (fun _ _ _ h => h) (Or.inl ⟨by rfl, ?_⟩) (by assumption) ?_
        rotate_left 1
        · (intro w hSw; (try dsimp only at hSw); go_simp; (try with_reducible rfl))
        try simp only [Act.put, List.getElem_toArray, List.getElem_cons_succ, List.getElem_cons_zero, List.setIfInBounds_toArray, List.set_cons_zero, List.set_cons_succ]
        refine wpAnyH_take (i := 5) (v := undef) rfl (by kernel_rfl) (by kernel_rfl) (by kernel_rfl) (fun _ _ _ h => h) (Or.inr ⟨by rfl, rfl⟩) (by assumption) ?_
        try simp only [Act.put, List.getElem_toArray, List.getElem_cons_succ, List.getElem_cons_zero, List.setIfInBounds_toArray, List.set_cons_zero, List.set_cons_succ]
        refine wpAnyH_take (i := 6) (v := undef) rfl (by kernel_rfl) (by kernel_rfl) (by kernel_rfl) (fun _ _ _ h => h) (Or.inr ⟨by rfl, rfl⟩) (by assumption) ?_
        try simp only [Act.put, List.getElem_toArray, List.getElem_cons_succ, List.getElem_cons_zero, List.setIfInBounds_toArray, List.set_cons_zero, List.set_cons_succ]
        refine wpAnyH_take (i := 7) (v := undef) rfl (by kernel_rfl) (by kernel_rfl) (by kernel_rfl) (fun _ _ _ h => h) (Or.inr ⟨by rfl, rfl⟩) (by assumption) ?_
        try simp only [Act.put, List.getElem_toArray, List.getElem_cons_succ, List.getElem_cons_zero, List.setIfInBounds_toArray, List.set_cons_zero, List.set_cons_succ]
        refine wpAnyH_take (i := 8) (v := undef) rfl (by kernel_rfl) (by kernel_rfl) (by kernel_rfl) (fun _ _ _ h => h) (Or.inr ⟨by rfl, rfl⟩) (by assumption) ?_
        try simp only [Act.put, List.getElem_toArray, List.getElem_cons_succ, List.getElem_cons_zero, List.setIfInBounds_toArray, List.set_cons_zero, List.set_cons_succ]
        refine wpAnyH_take (i := 9) (v := ?_) rfl (by kernel_rfl) (by kernel_rfl) (by kernel_rfl) (fun _ _ _ h => h) (Or.inl ⟨by rfl, ?_⟩) (by assumption) ?_
        rotate_left 1
        · (intro w hSw; (try dsimp only at hSw); go_simp; (try with_reducible rfl))
        try simp only [Act.put, List.getElem_toArray, List.getElem_cons_succ, List.getElem_cons_zero, List.setIfInBounds_toArray, List.set_cons_zero, List.set_cons_succ]
        refine wpAnyH_take (i := 10) (v := ?_) rfl (by kernel_rfl) (by kernel_rfl) (by kernel_rfl) (fun _ _ _ h => h) (Or.inl ⟨by rfl, ?_⟩) (by assumption) ?_
        rotate_left 1
        · (intro w hSw; (try dsimp only at hSw); go_simp; (try with_reducible rfl))
        try simp only [Act.put, List.getElem_toArray, List.getElem_cons_succ, List.getElem_cons_zero, List.setIfInBounds_toArray, List.set_cons_zero, List.set_cons_succ]
        refine wpAnyH_take (i := 11) (v := ?_) rfl (by kernel_rfl) (by kernel_rfl) (by kernel_rfl) (fun _ _ _ h => h) (Or.inl ⟨by rfl, ?_⟩) (by assumption) ?_
        rotate_left 1
        · (intro w hSw; (try dsimp only at hSw); go_simp; (try with_reducible rfl))
        try simp only [Act.put, List.getElem_toArray, List.getElem_cons_succ, List.getElem_cons_zero, List.setIfInBounds_toArray, List.set_cons_zero, List.set_cons_succ]
        refine wpAnyH_take (i := 12) (v := ?_) rfl (by kernel_rfl) (by kernel_rfl) (by kernel_rfl) (fun _ _ _ h => h) (Or.inl ⟨by rfl, ?_⟩) (by assumption) ?_
        rotate_left 1
        · (intro w hSw; (try dsimp only at hSw); go_simp; (try with_reducible rfl))
        try simp only [Act.put, List.getElem_toArray, List.getElem_cons_succ, List.getElem_cons_zero, List.setIfInBounds_toArray, List.set_cons_zero, List.set_cons_succ]
        refine wpAnyH_take (i := 13) (v := ?_) rfl (by kernel_rfl) (by kernel_rfl) (by kernel_rfl) (fun _ _ _ h => h) (Or.inl ⟨by rfl, ?_⟩) (by assumption) ?_
        rotate_left 1
        · (intro w hSw; (try dsimp only at hSw); go_simp; (try with_reducible rfl))
        try simp only [Act.put, List.getElem_toArray, List.getElem_cons_succ, List.getElem_cons_zero, List.setIfInBounds_toArray, List.set_cons_zero, List.set_cons_succ]
        refine wpAnyH_take (i := 14) (v := ?_) rfl (by kernel_rfl) (by kernel_rfl) (by kernel_rfl) (fun _ _ _ h => h) (Or.inl ⟨by rfl, ?_⟩) (by assumption) ?_
        rotate_left 1
        · (intro w hSw; (try dsimp only at hSw); go_simp; (try with_reducible rfl))
        try simp only [Act.put, List.getElem_toArray, List.getElem_cons_succ, List.getElem_cons_zero, List.setIfInBounds_toArray, List.set_cons_zero, List.set_cons_succ]
        refine wpAnyH_take (i := 15) (v := ?_) rfl (by kernel_rfl) (by kernel_rfl) (by kernel_rfl) (fun _ _ _ h => h) (Or.inl ⟨by rfl, ?_⟩) (by assumption) ?_
        rotate_left 1
        · (intro w hSw; (try dsimp only at hSw); go_simp; (try with_reducible rfl))
        try simp only [Act.put, List.getElem_toArray, List.getElem_cons_succ, List.getElem_cons_zero, List.setIfInBounds_toArray, List.set_cons_zero, List.set_cons_succ]
        refine wpAnyH_take (i := 16) (v := ?_) rfl (by kernel_rfl) (by kernel_rfl) (by kernel_rfl) (fun _ _ _ h => h) (Or.inl ⟨by rfl, ?_⟩) (by assumption) ?_
        rotate_left 1
        · (intro w hSw; (try dsimp only at hSw); go_simp; (try with_reducible rfl))
        try simp only [Act.put, List.getElem_toArray, List.getElem_cons_succ, List.getElem_cons_zero, List.setIfInBounds_toArray, List.set_cons_zero, List.set_cons_succ]
        refine wpAnyH_ready (rs := [17]) (by kernel_rfl) (by simp) ?_
        refine AllReadyH.cons rfl (fun K hK => ?_) AllReadyH.nil
        go_simp
        (go_at_call 41; (with_reducible refine ((CHc _ (G2.out.step HD.out)).out).mono ?_); rintro e w3 ⟨rfl, hb⟩; have HB3 := Lib.hid (below_nxt HD.out hb); clear hb)
        go_simp
        refine hK.out _ _ ?_ (fun hHeld => ?_)
        · exact ⟨⟨(G2.out.step HB3.out).1.2.1, (G2.out.step HB3.out).1.2.2.1, (G2.out.step HB3.out).1.2.2.2.1, (G2.out.step HB3.out).1.2.2.2.2⟩, ⟨(G2.out.step HB3.out).2.1.2.1, (G2.out.step HB3.out).2.1.2.2.1⟩, HB3⟩
        clear hK K
        try simp only [Act.put, List.getElem_toArray, List.getElem_cons_succ, List.getElem_cons_zero, List.setIfInBounds_toArray, List.set_cons_zero, List.set_cons_succ]
        refine wpAnyH_take (i := 18) (v := ?_) rfl (by kernel_rfl) (by kernel_rfl) (by kernel_rfl) (fun _ _ _ h => h) (Or.inl ⟨by rfl, ?_⟩) (by assumption) ?_
        rotate_left 1
        · (intro w hSw; (try dsimp only at hSw); go_simp; (try with_reducible rfl))
        try simp only [Act.put, List.getElem_toArray, List.getElem_cons_succ, List.getElem_cons_zero, List.setIfInBounds_toArray, List.set_cons_zero, List.set_cons_succ]
        refine wpAnyH_take (i := 19) (v := ?_) rfl (by kernel_rfl) (by kernel_rfl) (by kernel_rfl) (fun _ _ _ h => h) (Or.inl ⟨by rfl, ?_⟩) (by assumption) ?_
        rotate_left 1
        · (intro w hSw; (try dsimp only at hSw); go_simp; (try with_reducible rfl))
        try simp only [Act.put, List.getElem_toArray, List.getElem_cons_succ, List.getElem_cons_zero, List.setIfInBounds_toArray, List.set_cons_zero, List.set_cons_succ]
        refine wpAnyH_take (i := 20) (v := ?_) rfl (by kernel_rfl) (by kernel_rfl) (by kernel_rfl) (fun _ _ _ h => h) (Or.inl ⟨by rfl, ?_⟩) (by assumption) ?_
        rotate_left 1
        · (intro w hSw; (try dsimp only at hSw); go_simp; (try with_reducible rfl))
        try simp only [Act.put, List.getElem_toArray, List.getElem_cons_succ, List.getElem_cons_zero, List.setIfInBounds_toArray, List.set_cons_zero, List.set_cons_succ]
        refine wpAnyH_take (i := 21) (v := ?_) rfl (by kernel_rfl) (by kernel_rfl) (by kernel_rfl) (fun _ _ _ h => h) (Or.inl ⟨by rfl, ?_⟩) (by assumption) ?_
        rotate_left 1
        · (intro w hSw; (try dsimp only at hSw); go_simp; (try with_reducible rfl))
        try simp only [Act.put, List.getElem_toArray, List.getElem_cons_succ, List.getElem_cons_zero, List.setIfInBounds_toArray, List.set_cons_zero, List.set_cons_succ]
        refine wpAnyH_take (i := 22) (v := ?_) rfl (by kernel_rfl) (by kernel_rfl) (by kernel_rfl) (fun _ _ _ h => h) (Or.inl ⟨by rfl, ?_⟩) (by assumption) ?_
        rotate_left 1
        · (intro w hSw; (try dsimp only at hSw); go_simp; (try with_reducible rfl))
        try simp only [Act.put, List.getElem_toArray, List.getElem_cons_succ, List.getElem_cons_zero, List.setIfInBounds_toArray, List.set_cons_zero, List.set_cons_succ]
        refine wpAnyH_take (i := 23) (v := ?_) rfl (by kernel_rfl) (by kernel_rfl) (by kernel_rfl) (fun _ _ _ h => h) (Or.inl ⟨by rfl, ?_⟩) (by assumption) ?_
        rotate_left 1
        · (intro w hSw; (try dsimp only at hSw); go_simp; (try with_reducible rfl))
        try simp only [Act.put, List.getElem_toArray, List.getElem_cons_succ, List.getElem_cons_zero, List.setIfInBounds_toArray, List.set_cons_zero, List.set_cons_succ]
        refine wpAnyH_take (i := 24) (v := ?_) rfl (by kernel_rfl) (by kernel_rfl) (by kernel_rfl) (fun _ _ _ h => h) (Or.inl ⟨by rfl, ?_⟩) (by assumption) ?_
        rotate_left 1
        · (intro w hSw; (try dsimp only at hSw); go_simp; (try with_reducible rfl))
        try simp only [Act.put, List.getElem_toArray, List.getElem_cons_succ, List.getElem_cons_zero, List.setIfInBounds_toArray, List.set_cons_zero, List.set_cons_succ]
        refine wpAnyH_take (i := 25) (v := ?_) rfl (by kernel_rfl) (by kernel_rfl) (by kernel_rfl) (fun _ _ _ h => h) (Or.inl ⟨by rfl, ?_⟩) (by assumption) ?_
        rotate_left 1
        · (intro w hSw; (try dsimp only at hSw); go_simp; (try with_reducible rfl))
        try simp only [Act.put, List.getElem_toArray, List.getElem_cons_succ, List.getElem_cons_zero, List.setIfInBounds_toArray, List.set_cons_zero, List.set_cons_succ]
        refine wpAnyH_take (i := 26) (v := ?_) rfl (by kernel_rfl) (by kernel_rfl) (by kernel_rfl) (fun _ _ _ h => h) (Or.inl ⟨by rfl, ?_⟩) (by assumption) ?_
        rotate_left 1
        · (intro w hSw; (try dsimp only at hSw); go_simp; (try with_reducible rfl))
        try simp only [Act.put, List.getElem_toArray, List.getElem_cons_succ, List.getElem_cons_zero, List.setIfInBounds_toArray, List.set_cons_zero, List.set_cons_succ]
        refine wpAnyH_take (i := 27) (v := ?_) rfl (by kernel_rfl) (by kernel_rfl) (by kernel_rfl) (fun _ _ _ h => h) (Or.inl ⟨by rfl, ?_⟩) (by assumption) ?_
        rotate_left 1
        · (intro w hSw; (try dsimp only at hSw); go_simp; (try with_reducible rfl))
        try simp only [Act.put, List.getElem_toArray, List.getElem_cons_succ, List.getElem_cons_zero, List.setIfInBounds_toArray, List.set_cons_zero, List.set_cons_succ]
        refine wpAnyH_take (i := 28) (v := ?_) rfl (by kernel_rfl) (by kernel_rfl) (by kernel_rfl) (fun _ _ _ h => h) (Or.inl ⟨by rfl, ?_⟩) (by assumption) ?_
        rotate_left 1
        · (intro w hSw; (try dsimp only at hSw); go_simp; (try with_reducible rfl))
        try simp only [Act.put, List.getElem_toArray, List.getElem_cons_succ, List.getElem_cons_zero, List.setIfInBounds_toArray, List.set_cons_zero, List.set_cons_succ]
        refine wpAnyH_ready (rs := [29]) (by kernel_rfl) (by simp) ?_
        refine AllReadyH.cons rfl (fun K hK => ?_) AllReadyH.nil
        go_simp
        (go_at_call 46; (with_reducible refine ((CPt _).out).mono ?_); rintro e w4 ⟨sv, rfl, hr, hb⟩; have HB4 := Lib.hid (below_nxt HB3.out hb); have HR4 := Lib.hid hr.sees; clear hb hr)
        go_simp
        refine hK.out _ _ ?_ (fun hHeld => ?_)
        · exact ⟨⟨(G2.out.step HB4.out).1.2.1, (G2.out.step HB4.out).1.2.2.1, (G2.out.step HB4.out).1.2.2.2.1, (G2.out.step HB4.out).1.2.2.2.2⟩, ⟨(G2.out.step HB4.out).2.1.2.1, (G2.out.step HB4.out).2.1.2.2.1⟩, HB4⟩
        clear hK K
        try simp only [Act.put, List.getElem_toArray, List.getElem_cons_succ, List.getElem_cons_zero, List.setIfInBounds_toArray, List.set_cons_zero, List.set_cons_succ]
        refine wpAnyH_ready (rs := [30]) (by kernel_rfl) (by simp) ?_
        refine AllReadyH.cons rfl (fun K hK => ?_) AllReadyH.nil
        go_simp
        (go_at_call 45; (with_reducible refine ((CM _ _ HR4.out).out).mono ?_); rintro e w5 ⟨rfl, hb⟩; have HB5 := Lib.hid (below_nxt HB4.out hb); clear hb)
        go_simp
        refine hK.out _ _ ?_ (fun hHeld => ?_)
        · exact ⟨⟨(G2.out.step HB5.out).1.2.1, (G2.out.step HB5.out).1.2.2.1, (G2.out.step HB5.out).1.2.2.2.1, (G2.out.step HB5.out).1.2.2.2.2⟩, ⟨(G2.out.step HB5.out).2.1.2.1, (G2.out.step HB5.out).2.1.2.2.1⟩, HB5⟩
        clear hK K
        try simp only [Act.put, List.getElem_toArray, List.getElem_cons_succ, List.getElem_cons_zero, List.setIfInBounds_toArray, List.set_cons_zero, List.set_cons_succ]
        refine wpAnyH_ready (rs := [31]) (by kernel_rfl) (by simp) ?_
        refine AllReadyH.cons rfl (fun K hK => ?_) AllReadyH.nil
        go_simp
        (go_at_call 44; (with_reducible refine ((CBo _).out).mono ?_); rintro e w6 ⟨rfl, hb⟩; have HB6 := Lib.hid (below_nxt HB5.out hb); clear hb)
        go_simp
        refine hK.out _ _ ?_ (fun hHeld => ?_)
        · exact ⟨⟨(G2.out.step HB6.out).1.2.1, (G2.out.step HB6.out).1.2.2.1, (G2.out.step HB6.out).1.2.2.2.1, (G2.out.step HB6.out).1.2.2.2.2⟩, ⟨(G2.out.step HB6.out).2.1.2.1, (G2.out.step HB6.out).2.1.2.2.1⟩, HB6⟩
        clear hK K
        try simp only [Act.put, List.getElem_toArray, List.getElem_cons_succ, List.getElem_cons_zero, List.setIfInBounds_toArray, List.set_cons_zero, List.set_cons_succ]
        refine wpAnyH_take (i := 32) (v := ?_) rfl (by kernel_rfl) (by kernel_rfl) (by kernel_rfl) (fun _ _ _ h => h) (Or.inl ⟨by rfl, ?_⟩) (by assumption) ?_
        rotate_left 1
        · (intro w hSw; (try dsimp only at hSw); go_simp; rw [field_bits]; go_simp; (try with_reducible rfl))
        try simp only [Act.put, List.getElem_toArray, List.getElem_cons_succ, List.getElem_cons_zero, List.setIfInBounds_toArray, List.set_cons_zero, List.set_cons_succ]
        refine wpAnyH_take (i := 33) (v := ?_) rfl (by kernel_rfl) (by kernel_rfl) (by kernel_rfl) (fun _ _ _ h => h) (Or.inl ⟨by rfl, ?_⟩) (by assumption) ?_
        rotate_left 1
        · (intro w hSw; (try dsimp only at hSw); go_simp; (try with_reducible rfl))
        try simp only [Act.put, List.getElem_toArray, List.getElem_cons_succ, List.getElem_cons_zero, List.setIfInBounds_toArray, List.set_cons_zero, List.set_cons_succ]
        refine wpAnyH_take (i := 34) (v := ?_) rfl (by kernel_rfl) (by kernel_rfl) (by kernel_rfl) (fun _ _ _ h => h) (Or.inl ⟨by rfl, ?_⟩) (by assumption) ?_
        rotate_left 1
        · (intro w hSw; (try dsimp only at hSw); go_simp; (try with_reducible rfl))
        try simp only [Act.put, List.getElem_toArray, List.getElem_cons_succ, List.getElem_cons_zero, List.setIfInBounds_toArray, List.set_cons_zero, List.set_cons_succ]
        refine wpAnyH_take (i := 35) (v := ?_) rfl (by kernel_rfl) (by kernel_rfl) (by kernel_rfl) (fun _ _ _ h => h) (Or.inl ⟨by rfl, ?_⟩) (by assumption) ?_
        rotate_left 1
        · (intro w hSw; (try dsimp only at hSw); go_simp; (try with_reducible rfl))
        try simp only [Act.put, List.getElem_toArray, List.getElem_cons_succ, List.getElem_cons_zero, List.setIfInBounds_toArray, List.set_cons_zero, List.set_cons_succ]
        refine wpAnyH_done (by kernel_rfl) ?_ _
        refine NoPanic.normal ?_
        have HG3 := Lib.hid (G2.out.step HB6.out)
        have HWx := Lib.hid (below_nxt HW2.out HB6.out)
        obtain ⟨l0, l1⟩ := HG3.out.2.2.2.1
        clear CHc CPt CM CBo
        go_wp2_with (fail)
        go_loopw [92] (fun s92 wr => ∃ i : Nat, i ≤ l.length ∧ s92 = .int .i64 i ∧ Hid (Below w6.heap.size w6 wr)) (fun s92 _ => l.length - (intOf s92).toNat)
        case atStart => exact ⟨0, Nat.zero_le _, rfl, Lib.hid (Below.refl _ _)⟩
        case round =>
          clear l1
          obtain ⟨i, hi, rfl, HB⟩ := hrel
          by_cases hil : i < l.length
          · obtain ⟨g, rfl, hg, c1, c2⟩ := HG3.out.2.2.2.2.1.at HB.out hil
            have GO := Lib.hid (HG3.out.step HB.out)
            have HFi := Lib.hid (HF.out i hil)
            have HFj := Lib.hid (fun j (hj : j < i) => HF.out j (by omega))
            obtain ⟨l0', l1⟩ := GO.out.2.2.2.1
            generalize l.getD i (0, 0) = x at *
            obtain ⟨wo, hwo⟩ : ∃ wo, wo = wr := ⟨_, rfl⟩
            rw [← hwo] at HB GO c1 c2 l0' l1 ⊢
            clear hwo wr
            go_wp2_with (fail)
            obtain ⟨A0, LA, zA⟩ := cub1_new wo x.1 x.2 24
            have HA := Lib.hid (below_nxt HB.out LA)
            generalize wo.alloc (.cells #[.int .u64 (x.1 : Int), .int .u64 (x.2 : Int)] 24) = V at *
            clear LA HB c1 c2 l1 l0' GO
            go_loopw [101] (fun s101 wq => ∃ j : Nat, j ≤ i ∧ s101 = .int .i64 j ∧ CubI wq wo.heap.size x.1 x.2 ∧ Hid (Below w6.heap.size w6 wq)) (fun s101 _ => i - (intOf s101).toNat)
            case atStart => exact ⟨0, Nat.zero_le _, rfl, A0, HA⟩
            case round =>
              clear A0 HA zA
              obtain ⟨j, hj, rfl, A, HBq⟩ := hrel
              by_cases hji : j < i
              · obtain ⟨g', he, hg', e1, e2⟩ := HG3.out.2.2.2.2.1.at HBq.out (show j < l.length by omega)
                obtain rfl : g = g' := by simpa using he
                have hxi := HFi.out
                have hyj := HFj.out j hji
                have GQ := Lib.hid (HG3.out.step HBq.out)
                clear he hg'
                generalize l.getD j (0, 0) = y at *
                have CX := fun W => Lib.hid (iCons_any n x.1 x.2 y.1 y.2 W (Ic.w64 HHN.out hxi.1.1) (Ic.w64 HHN.out (hxi.1.2.lt hxi.1.1)) (Ic.w64 HHN.out hyj.1.1) (Ic.w64 HHN.out (hyj.1.2.lt hyj.1.1)))
                have hk2 := Ic.chk2_zero.2 ⟨Ic.chk_of HHN.out hxi.1.1 hxi.1.2, Ic.chk_of HHN.out hyj.1.1 hyj.1.2⟩
                obtain ⟨t0, t1, t2, t3, t4⟩ := GQ.out.1
                obtain ⟨a0, a1, a2, a3, a4⟩ := id A
                by_cases hcn : Ic.cnt (Ic.opp x.1 x.2 y.1 y.2) = 1
                · have HCV : Ic.consV n x.1 x.2 y.1 y.2 = (((Ic.consC x.1 x.2 y.1 y.2, Ic.consU x.1 x.2 y.1 y.2), true), 0) := by
                    unfold Ic.consV; rw [if_pos hk2, if_pos hcn]; rfl
                  rw [HCV] at CX
                  dsimp only at CX
                  have hdc := Ic.consC_lt (v := x.2) (u := y.2) hxi.1.1 hyj.1.1
                  have hds := Ic.cons_sub HHN.out hxi.1.1 hyj.1.1 hxi.1.2 hyj.1.2
                  have hhd := HY.out _ _ hdc hds (HCI.out _ _ _ _ hxi.1.1 hyj.1.1 hxi.1.2 hyj.1.2 (Ic.prime_iff.1 hxi.2).2.1 (Ic.prime_iff.1 hyj.2).2.1 hcn)
                  have CHd := fun W h => CHx (some ⟨g, 0, none⟩) cap hcap1 hcap2 w1.heap.size (w1.heap.size + 1) W h _ _ hdc hds
                  rw [hhd] at CHd
                  clear HCV hcn hk2 hdc hds hhd hxi hyj
                  generalize Ic.consC x.1 x.2 y.1 y.2 = dc at *
                  generalize Ic.consU x.1 x.2 y.1 y.2 = du at *
                  go_wp2_with (fail)
                  obtain ⟨B0, LB, zB⟩ := cub1_new wr y.1 y.2 24
                  have HBB := Lib.hid (below_nxt HBq.out LB)
                  have AB := Lib.hid (A.step LB)
                  have GB := Lib.hid (GQ.out.step LB)
                  clear LB B0 t1 t2 t3 t4 a1 a2 a3 a4 e1 e2 A
                  generalize wr.alloc (.cells #[.int .u64 (y.1 : Int), .int .u64 (y.2 : Int)] 24) = V2 at *
                  go_at_call 22
                  refine ((CX _).out).mono ?_
                  rintro e w7 ⟨rfl, hb⟩
                  have HB7 := Lib.hid (below_nxt HBB.out hb)
                  have A7 := Lib.hid (AB.out.step hb)
                  have G7 := Lib.hid (GB.out.step hb)
                  clear hb
                  go_wp2_with (fail)
                  obtain ⟨D0, LD, zD⟩ := cub1_new w7 dc du 24
                  have HB8 := Lib.hid (below_nxt HB7.out LD)
                  have A8 := Lib.hid (A7.out.step LD)
                  have G8 := Lib.hid (G7.out.step LD)
                  clear LD D0
                  generalize w7.alloc (.cells #[.int .u64 (dc : Int), .int .u64 (du : Int)] 24) = V3 at *
                  go_at_call 41
                  refine ((CHd _ G8.out).out).mono ?_
                  rintro e w9 ⟨rfl, hb⟩
                  have HB9 := Lib.hid (below_nxt HB8.out hb)
                  have A9 := Lib.hid (A8.out.step hb)
                  clear hb
                  go_wp2
                  exact ⟨⟨j + 1, by omega, rfl, A9.out, HB9⟩, by simp [intOf]; omega⟩
                · have HCV : Ic.consV n x.1 x.2 y.1 y.2 = (((0, 0), false), 0) := by
                    unfold Ic.consV; rw [if_pos hk2, if_neg hcn]
                  rw [HCV] at CX
                  dsimp only at CX
                  clear HCV hcn hk2 hxi hyj
                  simp only [Int.natCast_zero] at CX
                  go_wp2_with (fail)
                  obtain ⟨B0, LB, zB⟩ := cub1_new wr y.1 y.2 24
                  have HBB := Lib.hid (below_nxt HBq.out LB)
                  have AB := Lib.hid (A.step LB)
                  clear LB B0 t1 t2 t3 t4 a1 a2 a3 a4 e1 e2 A
                  generalize wr.alloc (.cells #[.int .u64 (y.1 : Int), .int .u64 (y.2 : Int)] 24) = V2 at *
                  go_at_call 22
                  refine ((CX _).out).mono ?_
                  rintro e w7 ⟨rfl, hb⟩
                  have HB7 := Lib.hid (below_nxt HBB.out hb)
                  have A7 := Lib.hid (AB.out.step hb)
                  clear hb
                  go_wp2
                  exact ⟨⟨j + 1, by omega, rfl, A7.out.step ((Below.refl _ _).alloc (Nat.le_refl _) _), Lib.hid (below_nxt HB7.out ((Below.refl _ _).alloc (Nat.le_refl _) _))⟩, by simp [intOf]; omega⟩
              · obtain rfl : j = i := by omega
                go_wp2
                exact ⟨⟨j + 1, by omega, rfl, HBq⟩, by simp [intOf]; omega⟩
          · obtain rfl : i = l.length := by omega
            obtain ⟨d0, d1, d2⟩ := (HG3.out.step HB.out).2.2.1
            have HWR := Lib.hid (below_nxt HWx.out HB.out)
            go_wp2_with (go_at_call 17; refine (awake_any _ (HST.out.next HWR.out)).mono ?_; rintro e wz ⟨rfl, hb⟩; have HZ := Lib.hid (below_nxt HWR.out hb); clear hb)
            go_ret
            exact ⟨rfl, HZ.out⟩
  · have HWa := fun o => Lib.hid (below_nxt HW1.out ((Below.refl w1.heap.size w1).alloc (Nat.le_refl _) o))
    go_wp2_with (go_at_call 17; refine (awake_any _ (HST.out.next (HWa _).out)).mono ?_; rintro e wz ⟨rfl, hb⟩; have HZ := Lib.hid (below_nxt (HWa _).out hb); clear hb)
    go_ret
    exact ⟨rfl, HZ.out⟩

set_option linter.unusedSimpArgs false in
set_option maxHeartbeats 4000000 in
set_option maxRecDepth 100000 in
theorem lawGrows_bad (n : Int) (on : Nat) (m : Int) (fr c v : Nat) (w : World) (hst : St w) (ho : on < 2 ^ 64) (hf : fr < 2 ^ 64) (hc : c < 2 ^ 64) (hv : v < 2 ^ 64) (h : Ic.tchk n on m fr ≠ 0 ∨ Ic.chk n c v ≠ 0) :
    Calls Tryd.prog 10 #[.agg #[.int .i64 n, .int .u64 on, .int .i64 m, .int .u64 fr], .agg #[.int .u64 c, .int .u64 v]] w fun e w' => e = .returned (.bool true) ∧ Below w.heap.size w w' := by
  have K1 := fun W => Lib.hid (rcCheckTask_any n on m fr W ho hf)
  have K2 := fun W => Lib.hid (rcCheck_any n c v W hc hv)
  have HST := Lib.hid hst
  generalize Ic.tchk n on m fr = k1 at *
  generalize Ic.chk n c v = k2 at *
  clear hst ho hf hc hv
  obtain ⟨P1, L1, z1⟩ := cub1_new (w.alloc (.cells #[.int .i64 n, .int .u64 (on : Int), .int .i64 m, .int .u64 (fr : Int)] 58)) c v 24
  obtain ⟨P0, L0, z0⟩ := task_new w n on m fr 58
  replace P0 := P0.step L1
  replace L0 := below_nxt L0 L1
  rw [z0] at P1 z1
  clear L1 z0
  generalize hX : (w.alloc (.cells #[.int .i64 n, .int .u64 (on : Int), .int .i64 m, .int .u64 (fr : Int)] 58)).alloc (.cells #[.int .u64 (c : Int), .int .u64 (v : Int)] 24) = X at *
  have HB0 := Lib.hid L0
  have HP0 := Lib.hid P0
  have HP1 := Lib.hid P1
  obtain ⟨p0, p1, p2, p3, p4⟩ := P0
  obtain ⟨q0, q1, q2, q3, q4⟩ := P1
  clear L0
  by_cases h1 : k1 = 0
  · subst h1
    have hk2 : (k2 != 0) = true := by simpa using h
    clear h
    go_enter Tryd.func10, Tryd.ntmps10
    go_wp2_with (first | (go_at_call 31; refine ((K1 _).out).mono ?_; rintro e v1 ⟨rfl, hb⟩; have HV1 := Lib.hid (below_nxt HB0.out hb); have U1 := Lib.hid (HP0.out.step hb); have V1 := Lib.hid (HP1.out.step hb); clear hb p1 p2 p3 p4 q1 q2 q3 q4; obtain ⟨p0', p1, p2, p3, p4⟩ := U1.out; obtain ⟨q0', q1, q2, q3, q4⟩ := V1.out) | (go_at_call 16; refine ((K2 _).out).mono ?_; rintro e v2 ⟨rfl, hb⟩; have HV2 := Lib.hid (below_nxt HV1.out hb); clear hb) | (go_at_call 17; refine (awake_any _ (HST.out.next HV2.out)).mono ?_; rintro e wz ⟨rfl, hb⟩; have HZ := Lib.hid (below_nxt HV2.out hb); clear hb))
    go_ret
    exact ⟨rfl, HZ.out⟩
  · have hk1 : (k1 != 0) = true := by simp [h1]
    clear h h1
    go_enter Tryd.func10, Tryd.ntmps10
    go_wp2_with (first | (go_at_call 31; refine ((K1 _).out).mono ?_; rintro e v1 ⟨rfl, hb⟩; have HV1 := Lib.hid (below_nxt HB0.out hb); clear hb) | (go_at_call 17; refine (awake_any _ (HST.out.next HV1.out)).mono ?_; rintro e wz ⟨rfl, hb⟩; have HZ := Lib.hid (below_nxt HV1.out hb); clear hb))
    go_ret
    exact ⟨rfl, HZ.out⟩
theorem lawGrows_card (x0 y0 z0 u0 x1 y1 : Int) (W : World) (hst : St W) (_ : -9223372036854775808 ≤ x0) (_ : x0 ≤ 9223372036854775807) (h0 : 0 ≤ y0) (h1 : y0 ≤ 18446744073709551615) (_ : -9223372036854775808 ≤ z0) (_ : z0 ≤ 9223372036854775807) (h2 : 0 ≤ u0) (h3 : u0 ≤ 18446744073709551615) (h4 : 0 ≤ x1) (h5 : x1 ≤ 18446744073709551615) (h6 : 0 ≤ y1) (h7 : y1 ≤ 18446744073709551615) :
    Calls Tryd.prog 10 #[.agg #[.int .i64 x0, .int .u64 y0, .int .i64 z0, .int .u64 u0], .agg #[.int .u64 x1, .int .u64 y1]] W fun e w' => e = .returned (.bool true) ∧ Below W.heap.size W w' := by
  obtain ⟨on, rfl⟩ := Int.eq_ofNat_of_zero_le h0
  obtain ⟨fr, rfl⟩ := Int.eq_ofNat_of_zero_le h2
  obtain ⟨c, rfl⟩ := Int.eq_ofNat_of_zero_le h4
  obtain ⟨v, rfl⟩ := Int.eq_ofNat_of_zero_le h6
  by_cases h : Ic.tchk x0 on z0 fr = 0
  · by_cases hk : Ic.chk x0 c v = 0
    · obtain ⟨j, rfl, hj, hcj, hs⟩ := Ic.chk_nat (by omega) hk
      exact lawGrows_ok j on z0 fr c v W hst hj (by omega) (by omega) hcj hs h
    · exact lawGrows_bad x0 on z0 fr c v W hst (by omega) (by omega) (by omega) (by omega) (.inr hk)
  · exact lawGrows_bad x0 on z0 fr c v W hst (by omega) (by omega) (by omega) (by omega) (.inl h)
end Go.Proofs.YtabflijfbjdpgaaDoor
