/- The call of the statement SequenceChecks. -/
import Derived.Test.YtjpbccpleflkhaaDoorG17
import Derived.Test.YtjpbccpleflkhaaDoorG18
import Derived.Test.YtjpbccpleflkhaaDoorG14
namespace Go.Proofs.YtjpbccpleflkhaaDoor
open Go.RowKit Go.Shelf
attribute [local go_sem] Oper.semAt_some
set_option maxHeartbeats 32000000 in
set_option maxRecDepth 100000 in
theorem checks14_any (n : Int) (v : Value) (L : List Sk.Stp) (m : Int) (u : Value) (M : List Sk.Stp) (w : World) (hst : StQ w) (hs : SeeT w v L) (ht : SeeT w u M) : Calls Tryd.prog 4 #[.agg #[.int .i64 n, v], .agg #[.int .i64 m, u]] w fun e w' => e = .returned (.bool true) ∧ Below w.heap.size w w' := by
  have HST := Lib.hid hst
  have HS := Lib.hid hs
  have HT := Lib.hid ht
  obtain ⟨ao, cap, rfl, -⟩ := hs
  obtain ⟨bo, bcap, rfl, -⟩ := ht
  have CF := fun V (h : SeeT V (.slice ao L.length cap) L) => Lib.hid (rFew14_any n (.slice ao L.length cap) L V h)
  have CG := fun V (h : SeeT V (.slice bo M.length bcap) M) => Lib.hid (rFew14_any m (.slice bo M.length bcap) M V h)
  have L1 := allocB w (.cells #[.int .i64 n, .slice ao L.length cap] 32)
  have L2 := allocB (w.alloc (.cells #[.int .i64 n, .slice ao L.length cap] 32)) (.cells #[.int .i64 m, .slice bo M.length bcap] 32)
  obtain ⟨P1, -, -⟩ := boxP_new w (.int .i64 n) (.slice ao L.length cap) 32
  obtain ⟨P2, -, -⟩ := boxP_new (w.alloc (.cells #[.int .i64 n, .slice ao L.length cap] 32)) (.int .i64 m) (.slice bo M.length bcap) 32
  rw [World.size_alloc] at P2
  have HP0 := Lib.hid (P1.step L2)
  have HQ0 := Lib.hid P2
  have HB0 := Lib.hid (below_nxt L1 L2)
  obtain ⟨p0, p1, p2⟩ := HP0.out
  obtain ⟨q0, q1, q2⟩ := HQ0.out
  clear P1 P2 L1 L2 hst
  cases hf : Sq.fewV L
  · rw [hf] at CF
    clear hf
    go_enter Tryd.func4, Tryd.ntmps4
    go_wp2_with fail
    refine ((CF _ (HS.out.step HB0.out)).out).mono ?_
    rintro e w1 ⟨rfl, hb1⟩
    have HB1 := Lib.hid (below_nxt HB0.out hb1)
    clear hb1 p0 p1 p2 q0 q1 q2
    go_wp2_with fail
    refine (awake14_any _ (HST.out.step HB1.out)).mono ?_
    rintro e wz ⟨rfl, hbz⟩
    have HBz := Lib.hid (below_nxt HB1.out hbz)
    clear hbz
    go_wp2
    go_ret
    exact ⟨rfl, HBz.out⟩
  rw [hf] at CF
  clear hf
  cases hg : Sq.fewV M
  · rw [hg] at CG
    clear hg
    go_enter Tryd.func4, Tryd.ntmps4
    go_wp2_with fail
    refine ((CF _ (HS.out.step HB0.out)).out).mono ?_
    rintro e w1 ⟨rfl, hb1⟩
    have HB1 := Lib.hid (below_nxt HB0.out hb1)
    have HQ1 := Lib.hid (HQ0.out.step hb1)
    clear hb1 p0 p1 p2 q0 q1 q2
    obtain ⟨q0, q1, q2⟩ := HQ1.out
    go_wp2_with fail
    refine ((CG _ (HT.out.step HB1.out)).out).mono ?_
    rintro e w2 ⟨rfl, hb2⟩
    have HB2 := Lib.hid (below_nxt HB1.out hb2)
    clear hb2 q0 q1 q2
    go_wp2_with fail
    refine (awake14_any _ (HST.out.step HB2.out)).mono ?_
    rintro e wz ⟨rfl, hbz⟩
    have HBz := Lib.hid (below_nxt HB2.out hbz)
    clear hbz
    go_wp2
    go_ret
    exact ⟨rfl, HBz.out⟩
  rw [hg] at CG
  clear hg
  obtain ⟨F, e1, hF⟩ : ∃ F e1, Sq.wrdV n L = (F, e1) := ⟨_, _, rfl⟩
  obtain ⟨x, e2, hX⟩ : ∃ x e2, Sq.wsV n L = (x, e2) := ⟨_, _, rfl⟩
  obtain ⟨c, hc⟩ : ∃ c, Sq.chk n L = c := ⟨_, rfl⟩
  obtain ⟨d, hd⟩ : ∃ d, decide (n = m ∧ L = M) = d := ⟨_, rfl⟩
  have C1 : ∀ V, SeeT V (.slice ao L.length cap) L → Hid (Calls Tryd.prog 17 #[.agg #[.int .i64 n, .slice ao L.length cap]] V fun e w' => ∃ ao cap, e = .returned (.tuple #[.slice ao F.length cap, .int .i64 e1]) ∧ SeeK w' (.slice ao F.length cap) F ∧ Below V.heap.size V w') := fun V h => Lib.hid (by have g := qWrd_any n (.slice ao L.length cap) L V h; rw [hF] at g; exact g)
  have C2 : ∀ V, SeeT V (.slice ao L.length cap) L → Hid (Calls Tryd.prog 18 #[.agg #[.int .i64 n, .slice ao L.length cap]] V fun e w' => ∃ ao cap, e = .returned (.tuple #[.slice ao F.length cap, .int .i64 e1]) ∧ SeeK w' (.slice ao F.length cap) F ∧ Below V.heap.size V w') := fun V h => Lib.hid (by have g := rWrd_any n (.slice ao L.length cap) L V h; rw [hF] at g; exact g)
  have C3 : ∀ V, SeeT V (.slice ao L.length cap) L → Hid (Calls Tryd.prog 19 #[.agg #[.int .i64 n, .slice ao L.length cap]] V fun e w' => e = .returned (.tuple #[.int .i64 x, .int .i64 e2]) ∧ Below V.heap.size V w') := fun V h => Lib.hid (by have g := qWds_any n (.slice ao L.length cap) L V h; rw [hX] at g; exact g)
  have C4 : ∀ V, SeeT V (.slice ao L.length cap) L → Hid (Calls Tryd.prog 20 #[.agg #[.int .i64 n, .slice ao L.length cap]] V fun e w' => e = .returned (.tuple #[.int .i64 x, .int .i64 e2]) ∧ Below V.heap.size V w') := fun V h => Lib.hid (by have g := rWds_any n (.slice ao L.length cap) L V h; rw [hX] at g; exact g)
  have C5 : ∀ V, SeeT V (.slice ao L.length cap) L → Hid (Calls Tryd.prog 21 #[.agg #[.int .i64 n, .slice ao L.length cap]] V fun e w' => e = .returned (.int .i64 c) ∧ Below V.heap.size V w') := fun V h => Lib.hid (by have g := qChk_any n (.slice ao L.length cap) L V h; rw [hc] at g; exact g)
  have C6 : ∀ V, SeeT V (.slice ao L.length cap) L → Hid (Calls Tryd.prog 22 #[.agg #[.int .i64 n, .slice ao L.length cap]] V fun e w' => e = .returned (.int .i64 c) ∧ Below V.heap.size V w') := fun V h => Lib.hid (by have g := rChk_any n (.slice ao L.length cap) L V h; rw [hc] at g; exact g)
  have C7 : ∀ V, SeeT V (.slice ao L.length cap) L → SeeT V (.slice bo M.length bcap) M → Hid (Calls Tryd.prog 24 #[.agg #[.int .i64 n, .slice ao L.length cap], .agg #[.int .i64 m, .slice bo M.length bcap]] V fun e w' => e = .returned (.bool d) ∧ Below V.heap.size V w') := fun V h h2 => Lib.hid (by have g := qSame_any n m (.slice ao L.length cap) (.slice bo M.length bcap) L M V h h2; rw [hd] at g; exact g)
  have C8 : ∀ V, SeeT V (.slice ao L.length cap) L → SeeT V (.slice bo M.length bcap) M → Hid (Calls Tryd.prog 25 #[.agg #[.int .i64 n, .slice ao L.length cap], .agg #[.int .i64 m, .slice bo M.length bcap]] V fun e w' => e = .returned (.bool d) ∧ Below V.heap.size V w') := fun V h h2 => Lib.hid (by have g := rSame14_any n m (.slice ao L.length cap) (.slice bo M.length bcap) L M V h h2; rw [hd] at g; exact g)
  have C9 : ∀ V, SeeT V (.slice ao L.length cap) L → Hid (Calls Tryd.prog 24 #[.agg #[.int .i64 n, .slice ao L.length cap], .agg #[.int .i64 n, .slice ao L.length cap]] V fun e w' => e = .returned (.bool true) ∧ Below V.heap.size V w') := fun V h => Lib.hid (by have g := qSame_any n n (.slice ao L.length cap) (.slice ao L.length cap) L L V h h; rw [decide_eq_true ⟨rfl, rfl⟩] at g; exact g)
  have CK : ∀ u u2 V, SeeK V u F → SeeK V u2 F → Hid (Calls Tryd.prog 23 #[u, u2] V fun e w' => e = .returned (.bool true) ∧ Below V.heap.size V w') := fun u u2 V h1 h2 => Lib.hid (by have g := eqK_any u u2 F F V h1 h2; rw [decide_eq_true rfl] at g; exact g)
  clear hF hX hc hd
  go_enter Tryd.func4, Tryd.ntmps4
  go_wp2_with fail
  refine ((CF _ (HS.out.step HB0.out)).out).mono ?_
  rintro e w1 ⟨rfl, hb⟩
  have HB1 := Lib.hid (below_nxt HB0.out hb)
  have HP1 := Lib.hid (HP0.out.step hb)
  have HQ1 := Lib.hid (HQ0.out.step hb)
  clear hb p0 p1 p2 q0 q1 q2
  obtain ⟨p0, p1, p2⟩ := HP1.out
  obtain ⟨q0, q1, q2⟩ := HQ1.out
  go_wp2_with fail
  refine ((CG _ (HT.out.step HB1.out)).out).mono ?_
  rintro e w2 ⟨rfl, hb⟩
  have HB2 := Lib.hid (below_nxt HB1.out hb)
  have HP2 := Lib.hid (HP1.out.step hb)
  have HQ2 := Lib.hid (HQ1.out.step hb)
  clear hb p0 p1 p2 q0 q1 q2
  obtain ⟨p0, p1, p2⟩ := HP2.out
  obtain ⟨q0, q1, q2⟩ := HQ2.out
  go_wp2_with fail
  refine ((C1 _ (HS.out.step HB2.out)).out).mono ?_
  rintro e w3 ⟨aKA, cKA, rfl, hse, hb⟩
  have HB3 := Lib.hid (below_nxt HB2.out hb)
  have HP3 := Lib.hid (HP2.out.step hb)
  have HQ3 := Lib.hid (HQ2.out.step hb)
  have KA3 := Lib.hid hse
  clear hse hb p0 p1 p2 q0 q1 q2
  obtain ⟨p0, p1, p2⟩ := HP3.out
  obtain ⟨q0, q1, q2⟩ := HQ3.out
  go_wp2_with fail
  refine ((C2 _ (HS.out.step HB3.out)).out).mono ?_
  rintro e w4 ⟨aKB, cKB, rfl, hse, hb⟩
  have HB4 := Lib.hid (below_nxt HB3.out hb)
  have HP4 := Lib.hid (HP3.out.step hb)
  have HQ4 := Lib.hid (HQ3.out.step hb)
  have KA4 := Lib.hid (KA3.out.step hb)
  have KB4 := Lib.hid hse
  clear hse hb p0 p1 p2 q0 q1 q2
  obtain ⟨p0, p1, p2⟩ := HP4.out
  obtain ⟨q0, q1, q2⟩ := HQ4.out
  go_wp2_with fail
  refine ((C3 _ (HS.out.step HB4.out)).out).mono ?_
  rintro e w5 ⟨rfl, hb⟩
  have HB5 := Lib.hid (below_nxt HB4.out hb)
  have HP5 := Lib.hid (HP4.out.step hb)
  have HQ5 := Lib.hid (HQ4.out.step hb)
  have KA5 := Lib.hid (KA4.out.step hb)
  have KB5 := Lib.hid (KB4.out.step hb)
  clear hb p0 p1 p2 q0 q1 q2
  obtain ⟨p0, p1, p2⟩ := HP5.out
  obtain ⟨q0, q1, q2⟩ := HQ5.out
  go_wp2_with fail
  refine ((C4 _ (HS.out.step HB5.out)).out).mono ?_
  rintro e w6 ⟨rfl, hb⟩
  have HB6 := Lib.hid (below_nxt HB5.out hb)
  have HP6 := Lib.hid (HP5.out.step hb)
  have HQ6 := Lib.hid (HQ5.out.step hb)
  have KA6 := Lib.hid (KA5.out.step hb)
  have KB6 := Lib.hid (KB5.out.step hb)
  clear hb p0 p1 p2 q0 q1 q2
  obtain ⟨p0, p1, p2⟩ := HP6.out
  obtain ⟨q0, q1, q2⟩ := HQ6.out
  have hdr := (Below.refl w6.heap.size w6).drew
  have HB := Lib.hid (below_nxt HB6.out hdr)
  have HP := Lib.hid (HP6.out.step hdr)
  have HQ := Lib.hid (HQ6.out.step hdr)
  have KA := Lib.hid (KA6.out.step hdr)
  have KB := Lib.hid (KB6.out.step hdr)
  have ST := Lib.hid (HS.out.step HB.out)
  have TT := Lib.hid (HT.out.step HB.out)
  clear p0 p1 p2 q0 q1 q2 hdr HB1 HP1 HQ1 HB2 HP2 HQ2 HB3 HP3 HQ3 HB4 HP4 HQ4 HB5 HP5 HQ5 HB6 HP6 HQ6 HB0 HP0 HQ0
  obtain ⟨-, P1, P2⟩ := HP.out
  obtain ⟨-, Q1, Q2⟩ := HQ.out
  go_wp2_with fail
  refine wp_region_noPanic ?_
  refine wp_region_held_drew (S := fun W => W.cell? ⟨w.heap.size, 0, none⟩ = some (.int .i64 n) ∧ W.cell? ⟨w.heap.size, 1, none⟩ = some (.slice ao L.length cap) ∧ W.cell? ⟨w.heap.size + 1, 0, none⟩ = some (.int .i64 m) ∧ W.cell? ⟨w.heap.size + 1, 1, none⟩ = some (.slice bo M.length bcap)) (by kernel_rfl) ?_ (fun hHeld => ?_)
  · exact ⟨P1, P2, Q1, Q2⟩
  refine wpAnyH_take (i := 0) (v := ?_) rfl (by kernel_rfl) (by kernel_rfl) (by kernel_rfl) (fun _ _ _ h => h) (Or.inl ⟨by rfl, ?_⟩) (by assumption) ?_
  rotate_left 1
  · (intro w hSw; (try dsimp only at hSw); go_simp; (try with_reducible rfl))
  try simp only [Act.put, List.getElem_toArray, List.getElem_cons_zero, List.setIfInBounds_toArray, List.set_cons_zero, List.set_cons_succ]
  refine wpAnyH_take (i := 2) (v := ?_) rfl (by kernel_rfl) (by kernel_rfl) (by kernel_rfl) (fun _ _ _ h => h) (Or.inl ⟨by rfl, ?_⟩) (by assumption) ?_
  rotate_left 1
  · (intro w hSw; (try dsimp only at hSw); go_simp; (try with_reducible rfl))
  try simp only [Act.put, List.getElem_toArray, List.getElem_cons_succ, List.getElem_cons_zero, List.setIfInBounds_toArray, List.set_cons_zero, List.set_cons_succ]
  refine wpAnyH_ready (rs := [1]) (by kernel_rfl) (by simp) ?_
  refine AllReadyH.cons rfl (fun K hK => ?_) AllReadyH.nil
  go_simp
  (go_at_call 21; (with_reducible refine ((C5 _ ST.out).out).mono ?_); rintro e wn ⟨rfl, hb⟩; have HBq := Lib.hid (below_nxt HB.out hb); have HPq := Lib.hid (HP.out.step hb); have HQq := Lib.hid (HQ.out.step hb); have KAq := Lib.hid (KA.out.step hb); have KBq := Lib.hid (KB.out.step hb); have STq := Lib.hid (ST.out.step hb); have TTq := Lib.hid (TT.out.step hb); clear HB HP HQ KA KB ST TT P1 P2 Q1 Q2; have HB := HBq; have HP := HPq; have HQ := HQq; have KA := KAq; have KB := KBq; have ST := STq; have TT := TTq; clear HBq HPq HQq KAq KBq STq TTq hb; obtain ⟨-, P1, P2⟩ := HP.out; obtain ⟨-, Q1, Q2⟩ := HQ.out)
  go_simp
  refine hK.out _ _ ?_ (fun hHeld => ?_)
  · exact ⟨P1, P2, Q1, Q2⟩
  clear hK K
  try simp only [Act.put, List.getElem_toArray, List.getElem_cons_succ, List.getElem_cons_zero, List.setIfInBounds_toArray, List.set_cons_zero, List.set_cons_succ]
  refine wpAnyH_ready (rs := [3]) (by kernel_rfl) (by simp) ?_
  refine AllReadyH.cons rfl (fun K hK => ?_) AllReadyH.nil
  go_simp
  (go_at_call 22; (with_reducible refine ((C6 _ ST.out).out).mono ?_); rintro e wn ⟨rfl, hb⟩; have HBq := Lib.hid (below_nxt HB.out hb); have HPq := Lib.hid (HP.out.step hb); have HQq := Lib.hid (HQ.out.step hb); have KAq := Lib.hid (KA.out.step hb); have KBq := Lib.hid (KB.out.step hb); have STq := Lib.hid (ST.out.step hb); have TTq := Lib.hid (TT.out.step hb); clear HB HP HQ KA KB ST TT P1 P2 Q1 Q2; have HB := HBq; have HP := HPq; have HQ := HQq; have KA := KAq; have KB := KBq; have ST := STq; have TT := TTq; clear HBq HPq HQq KAq KBq STq TTq hb; obtain ⟨-, P1, P2⟩ := HP.out; obtain ⟨-, Q1, Q2⟩ := HQ.out)
  go_simp
  refine hK.out _ _ ?_ (fun hHeld => ?_)
  · exact ⟨P1, P2, Q1, Q2⟩
  clear hK K
  try simp only [Act.put, List.getElem_toArray, List.getElem_cons_succ, List.getElem_cons_zero, List.setIfInBounds_toArray, List.set_cons_zero, List.set_cons_succ]
  refine wpAnyH_take (i := 4) (v := .bool true) rfl (by kernel_rfl) (by kernel_rfl) (by kernel_rfl) (fun _ _ _ h => h) (Or.inl ⟨by rfl, ?_⟩) (by assumption) ?_
  skip
  · (intro w hSw; (try dsimp only at hSw); go_simp; try simp)
  try simp only [Act.put, List.getElem_toArray, List.getElem_cons_succ, List.getElem_cons_zero, List.setIfInBounds_toArray, List.set_cons_zero, List.set_cons_succ]
  refine wpAnyH_take (i := 5) (v := ?_) rfl (by kernel_rfl) (by kernel_rfl) (by kernel_rfl) (fun _ _ _ h => h) (Or.inl ⟨by rfl, ?_⟩) (by assumption) ?_
  rotate_left 1
  · (intro w hSw; (try dsimp only at hSw); go_simp; (try with_reducible rfl))
  try simp only [Act.put, List.getElem_toArray, List.getElem_cons_succ, List.getElem_cons_zero, List.setIfInBounds_toArray, List.set_cons_zero, List.set_cons_succ]
  refine wpAnyH_take (i := 6) (v := ?_) rfl (by kernel_rfl) (by kernel_rfl) (by kernel_rfl) (fun _ _ _ h => h) (Or.inl ⟨by rfl, ?_⟩) (by assumption) ?_
  rotate_left 1
  · (intro w hSw; (try dsimp only at hSw); go_simp; (try with_reducible rfl))
  try simp only [Act.put, List.getElem_toArray, List.getElem_cons_succ, List.getElem_cons_zero, List.setIfInBounds_toArray, List.set_cons_zero, List.set_cons_succ]
  refine wpAnyH_take (i := 7) (v := ?_) rfl (by kernel_rfl) (by kernel_rfl) (by kernel_rfl) (fun _ _ _ h => h) (Or.inl ⟨by rfl, ?_⟩) (by assumption) ?_
  rotate_left 1
  · (intro w hSw; (try dsimp only at hSw); go_simp; (try with_reducible rfl))
  try simp only [Act.put, List.getElem_toArray, List.getElem_cons_succ, List.getElem_cons_zero, List.setIfInBounds_toArray, List.set_cons_zero, List.set_cons_succ]
  refine wpAnyH_ready (rs := [8]) (by kernel_rfl) (by simp) ?_
  refine AllReadyH.cons rfl (fun K hK => ?_) AllReadyH.nil
  go_simp
  (go_at_call 23; (with_reducible refine ((CK _ _ _ KA.out KB.out).out).mono ?_); rintro e wn ⟨rfl, hb⟩; have HBq := Lib.hid (below_nxt HB.out hb); have HPq := Lib.hid (HP.out.step hb); have HQq := Lib.hid (HQ.out.step hb); have KAq := Lib.hid (KA.out.step hb); have KBq := Lib.hid (KB.out.step hb); have STq := Lib.hid (ST.out.step hb); have TTq := Lib.hid (TT.out.step hb); clear HB HP HQ KA KB ST TT P1 P2 Q1 Q2; have HB := HBq; have HP := HPq; have HQ := HQq; have KA := KAq; have KB := KBq; have ST := STq; have TT := TTq; clear HBq HPq HQq KAq KBq STq TTq hb; obtain ⟨-, P1, P2⟩ := HP.out; obtain ⟨-, Q1, Q2⟩ := HQ.out)
  go_simp
  refine hK.out _ _ ?_ (fun hHeld => ?_)
  · exact ⟨P1, P2, Q1, Q2⟩
  clear hK K
  try simp only [Act.put, List.getElem_toArray, List.getElem_cons_succ, List.getElem_cons_zero, List.setIfInBounds_toArray, List.set_cons_zero, List.set_cons_succ]
  refine wpAnyH_take (i := 9) (v := ?_) rfl (by kernel_rfl) (by kernel_rfl) (by kernel_rfl) (fun _ _ _ h => h) (Or.inl ⟨by rfl, ?_⟩) (by assumption) ?_
  rotate_left 1
  · (intro w hSw; (try dsimp only at hSw); go_simp; (try with_reducible rfl))
  try simp only [Act.put, List.getElem_toArray, List.getElem_cons_succ, List.getElem_cons_zero, List.setIfInBounds_toArray, List.set_cons_zero, List.set_cons_succ]
  refine wpAnyH_take (i := 10) (v := ?_) rfl (by kernel_rfl) (by kernel_rfl) (by kernel_rfl) (fun _ _ _ h => h) (Or.inl ⟨by rfl, ?_⟩) (by assumption) ?_
  rotate_left 1
  · (intro w hSw; (try dsimp only at hSw); go_simp; (try with_reducible rfl))
  try simp only [Act.put, List.getElem_toArray, List.getElem_cons_succ, List.getElem_cons_zero, List.setIfInBounds_toArray, List.set_cons_zero, List.set_cons_succ]
  refine wpAnyH_take (i := 11) (v := ?_) rfl (by kernel_rfl) (by kernel_rfl) (by kernel_rfl) (fun _ _ _ h => h) (Or.inl ⟨by rfl, ?_⟩) (by assumption) ?_
  rotate_left 1
  · (intro w hSw; (try dsimp only at hSw); go_simp; (try with_reducible rfl))
  try simp only [Act.put, List.getElem_toArray, List.getElem_cons_succ, List.getElem_cons_zero, List.setIfInBounds_toArray, List.set_cons_zero, List.set_cons_succ]
  refine wpAnyH_take (i := 12) (v := ?_) rfl (by kernel_rfl) (by kernel_rfl) (by kernel_rfl) (fun _ _ _ h => h) (Or.inl ⟨by rfl, ?_⟩) (by assumption) ?_
  rotate_left 1
  · (intro w hSw; (try dsimp only at hSw); go_simp; (try with_reducible rfl))
  try simp only [Act.put, List.getElem_toArray, List.getElem_cons_succ, List.getElem_cons_zero, List.setIfInBounds_toArray, List.set_cons_zero, List.set_cons_succ]
  refine wpAnyH_take (i := 13) (v := .bool true) rfl (by kernel_rfl) (by kernel_rfl) (by kernel_rfl) (fun _ _ _ h => h) (Or.inl ⟨by rfl, ?_⟩) (by assumption) ?_
  skip
  · (intro w hSw; (try dsimp only at hSw); go_simp; try simp)
  try simp only [Act.put, List.getElem_toArray, List.getElem_cons_succ, List.getElem_cons_zero, List.setIfInBounds_toArray, List.set_cons_zero, List.set_cons_succ]
  refine wpAnyH_take (i := 14) (v := ?_) rfl (by kernel_rfl) (by kernel_rfl) (by kernel_rfl) (fun _ _ _ h => h) (Or.inl ⟨by rfl, ?_⟩) (by assumption) ?_
  rotate_left 1
  · (intro w hSw; (try dsimp only at hSw); go_simp; (try with_reducible rfl))
  try simp only [Act.put, List.getElem_toArray, List.getElem_cons_succ, List.getElem_cons_zero, List.setIfInBounds_toArray, List.set_cons_zero, List.set_cons_succ]
  refine wpAnyH_take (i := 15) (v := ?_) rfl (by kernel_rfl) (by kernel_rfl) (by kernel_rfl) (fun _ _ _ h => h) (Or.inl ⟨by rfl, ?_⟩) (by assumption) ?_
  rotate_left 1
  · (intro w hSw; (try dsimp only at hSw); go_simp; (try with_reducible rfl))
  try simp only [Act.put, List.getElem_toArray, List.getElem_cons_succ, List.getElem_cons_zero, List.setIfInBounds_toArray, List.set_cons_zero, List.set_cons_succ]
  refine wpAnyH_take (i := 16) (v := ?_) rfl (by kernel_rfl) (by kernel_rfl) (by kernel_rfl) (fun _ _ _ h => h) (Or.inl ⟨by rfl, ?_⟩) (by assumption) ?_
  rotate_left 1
  · (intro w hSw; (try dsimp only at hSw); go_simp; (try with_reducible rfl))
  try simp only [Act.put, List.getElem_toArray, List.getElem_cons_succ, List.getElem_cons_zero, List.setIfInBounds_toArray, List.set_cons_zero, List.set_cons_succ]
  refine wpAnyH_take (i := 17) (v := ?_) rfl (by kernel_rfl) (by kernel_rfl) (by kernel_rfl) (fun _ _ _ h => h) (Or.inl ⟨by rfl, ?_⟩) (by assumption) ?_
  rotate_left 1
  · (intro w hSw; (try dsimp only at hSw); go_simp; (try with_reducible rfl))
  try simp only [Act.put, List.getElem_toArray, List.getElem_cons_succ, List.getElem_cons_zero, List.setIfInBounds_toArray, List.set_cons_zero, List.set_cons_succ]
  refine wpAnyH_take (i := 18) (v := .bool true) rfl (by kernel_rfl) (by kernel_rfl) (by kernel_rfl) (fun _ _ _ h => h) (Or.inl ⟨by rfl, ?_⟩) (by assumption) ?_
  skip
  · (intro w hSw; (try dsimp only at hSw); go_simp; try simp)
  try simp only [Act.put, List.getElem_toArray, List.getElem_cons_succ, List.getElem_cons_zero, List.setIfInBounds_toArray, List.set_cons_zero, List.set_cons_succ]
  refine wpAnyH_take (i := 19) (v := ?_) rfl (by kernel_rfl) (by kernel_rfl) (by kernel_rfl) (fun _ _ _ h => h) (Or.inl ⟨by rfl, ?_⟩) (by assumption) ?_
  rotate_left 1
  · (intro w hSw; (try dsimp only at hSw); go_simp; (try with_reducible rfl))
  try simp only [Act.put, List.getElem_toArray, List.getElem_cons_succ, List.getElem_cons_zero, List.setIfInBounds_toArray, List.set_cons_zero, List.set_cons_succ]
  refine wpAnyH_take (i := 20) (v := ?_) rfl (by kernel_rfl) (by kernel_rfl) (by kernel_rfl) (fun _ _ _ h => h) (Or.inl ⟨by rfl, ?_⟩) (by assumption) ?_
  rotate_left 1
  · (intro w hSw; (try dsimp only at hSw); go_simp; (try with_reducible rfl))
  try simp only [Act.put, List.getElem_toArray, List.getElem_cons_succ, List.getElem_cons_zero, List.setIfInBounds_toArray, List.set_cons_zero, List.set_cons_succ]
  refine wpAnyH_take (i := 21) (v := ?_) rfl (by kernel_rfl) (by kernel_rfl) (by kernel_rfl) (fun _ _ _ h => h) (Or.inl ⟨by rfl, ?_⟩) (by assumption) ?_
  rotate_left 1
  · (intro w hSw; (try dsimp only at hSw); go_simp; (try with_reducible rfl))
  try simp only [Act.put, List.getElem_toArray, List.getElem_cons_succ, List.getElem_cons_zero, List.setIfInBounds_toArray, List.set_cons_zero, List.set_cons_succ]
  refine wpAnyH_take (i := 22) (v := ?_) rfl (by kernel_rfl) (by kernel_rfl) (by kernel_rfl) (fun _ _ _ h => h) (Or.inl ⟨by rfl, ?_⟩) (by assumption) ?_
  rotate_left 1
  · (intro w hSw; (try dsimp only at hSw); go_simp; (try with_reducible rfl))
  try simp only [Act.put, List.getElem_toArray, List.getElem_cons_succ, List.getElem_cons_zero, List.setIfInBounds_toArray, List.set_cons_zero, List.set_cons_succ]
  refine wpAnyH_take (i := 23) (v := .bool true) rfl (by kernel_rfl) (by kernel_rfl) (by kernel_rfl) (fun _ _ _ h => h) (Or.inl ⟨by rfl, ?_⟩) (by assumption) ?_
  skip
  · (intro w hSw; (try dsimp only at hSw); go_simp; try simp)
  try simp only [Act.put, List.getElem_toArray, List.getElem_cons_succ, List.getElem_cons_zero, List.setIfInBounds_toArray, List.set_cons_zero, List.set_cons_succ]
  refine wpAnyH_take (i := 24) (v := ?_) rfl (by kernel_rfl) (by kernel_rfl) (by kernel_rfl) (fun _ _ _ h => h) (Or.inl ⟨by rfl, ?_⟩) (by assumption) ?_
  rotate_left 1
  · (intro w hSw; (try dsimp only at hSw); go_simp; (try with_reducible rfl))
  try simp only [Act.put, List.getElem_toArray, List.getElem_cons_succ, List.getElem_cons_zero, List.setIfInBounds_toArray, List.set_cons_zero, List.set_cons_succ]
  refine wpAnyH_take (i := 25) (v := ?_) rfl (by kernel_rfl) (by kernel_rfl) (by kernel_rfl) (fun _ _ _ h => h) (Or.inl ⟨by rfl, ?_⟩) (by assumption) ?_
  rotate_left 1
  · (intro w hSw; (try dsimp only at hSw); go_simp; (try with_reducible rfl))
  try simp only [Act.put, List.getElem_toArray, List.getElem_cons_succ, List.getElem_cons_zero, List.setIfInBounds_toArray, List.set_cons_zero, List.set_cons_succ]
  refine wpAnyH_take (i := 26) (v := ?_) rfl (by kernel_rfl) (by kernel_rfl) (by kernel_rfl) (fun _ _ _ h => h) (Or.inl ⟨by rfl, ?_⟩) (by assumption) ?_
  rotate_left 1
  · (intro w hSw; (try dsimp only at hSw); go_simp; (try with_reducible rfl))
  try simp only [Act.put, List.getElem_toArray, List.getElem_cons_succ, List.getElem_cons_zero, List.setIfInBounds_toArray, List.set_cons_zero, List.set_cons_succ]
  refine wpAnyH_take (i := 27) (v := ?_) rfl (by kernel_rfl) (by kernel_rfl) (by kernel_rfl) (fun _ _ _ h => h) (Or.inl ⟨by rfl, ?_⟩) (by assumption) ?_
  rotate_left 1
  · (intro w hSw; (try dsimp only at hSw); go_simp; (try with_reducible rfl))
  try simp only [Act.put, List.getElem_toArray, List.getElem_cons_succ, List.getElem_cons_zero, List.setIfInBounds_toArray, List.set_cons_zero, List.set_cons_succ]
  refine wpAnyH_take (i := 29) (v := ?_) rfl (by kernel_rfl) (by kernel_rfl) (by kernel_rfl) (fun _ _ _ h => h) (Or.inl ⟨by rfl, ?_⟩) (by assumption) ?_
  rotate_left 1
  · (intro w hSw; (try dsimp only at hSw); go_simp; (try with_reducible rfl))
  try simp only [Act.put, List.getElem_toArray, List.getElem_cons_succ, List.getElem_cons_zero, List.setIfInBounds_toArray, List.set_cons_zero, List.set_cons_succ]
  refine wpAnyH_take (i := 30) (v := ?_) rfl (by kernel_rfl) (by kernel_rfl) (by kernel_rfl) (fun _ _ _ h => h) (Or.inl ⟨by rfl, ?_⟩) (by assumption) ?_
  rotate_left 1
  · (intro w hSw; (try dsimp only at hSw); go_simp; (try with_reducible rfl))
  try simp only [Act.put, List.getElem_toArray, List.getElem_cons_succ, List.getElem_cons_zero, List.setIfInBounds_toArray, List.set_cons_zero, List.set_cons_succ]
  refine wpAnyH_ready (rs := [28]) (by kernel_rfl) (by simp) ?_
  refine AllReadyH.cons rfl (fun K hK => ?_) AllReadyH.nil
  go_simp
  (go_at_call 24; (with_reducible refine ((C7 _ ST.out TT.out).out).mono ?_); rintro e wn ⟨rfl, hb⟩; have HBq := Lib.hid (below_nxt HB.out hb); have HPq := Lib.hid (HP.out.step hb); have HQq := Lib.hid (HQ.out.step hb); have KAq := Lib.hid (KA.out.step hb); have KBq := Lib.hid (KB.out.step hb); have STq := Lib.hid (ST.out.step hb); have TTq := Lib.hid (TT.out.step hb); clear HB HP HQ KA KB ST TT P1 P2 Q1 Q2; have HB := HBq; have HP := HPq; have HQ := HQq; have KA := KAq; have KB := KBq; have ST := STq; have TT := TTq; clear HBq HPq HQq KAq KBq STq TTq hb; obtain ⟨-, P1, P2⟩ := HP.out; obtain ⟨-, Q1, Q2⟩ := HQ.out)
  go_simp
  refine hK.out _ _ ?_ (fun hHeld => ?_)
  · exact ⟨P1, P2, Q1, Q2⟩
  clear hK K
  try simp only [Act.put, List.getElem_toArray, List.getElem_cons_succ, List.getElem_cons_zero, List.setIfInBounds_toArray, List.set_cons_zero, List.set_cons_succ]
  refine wpAnyH_ready (rs := [31]) (by kernel_rfl) (by simp) ?_
  refine AllReadyH.cons rfl (fun K hK => ?_) AllReadyH.nil
  go_simp
  (go_at_call 25; (with_reducible refine ((C8 _ ST.out TT.out).out).mono ?_); rintro e wn ⟨rfl, hb⟩; have HBq := Lib.hid (below_nxt HB.out hb); have HPq := Lib.hid (HP.out.step hb); have HQq := Lib.hid (HQ.out.step hb); have KAq := Lib.hid (KA.out.step hb); have KBq := Lib.hid (KB.out.step hb); have STq := Lib.hid (ST.out.step hb); have TTq := Lib.hid (TT.out.step hb); clear HB HP HQ KA KB ST TT P1 P2 Q1 Q2; have HB := HBq; have HP := HPq; have HQ := HQq; have KA := KAq; have KB := KBq; have ST := STq; have TT := TTq; clear HBq HPq HQq KAq KBq STq TTq hb; obtain ⟨-, P1, P2⟩ := HP.out; obtain ⟨-, Q1, Q2⟩ := HQ.out)
  go_simp
  refine hK.out _ _ ?_ (fun hHeld => ?_)
  · exact ⟨P1, P2, Q1, Q2⟩
  clear hK K
  try simp only [Act.put, List.getElem_toArray, List.getElem_cons_succ, List.getElem_cons_zero, List.setIfInBounds_toArray, List.set_cons_zero, List.set_cons_succ]
  refine wpAnyH_take (i := 32) (v := .bool true) rfl (by kernel_rfl) (by kernel_rfl) (by kernel_rfl) (fun _ _ _ h => h) (Or.inl ⟨by rfl, ?_⟩) (by assumption) ?_
  skip
  · (intro w hSw; (try dsimp only at hSw); go_simp; try simp)
  try simp only [Act.put, List.getElem_toArray, List.getElem_cons_succ, List.getElem_cons_zero, List.setIfInBounds_toArray, List.set_cons_zero, List.set_cons_succ]
  refine wpAnyH_take (i := 33) (v := ?_) rfl (by kernel_rfl) (by kernel_rfl) (by kernel_rfl) (fun _ _ _ h => h) (Or.inl ⟨by rfl, ?_⟩) (by assumption) ?_
  rotate_left 1
  · (intro w hSw; (try dsimp only at hSw); go_simp; (try with_reducible rfl))
  try simp only [Act.put, List.getElem_toArray, List.getElem_cons_succ, List.getElem_cons_zero, List.setIfInBounds_toArray, List.set_cons_zero, List.set_cons_succ]
  refine wpAnyH_take (i := 34) (v := ?_) rfl (by kernel_rfl) (by kernel_rfl) (by kernel_rfl) (fun _ _ _ h => h) (Or.inl ⟨by rfl, ?_⟩) (by assumption) ?_
  rotate_left 1
  · (intro w hSw; (try dsimp only at hSw); go_simp; (try with_reducible rfl))
  try simp only [Act.put, List.getElem_toArray, List.getElem_cons_succ, List.getElem_cons_zero, List.setIfInBounds_toArray, List.set_cons_zero, List.set_cons_succ]
  refine wpAnyH_take (i := 35) (v := ?_) rfl (by kernel_rfl) (by kernel_rfl) (by kernel_rfl) (fun _ _ _ h => h) (Or.inl ⟨by rfl, ?_⟩) (by assumption) ?_
  rotate_left 1
  · (intro w hSw; (try dsimp only at hSw); go_simp; (try with_reducible rfl))
  try simp only [Act.put, List.getElem_toArray, List.getElem_cons_succ, List.getElem_cons_zero, List.setIfInBounds_toArray, List.set_cons_zero, List.set_cons_succ]
  refine wpAnyH_take (i := 36) (v := ?_) rfl (by kernel_rfl) (by kernel_rfl) (by kernel_rfl) (fun _ _ _ h => h) (Or.inl ⟨by rfl, ?_⟩) (by assumption) ?_
  rotate_left 1
  · (intro w hSw; (try dsimp only at hSw); go_simp; (try with_reducible rfl))
  try simp only [Act.put, List.getElem_toArray, List.getElem_cons_succ, List.getElem_cons_zero, List.setIfInBounds_toArray, List.set_cons_zero, List.set_cons_succ]
  refine wpAnyH_ready (rs := [37]) (by kernel_rfl) (by simp) ?_
  refine AllReadyH.cons rfl (fun K hK => ?_) AllReadyH.nil
  go_simp
  (go_at_call 24; (with_reducible refine ((C9 _ ST.out).out).mono ?_); rintro e wn ⟨rfl, hb⟩; have HBq := Lib.hid (below_nxt HB.out hb); have HPq := Lib.hid (HP.out.step hb); have HQq := Lib.hid (HQ.out.step hb); have KAq := Lib.hid (KA.out.step hb); have KBq := Lib.hid (KB.out.step hb); have STq := Lib.hid (ST.out.step hb); have TTq := Lib.hid (TT.out.step hb); clear HB HP HQ KA KB ST TT P1 P2 Q1 Q2; have HB := HBq; have HP := HPq; have HQ := HQq; have KA := KAq; have KB := KBq; have ST := STq; have TT := TTq; clear HBq HPq HQq KAq KBq STq TTq hb; obtain ⟨-, P1, P2⟩ := HP.out; obtain ⟨-, Q1, Q2⟩ := HQ.out)
  go_simp
  refine hK.out _ _ ?_ (fun hHeld => ?_)
  · exact ⟨P1, P2, Q1, Q2⟩
  clear hK K
  try simp only [Act.put, List.getElem_toArray, List.getElem_cons_succ, List.getElem_cons_zero, List.setIfInBounds_toArray, List.set_cons_zero, List.set_cons_succ]
  refine wpAnyH_take (i := 38) (v := ?_) rfl (by kernel_rfl) (by kernel_rfl) (by kernel_rfl) (fun _ _ _ h => h) (Or.inl ⟨by rfl, ?_⟩) (by assumption) ?_
  rotate_left 1
  · (intro w hSw; (try dsimp only at hSw); go_simp; (try with_reducible rfl))
  try simp only [Act.put, List.getElem_toArray, List.getElem_cons_succ, List.getElem_cons_zero, List.setIfInBounds_toArray, List.set_cons_zero, List.set_cons_succ]
  refine wpAnyH_take (i := 39) (v := ?_) rfl (by kernel_rfl) (by kernel_rfl) (by kernel_rfl) (fun _ _ _ h => h) (Or.inl ⟨by rfl, ?_⟩) (by assumption) ?_
  rotate_left 1
  · (intro w hSw; (try dsimp only at hSw); go_simp; (try with_reducible rfl))
  try simp only [Act.put, List.getElem_toArray, List.getElem_cons_succ, List.getElem_cons_zero, List.setIfInBounds_toArray, List.set_cons_zero, List.set_cons_succ]
  refine wpAnyH_ready (rs := [40]) (by kernel_rfl) (by simp) ?_
  refine AllReadyH.cons rfl (fun K hK => ?_) AllReadyH.nil
  go_simp
  (go_at_call 16; (with_reducible refine (awake14_any _ (HST.out.step HB.out)).mono ?_); rintro e wn ⟨rfl, hb⟩; have HBq := Lib.hid (below_nxt HB.out hb); have HPq := Lib.hid (HP.out.step hb); have HQq := Lib.hid (HQ.out.step hb); have KAq := Lib.hid (KA.out.step hb); have KBq := Lib.hid (KB.out.step hb); have STq := Lib.hid (ST.out.step hb); have TTq := Lib.hid (TT.out.step hb); clear HB HP HQ KA KB ST TT P1 P2 Q1 Q2; have HB := HBq; have HP := HPq; have HQ := HQq; have KA := KAq; have KB := KBq; have ST := STq; have TT := TTq; clear HBq HPq HQq KAq KBq STq TTq hb; obtain ⟨-, P1, P2⟩ := HP.out; obtain ⟨-, Q1, Q2⟩ := HQ.out)
  go_simp
  refine hK.out _ _ ?_ (fun hHeld => ?_)
  · exact ⟨P1, P2, Q1, Q2⟩
  clear hK K
  try simp only [Act.put, List.getElem_toArray, List.getElem_cons_succ, List.getElem_cons_zero, List.setIfInBounds_toArray, List.set_cons_zero, List.set_cons_succ]
  refine wpAnyH_take (i := 41) (v := ?_) rfl (by kernel_rfl) (by kernel_rfl) (by kernel_rfl) (fun _ _ _ h => h) (Or.inl ⟨by rfl, ?_⟩) (by assumption) ?_
  rotate_left 1
  · (intro w hSw; (try dsimp only at hSw); go_simp; (try with_reducible rfl))
  try simp only [Act.put, List.getElem_toArray, List.getElem_cons_succ, List.getElem_cons_zero, List.setIfInBounds_toArray, List.set_cons_zero, List.set_cons_succ]
  refine wpAnyH_take (i := 42) (v := ?_) rfl (by kernel_rfl) (by kernel_rfl) (by kernel_rfl) (fun _ _ _ h => h) (Or.inl ⟨by rfl, ?_⟩) (by assumption) ?_
  rotate_left 1
  · (intro w hSw; (try dsimp only at hSw); go_simp; (try with_reducible rfl))
  try simp only [Act.put, List.getElem_toArray, List.getElem_cons_succ, List.getElem_cons_zero, List.setIfInBounds_toArray, List.set_cons_zero, List.set_cons_succ]
  refine wpAnyH_done (by kernel_rfl) ?_ _
  refine NoPanic.normal ?_
  go_wp2
  go_ret
  exact ⟨rfl, HB.out⟩
end Go.Proofs.YtjpbccpleflkhaaDoor
