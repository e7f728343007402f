/- The contracts of Hull of package enclosure; of the reference: Common, Meet. -/
import Derived.Test.YtldclpdmcopgnaaGreatDoorEA
namespace Go.Proofs.YtldclpdmcopgnaaGreatDoor
open Go.RowKit
/-- Both enclosures and the result, of any texts, in variables. -/
def M1 (w W : World) (l h m k : ByteArray) : Prop := Below w.heap.size w W ∧ Pair W w.heap.size l h ∧ Pair W (w.heap.size + 1) m k ∧ ∃ x y, Pair W (w.heap.size + 1 + 1) x y
theorem M1.bel {w W : World} {l h m k : ByteArray} (x : M1 w W l h m k) : Below w.heap.size w W := x.1
theorem M1.step {w W W' : World} {l h m k : ByteArray} (x : M1 w W l h m k) (hb : Below W.heap.size W W') : M1 w W' l h m k := by
  obtain ⟨h1, h2, h3, a, b, h4⟩ := x
  exact ⟨below_nx h1 hb, h2.below hb, h3.below hb, a, b, h4.below hb⟩
theorem M1.put {w W : World} {l h m k : ByteArray} (x : M1 w W l h m k) (lo hi : ByteArray) : M1 w ((W.setCell ⟨w.heap.size + 1 + 1, 0, none⟩ (.string lo)).setCell ⟨w.heap.size + 1 + 1, 1, none⟩ (.string hi)) l h m k := by
  obtain ⟨h1, ⟨a0, a1, a2, a3, a4⟩, ⟨b0, b1, b2, b3, b4⟩, p, q, c0, c1, c2, c3, c4⟩ := x
  refine ⟨(h1.setCell (p := ⟨w.heap.size + 1 + 1, 0, none⟩) (by show w.heap.size ≤ w.heap.size + 1 + 1; omega) (.string lo)).setCell (p := ⟨w.heap.size + 1 + 1, 1, none⟩) (by show w.heap.size ≤ w.heap.size + 1 + 1; omega) (.string hi), ?_, ?_, lo, hi, ?_⟩
  · exact ⟨by simpa using a0, cell_ne (cell_ne a1 (blk_ne (by omega))) (blk_ne (by omega)), cell_ne (cell_ne a2 (blk_ne (by omega))) (blk_ne (by omega)), by simpa using a3, by simpa using a4⟩
  · exact ⟨by simpa using b0, cell_ne (cell_ne b1 (blk_ne (by omega))) (blk_ne (by omega)), cell_ne (cell_ne b2 (blk_ne (by omega))) (blk_ne (by omega)), by simpa using b3, by simpa using b4⟩
  · exact ⟨by simpa using c0, by simp [go_sem, c1], by simp [go_sem, c2], by simpa using c3, by simpa using c4⟩
def HullPost (w : World) (f : Int) (lo hi : ByteArray) (e : Ending) (w' : World) : Prop :=
  e = .returned (.tuple #[if f = 0 then .agg #[.string lo, .string hi] else .agg #[.string ⟨#[]⟩, .string ⟨#[]⟩], .int .i64 f]) ∧ Below w.heap.size w w'
set_option maxRecDepth 100000 in
set_option maxHeartbeats 4000000 in
theorem eHull_any (l h m k : ByteArray) (w : World) (hst : St w) (hl : l.size ≤ 800) (hh : h.size ≤ 800) (hm : m.size ≤ 800) (hk : k.size ≤ 800) :
    Calls Tryz.prog 24 #[.agg #[.string l, .string h], .agg #[.string m, .string k]] w (HullPost w (chk2 l h m k) (leastB l m) (greatB h k)) := by
  have hB0 := four_below w l h m k
  have hs := hB0.size
  obtain ⟨HP, HQ, HR, HS⟩ := four_facts w l h m k
  have CC := Lib.hid (checkAll_any l h m k _ _ (hst.next hB0) HS hl hh hm hk)
  have KF := Lib.hid (show M1 w (Four4 w l h m k) l h m k from ⟨hB0, HP, HQ, _, _, HR⟩)
  clear HP HQ HR HS
  unfold HullPost
  by_cases h0 : chk2 l h m k = 0
  · obtain ⟨kl, kh, km, kk⟩ := chk2_parts h0
    have CL := fun W g (hW : Below w.heap.size w W) (O : One W g m) => Lib.hid (least_one l m g W (hst.next hW) O hl hm kl km)
    have CG := fun W g (hW : Below w.heap.size w W) (O : One W g k) => Lib.hid (greatest_one h k g W (hst.next hW) O hh hk kh kk)
    generalize leastB l m = lo at *
    generalize greatB h k = hi at *
    rw [h0] at CC ⊢
    rw [if_pos rfl]
    clear hst h0 kl kh km kk
    unfold Four4 Two at *
    go_enter Tryz.func24, Tryz.ntmps24
    go_wp2_with fail
    refine (CC.out).mono ?_
    rintro e w1 ⟨rfl, hb1⟩
    have KK := Lib.hid (KF.out.step hb1)
    clear hb1 KF CC hB0 hs
    go_wp2_with fail
    refine wp_region_noPanic ?_
    refine wp_region_held_drew (S := fun X => Hid (M1 w X l h m k)) (by kernel_rfl) ?_ (fun hHeld => ?_)
    · exact Lib.hid (KK.out.step (Below.refl _ _).drew)
    clear KK
    generalize w1.drew = Wd at *
    refine wpAnyH_take (i := 0) (v := ?_) rfl (by kernel_rfl) (by kernel_rfl) (by kernel_rfl) (fun _ _ _ h => h) (Or.inl ⟨by rfl, ?_⟩) (by assumption) ?_
    rotate_left 1
    · (intro wq hSw; clear hSw; go_simp; (try with_reducible rfl))
    try simp only [Act.put, List.getElem_toArray, List.getElem_cons_zero, List.setIfInBounds_toArray, List.set_cons_zero, List.set_cons_succ]
    refine wpAnyH_take (i := 1) (v := .string l) rfl (by kernel_rfl) (by kernel_rfl) (by kernel_rfl) (fun _ _ _ h => h) (Or.inl ⟨by rfl, ?_⟩) (by assumption) ?_
    · (intro wq hSw; obtain ⟨-, a1, a2, -, -⟩ := hSw.out.2.1; obtain ⟨-, b1, b2, -, -⟩ := hSw.out.2.2.1; clear hSw; go_simp)
    try simp only [Act.put, List.getElem_toArray, List.getElem_cons_succ, List.getElem_cons_zero, List.setIfInBounds_toArray, List.set_cons_zero, List.set_cons_succ]
    refine wpAnyH_take (i := 2) (v := ?_) rfl (by kernel_rfl) (by kernel_rfl) (by kernel_rfl) (fun _ _ _ h => h) (Or.inl ⟨by rfl, ?_⟩) (by assumption) ?_
    rotate_left 1
    · (intro wq hSw; clear hSw; go_simp; (try with_reducible rfl))
    try simp only [Act.put, List.getElem_toArray, List.getElem_cons_succ, List.getElem_cons_zero, List.setIfInBounds_toArray, List.set_cons_zero, List.set_cons_succ]
    refine wpAnyH_take (i := 3) (v := .string m) rfl (by kernel_rfl) (by kernel_rfl) (by kernel_rfl) (fun _ _ _ h => h) (Or.inl ⟨by rfl, ?_⟩) (by assumption) ?_
    · (intro wq hSw; obtain ⟨-, a1, a2, -, -⟩ := hSw.out.2.1; obtain ⟨-, b1, b2, -, -⟩ := hSw.out.2.2.1; clear hSw; go_simp)
    try simp only [Act.put, List.getElem_toArray, List.getElem_cons_succ, List.getElem_cons_zero, List.setIfInBounds_toArray, List.set_cons_zero, List.set_cons_succ]
    refine wpAnyH_take (i := 6) (v := ?_) rfl (by kernel_rfl) (by kernel_rfl) (by kernel_rfl) (fun _ _ _ h => h) (Or.inl ⟨by rfl, ?_⟩) (by assumption) ?_
    rotate_left 1
    · (intro wq hSw; clear hSw; go_simp; (try with_reducible rfl))
    try simp only [Act.put, List.getElem_toArray, List.getElem_cons_succ, List.getElem_cons_zero, List.setIfInBounds_toArray, List.set_cons_zero, List.set_cons_succ]
    refine wpAnyH_take (i := 7) (v := .string h) rfl (by kernel_rfl) (by kernel_rfl) (by kernel_rfl) (fun _ _ _ h => h) (Or.inl ⟨by rfl, ?_⟩) (by assumption) ?_
    · (intro wq hSw; obtain ⟨-, a1, a2, -, -⟩ := hSw.out.2.1; obtain ⟨-, b1, b2, -, -⟩ := hSw.out.2.2.1; clear hSw; go_simp)
    try simp only [Act.put, List.getElem_toArray, List.getElem_cons_succ, List.getElem_cons_zero, List.setIfInBounds_toArray, List.set_cons_zero, List.set_cons_succ]
    refine wpAnyH_take (i := 8) (v := ?_) rfl (by kernel_rfl) (by kernel_rfl) (by kernel_rfl) (fun _ _ _ h => h) (Or.inl ⟨by rfl, ?_⟩) (by assumption) ?_
    rotate_left 1
    · (intro wq hSw; clear hSw; go_simp; (try with_reducible rfl))
    try simp only [Act.put, List.getElem_toArray, List.getElem_cons_succ, List.getElem_cons_zero, List.setIfInBounds_toArray, List.set_cons_zero, List.set_cons_succ]
    refine wpAnyH_take (i := 9) (v := .string k) rfl (by kernel_rfl) (by kernel_rfl) (by kernel_rfl) (fun _ _ _ h => h) (Or.inl ⟨by rfl, ?_⟩) (by assumption) ?_
    · (intro wq hSw; obtain ⟨-, a1, a2, -, -⟩ := hSw.out.2.1; obtain ⟨-, b1, b2, -, -⟩ := hSw.out.2.2.1; clear hSw; go_simp)
    try simp only [Act.put, List.getElem_toArray, List.getElem_cons_succ, List.getElem_cons_zero, List.setIfInBounds_toArray, List.set_cons_zero, List.set_cons_succ]
    refine wpAnyH_ready (rs := [4, 10]) (by kernel_rfl) (by simp) ?_
    refine AllReadyH.cons rfl (fun K hK => ?_) ?_
    · have hH := hHeld
      clear hHeld
      go_simp
      have O1 := Lib.hid (one_new Wd m 22)
      refine hK.out _ _ ?_ (fun hHeld => ?_)
      · exact Lib.hid (hH.out.step ((Below.refl _ _).alloc (Nat.le_refl _) (.cells #[.string m] 22)))
      clear hK K hH
      try simp only [Act.put, List.getElem_toArray, List.getElem_cons_succ, List.getElem_cons_zero, List.setIfInBounds_toArray, List.set_cons_zero, List.set_cons_succ]
      refine wpAnyH_ready (rs := [5, 10]) (by kernel_rfl) (by simp) ?_
      refine AllReadyH.cons rfl (fun K hK => ?_) ?_
      · have hH := hHeld
        clear hHeld
        go_simp
        (with_reducible refine ((CL _ _ (M1.bel hH.out) O1.out).out).mono ?_)
        rintro e wn ⟨rfl, hb⟩
        go_simp
        refine hK.out _ _ ?_ (fun hHeld => ?_)
        · exact Lib.hid (hH.out.step hb)
        clear hK K hH hb
        try simp only [Act.put, List.getElem_toArray, List.getElem_cons_succ, List.getElem_cons_zero, List.setIfInBounds_toArray, List.set_cons_zero, List.set_cons_succ]
        refine wpAnyH_ready (rs := [10]) (by kernel_rfl) (by simp) ?_
        refine AllReadyH.cons rfl (fun K hK => ?_) AllReadyH.nil
        have hH := hHeld
        clear hHeld
        go_simp
        have O2 := Lib.hid (one_new wn k 22)
        refine hK.out _ _ ?_ (fun hHeld => ?_)
        · exact Lib.hid (hH.out.step ((Below.refl _ _).alloc (Nat.le_refl _) (.cells #[.string k] 22)))
        clear hK K hH
        try simp only [Act.put, List.getElem_toArray, List.getElem_cons_succ, List.getElem_cons_zero, List.setIfInBounds_toArray, List.set_cons_zero, List.set_cons_succ]
        refine wpAnyH_ready (rs := [11]) (by kernel_rfl) (by simp) ?_
        refine AllReadyH.cons rfl (fun K hK => ?_) AllReadyH.nil
        have hH := hHeld
        clear hHeld
        go_simp
        (with_reducible refine ((CG _ _ (M1.bel hH.out) O2.out).out).mono ?_)
        rintro e wn ⟨rfl, hb⟩
        go_simp
        refine hK.out _ _ ?_ (fun hHeld => ?_)
        · exact Lib.hid (hH.out.step hb)
        clear hK K hH hb
        try simp only [Act.put, List.getElem_toArray, List.getElem_cons_succ, List.getElem_cons_zero, List.setIfInBounds_toArray, List.set_cons_zero, List.set_cons_succ]
        refine wpAnyH_take (i := 12) (v := ?_) rfl (by kernel_rfl) (by kernel_rfl) (by kernel_rfl) (fun _ _ _ h => h) (Or.inl ⟨by rfl, ?_⟩) (by assumption) ?_
        rotate_left 1
        · (intro wq hSw; clear hSw; go_simp; (try with_reducible rfl))
        try simp only [Act.put, List.getElem_toArray, List.getElem_cons_succ, List.getElem_cons_zero, List.setIfInBounds_toArray, List.set_cons_zero, List.set_cons_succ]
        refine wpAnyH_ready (rs := [13]) (by kernel_rfl) (by simp) ?_
        refine AllReadyH.cons rfl (fun K hK => ?_) AllReadyH.nil
        have hH := hHeld
        clear hHeld
        obtain ⟨x, y, p0, p1, p2, p3, p4⟩ := hH.out.2.2.2
        have hfin := (hH.out.1.setCell (p := ⟨w.heap.size + 1 + 1, 0, none⟩) (by show w.heap.size ≤ w.heap.size + 1 + 1; omega) (.string lo)).setCell (p := ⟨w.heap.size + 1 + 1, 1, none⟩) (by show w.heap.size ≤ w.heap.size + 1 + 1; omega) (.string hi)
        go_simp
        refine hK.out _ _ ?_ (fun hHeld => ?_)
        · exact Lib.hid (M1.put hH.out lo hi)
        clear hK K hH
        refine wpAnyH_take (i := 14) (v := ?_) rfl (by kernel_rfl) (by kernel_rfl) (by kernel_rfl) (fun _ _ _ h => h) (Or.inl ⟨by rfl, ?_⟩) (by assumption) ?_
        rotate_left 1
        · (intro wq hSw; clear hSw; go_simp; (try with_reducible rfl))
        try simp only [Act.put, List.getElem_toArray, List.getElem_cons_succ, List.getElem_cons_zero, List.setIfInBounds_toArray, List.set_cons_zero, List.set_cons_succ]
        clear hHeld
        refine wpAnyH_done (by kernel_rfl) ?_ _
        refine NoPanic.normal ?_
        go_wp2_with fail
        exact bodyPost_ret (v := .tuple #[.agg #[.string lo, .string hi], .int .i64 0]) (by simp [results, Tryz.results24, go_sem, p1, p2]) rfl ⟨rfl, hfin⟩
      · refine AllReadyH.cons rfl (fun K hK => ?_) AllReadyH.nil
        have hH := hHeld
        clear hHeld
        go_simp
        have O2 := Lib.hid (show One ((Wd.alloc (.cells #[.string m] 22)).alloc (.cells #[.string k] 22)) (Wd.heap.size + 1) k by have h9 := one_new (Wd.alloc (.cells #[.string m] 22)) k 22; rw [show (Wd.alloc (.cells #[.string m] 22)).heap.size = Wd.heap.size + 1 by simp] at h9; exact h9)
        have O1 := Lib.hid (O1.out.below O1.out.1 ((Below.refl _ _).alloc (Nat.le_refl _) (.cells #[.string k] 22)))
        refine hK.out _ _ ?_ (fun hHeld => ?_)
        · exact Lib.hid (hH.out.step ((Below.refl _ _).alloc (Nat.le_refl _) (.cells #[.string k] 22)))
        clear hK K hH
        try simp only [Act.put, List.getElem_toArray, List.getElem_cons_succ, List.getElem_cons_zero, List.setIfInBounds_toArray, List.set_cons_zero, List.set_cons_succ]
        refine wpAnyH_ready (rs := [5]) (by kernel_rfl) (by simp) ?_
        refine AllReadyH.cons rfl (fun K hK => ?_) AllReadyH.nil
        have hH := hHeld
        clear hHeld
        go_simp
        (with_reducible refine ((CL _ _ (M1.bel hH.out) O1.out).out).mono ?_)
        rintro e wn ⟨rfl, hb⟩
        have O2 := Lib.hid (O2.out.below O2.out.1 hb)
        go_simp
        refine hK.out _ _ ?_ (fun hHeld => ?_)
        · exact Lib.hid (hH.out.step hb)
        clear hK K hH hb
        try simp only [Act.put, List.getElem_toArray, List.getElem_cons_succ, List.getElem_cons_zero, List.setIfInBounds_toArray, List.set_cons_zero, List.set_cons_succ]
        refine wpAnyH_ready (rs := [11]) (by kernel_rfl) (by simp) ?_
        refine AllReadyH.cons rfl (fun K hK => ?_) AllReadyH.nil
        have hH := hHeld
        clear hHeld
        go_simp
        (with_reducible refine ((CG _ _ (M1.bel hH.out) O2.out).out).mono ?_)
        rintro e wn ⟨rfl, hb⟩
        go_simp
        refine hK.out _ _ ?_ (fun hHeld => ?_)
        · exact Lib.hid (hH.out.step hb)
        clear hK K hH hb
        try simp only [Act.put, List.getElem_toArray, List.getElem_cons_succ, List.getElem_cons_zero, List.setIfInBounds_toArray, List.set_cons_zero, List.set_cons_succ]
        refine wpAnyH_take (i := 12) (v := ?_) rfl (by kernel_rfl) (by kernel_rfl) (by kernel_rfl) (fun _ _ _ h => h) (Or.inl ⟨by rfl, ?_⟩) (by assumption) ?_
        rotate_left 1
        · (intro wq hSw; clear hSw; go_simp; (try with_reducible rfl))
        try simp only [Act.put, List.getElem_toArray, List.getElem_cons_succ, List.getElem_cons_zero, List.setIfInBounds_toArray, List.set_cons_zero, List.set_cons_succ]
        refine wpAnyH_ready (rs := [13]) (by kernel_rfl) (by simp) ?_
        refine AllReadyH.cons rfl (fun K hK => ?_) AllReadyH.nil
        have hH := hHeld
        clear hHeld
        obtain ⟨x, y, p0, p1, p2, p3, p4⟩ := hH.out.2.2.2
        have hfin := (hH.out.1.setCell (p := ⟨w.heap.size + 1 + 1, 0, none⟩) (by show w.heap.size ≤ w.heap.size + 1 + 1; omega) (.string lo)).setCell (p := ⟨w.heap.size + 1 + 1, 1, none⟩) (by show w.heap.size ≤ w.heap.size + 1 + 1; omega) (.string hi)
        go_simp
        refine hK.out _ _ ?_ (fun hHeld => ?_)
        · exact Lib.hid (M1.put hH.out lo hi)
        clear hK K hH
        refine wpAnyH_take (i := 14) (v := ?_) rfl (by kernel_rfl) (by kernel_rfl) (by kernel_rfl) (fun _ _ _ h => h) (Or.inl ⟨by rfl, ?_⟩) (by assumption) ?_
        rotate_left 1
        · (intro wq hSw; clear hSw; go_simp; (try with_reducible rfl))
        try simp only [Act.put, List.getElem_toArray, List.getElem_cons_succ, List.getElem_cons_zero, List.setIfInBounds_toArray, List.set_cons_zero, List.set_cons_succ]
        clear hHeld
        refine wpAnyH_done (by kernel_rfl) ?_ _
        refine NoPanic.normal ?_
        go_wp2_with fail
        exact bodyPost_ret (v := .tuple #[.agg #[.string lo, .string hi], .int .i64 0]) (by simp [results, Tryz.results24, go_sem, p1, p2]) rfl ⟨rfl, hfin⟩
    · refine AllReadyH.cons rfl (fun K hK => ?_) AllReadyH.nil
      have hH := hHeld
      clear hHeld
      go_simp
      have O2 := Lib.hid (one_new Wd k 22)
      refine hK.out _ _ ?_ (fun hHeld => ?_)
      · exact Lib.hid (hH.out.step ((Below.refl _ _).alloc (Nat.le_refl _) (.cells #[.string k] 22)))
      clear hK K hH
      try simp only [Act.put, List.getElem_toArray, List.getElem_cons_succ, List.getElem_cons_zero, List.setIfInBounds_toArray, List.set_cons_zero, List.set_cons_succ]
      refine wpAnyH_ready (rs := [4]) (by kernel_rfl) (by simp) ?_
      refine AllReadyH.cons rfl (fun K hK => ?_) AllReadyH.nil
      have hH := hHeld
      clear hHeld
      go_simp
      have O1 := Lib.hid (show One ((Wd.alloc (.cells #[.string k] 22)).alloc (.cells #[.string m] 22)) (Wd.heap.size + 1) m by have h9 := one_new (Wd.alloc (.cells #[.string k] 22)) m 22; rw [show (Wd.alloc (.cells #[.string k] 22)).heap.size = Wd.heap.size + 1 by simp] at h9; exact h9)
      have O2 := Lib.hid (O2.out.below O2.out.1 ((Below.refl _ _).alloc (Nat.le_refl _) (.cells #[.string m] 22)))
      refine hK.out _ _ ?_ (fun hHeld => ?_)
      · exact Lib.hid (hH.out.step ((Below.refl _ _).alloc (Nat.le_refl _) (.cells #[.string m] 22)))
      clear hK K hH
      try simp only [Act.put, List.getElem_toArray, List.getElem_cons_succ, List.getElem_cons_zero, List.setIfInBounds_toArray, List.set_cons_zero, List.set_cons_succ]
      refine wpAnyH_ready (rs := [5]) (by kernel_rfl) (by simp) ?_
      refine AllReadyH.cons rfl (fun K hK => ?_) AllReadyH.nil
      have hH := hHeld
      clear hHeld
      go_simp
      (with_reducible refine ((CL _ _ (M1.bel hH.out) O1.out).out).mono ?_)
      rintro e wn ⟨rfl, hb⟩
      have O2 := Lib.hid (O2.out.below O2.out.1 hb)
      go_simp
      refine hK.out _ _ ?_ (fun hHeld => ?_)
      · exact Lib.hid (hH.out.step hb)
      clear hK K hH hb
      try simp only [Act.put, List.getElem_toArray, List.getElem_cons_succ, List.getElem_cons_zero, List.setIfInBounds_toArray, List.set_cons_zero, List.set_cons_succ]
      refine wpAnyH_ready (rs := [11]) (by kernel_rfl) (by simp) ?_
      refine AllReadyH.cons rfl (fun K hK => ?_) AllReadyH.nil
      have hH := hHeld
      clear hHeld
      go_simp
      (with_reducible refine ((CG _ _ (M1.bel hH.out) O2.out).out).mono ?_)
      rintro e wn ⟨rfl, hb⟩
      go_simp
      refine hK.out _ _ ?_ (fun hHeld => ?_)
      · exact Lib.hid (hH.out.step hb)
      clear hK K hH hb
      try simp only [Act.put, List.getElem_toArray, List.getElem_cons_succ, List.getElem_cons_zero, List.setIfInBounds_toArray, List.set_cons_zero, List.set_cons_succ]
      refine wpAnyH_take (i := 12) (v := ?_) rfl (by kernel_rfl) (by kernel_rfl) (by kernel_rfl) (fun _ _ _ h => h) (Or.inl ⟨by rfl, ?_⟩) (by assumption) ?_
      rotate_left 1
      · (intro wq hSw; clear hSw; go_simp; (try with_reducible rfl))
      try simp only [Act.put, List.getElem_toArray, List.getElem_cons_succ, List.getElem_cons_zero, List.setIfInBounds_toArray, List.set_cons_zero, List.set_cons_succ]
      refine wpAnyH_ready (rs := [13]) (by kernel_rfl) (by simp) ?_
      refine AllReadyH.cons rfl (fun K hK => ?_) AllReadyH.nil
      have hH := hHeld
      clear hHeld
      obtain ⟨x, y, p0, p1, p2, p3, p4⟩ := hH.out.2.2.2
      have hfin := (hH.out.1.setCell (p := ⟨w.heap.size + 1 + 1, 0, none⟩) (by show w.heap.size ≤ w.heap.size + 1 + 1; omega) (.string lo)).setCell (p := ⟨w.heap.size + 1 + 1, 1, none⟩) (by show w.heap.size ≤ w.heap.size + 1 + 1; omega) (.string hi)
      go_simp
      refine hK.out _ _ ?_ (fun hHeld => ?_)
      · exact Lib.hid (M1.put hH.out lo hi)
      clear hK K hH
      refine wpAnyH_take (i := 14) (v := ?_) rfl (by kernel_rfl) (by kernel_rfl) (by kernel_rfl) (fun _ _ _ h => h) (Or.inl ⟨by rfl, ?_⟩) (by assumption) ?_
      rotate_left 1
      · (intro wq hSw; clear hSw; go_simp; (try with_reducible rfl))
      try simp only [Act.put, List.getElem_toArray, List.getElem_cons_succ, List.getElem_cons_zero, List.setIfInBounds_toArray, List.set_cons_zero, List.set_cons_succ]
      clear hHeld
      refine wpAnyH_done (by kernel_rfl) ?_ _
      refine NoPanic.normal ?_
      go_wp2_with fail
      exact bodyPost_ret (v := .tuple #[.agg #[.string lo, .string hi], .int .i64 0]) (by simp [results, Tryz.results24, go_sem, p1, p2]) rfl ⟨rfl, hfin⟩
  · have hne : (chk2 l h m k != 0) = true := by simpa using h0
    rw [if_neg h0]
    generalize chk2 l h m k = f at *
    clear h0 hst
    unfold Four4 Two at *
    go_enter Tryz.func24, Tryz.ntmps24
    go_wp2_with fail
    refine (CC.out).mono ?_
    rintro e w1 ⟨rfl, hb1⟩
    have KK := Lib.hid (KF.out.step hb1)
    clear hb1 KF CC hB0 hs
    obtain ⟨x, y, p0, p1, p2, p3, p4⟩ := KK.out.2.2.2
    go_wp2
    have hfin := (KK.out.1.setCell (p := ⟨w.heap.size + 1 + 1, 0, none⟩) (by show w.heap.size ≤ w.heap.size + 1 + 1; omega) (.string ⟨#[]⟩)).setCell (p := ⟨w.heap.size + 1 + 1, 1, none⟩) (by show w.heap.size ≤ w.heap.size + 1 + 1; omega) (.string ⟨#[]⟩)
    exact bodyPost_ret (v := .tuple #[.agg #[.string ⟨#[]⟩, .string ⟨#[]⟩], .int .i64 f]) (by simp [results, Tryz.results24, go_sem, p1, p2]) rfl ⟨rfl, hfin⟩
/-- Both enclosures, the result and the one being made, in variables. -/
def C0 (w W : World) (l h m k x y : ByteArray) : Prop := Below w.heap.size w W ∧ Pair W w.heap.size l h ∧ Pair W (w.heap.size + 1) m k ∧ Pair W (w.heap.size + 1 + 1) ⟨#[]⟩ ⟨#[]⟩ ∧ Pair W (w.heap.size + 1 + 1 + 1) x y
theorem C0.step {w W W' : World} {l h m k x y : ByteArray} (z : C0 w W l h m k x y) (hb : Below W.heap.size W W') : C0 w W' l h m k x y := by
  obtain ⟨h1, h2, h3, h4, h5⟩ := z
  exact ⟨below_nx h1 hb, h2.below hb, h3.below hb, h4.below hb, h5.below hb⟩
theorem Pair.apart {W : World} {g k : Nat} {x y : ByteArray} (h : Pair W g x y) (hk : g ≠ k) (i : Nat) (v : Value) : Pair (W.setCell ⟨k, i, none⟩ v) g x y := by
  obtain ⟨a0, a1, a2, a3, a4⟩ := h
  exact ⟨by simpa using a0, cell_ne a1 (blk_ne (Ne.symm hk)), cell_ne a2 (blk_ne (Ne.symm hk)), by simpa using a3, by simpa using a4⟩
theorem Pair.put0 {W : World} {g : Nat} {x y : ByteArray} (h : Pair W g x y) (t : ByteArray) : Pair (W.setCell ⟨g, 0, none⟩ (.string t)) g t y := by
  obtain ⟨a0, a1, a2, a3, a4⟩ := h
  exact ⟨by simpa using a0, by simp [go_sem, a1], cell_ne a2 (off_ne (by decide)), by simpa using a3, by simpa using a4⟩
theorem Pair.put1 {W : World} {g : Nat} {x y : ByteArray} (h : Pair W g x y) (t : ByteArray) : Pair (W.setCell ⟨g, 1, none⟩ (.string t)) g x t := by
  obtain ⟨a0, a1, a2, a3, a4⟩ := h
  exact ⟨by simpa using a0, cell_ne a1 (off_ne (by decide)), by simp [go_sem, a2], by simpa using a3, by simpa using a4⟩
theorem C0.put0 {w W : World} {l h m k x y : ByteArray} (z : C0 w W l h m k x y) (t : ByteArray) : C0 w (W.setCell ⟨w.heap.size + 1 + 1 + 1, 0, none⟩ (.string t)) l h m k t y := by
  obtain ⟨h1, h2, h3, h4, h5⟩ := z
  exact ⟨h1.setCell (p := ⟨w.heap.size + 1 + 1 + 1, 0, none⟩) (by show w.heap.size ≤ w.heap.size + 1 + 1 + 1; omega) _, h2.apart (by omega) _ _, h3.apart (by omega) _ _, h4.apart (by omega) _ _, h5.put0 t⟩
theorem C0.put1 {w W : World} {l h m k x y : ByteArray} (z : C0 w W l h m k x y) (t : ByteArray) : C0 w (W.setCell ⟨w.heap.size + 1 + 1 + 1, 1, none⟩ (.string t)) l h m k x t := by
  obtain ⟨h1, h2, h3, h4, h5⟩ := z
  exact ⟨h1.setCell (p := ⟨w.heap.size + 1 + 1 + 1, 1, none⟩) (by show w.heap.size ≤ w.heap.size + 1 + 1 + 1; omega) _, h2.apart (by omega) _ _, h3.apart (by omega) _ _, h4.apart (by omega) _ _, h5.put1 t⟩
theorem com_new (w : World) (l h m k : ByteArray) : C0 w (((((w.alloc (.cells #[.string l, .string h] 24)).alloc (.cells #[.string m, .string k] 24)).alloc (.cells #[.string ⟨#[]⟩, .string ⟨#[]⟩] 24)).alloc (.cells #[.string l, .string h] 24))) l h m k l h := by
  have h1 := (two_below w l h m k)
  unfold Two at h1
  obtain ⟨hp, hq⟩ := pair_next w l h m k 24 24
  have hr := pair_new ((w.alloc (.cells #[.string l, .string h] 24)).alloc (.cells #[.string m, .string k] 24)) ⟨#[]⟩ ⟨#[]⟩ 24
  have hs := pair_new (((w.alloc (.cells #[.string l, .string h] 24)).alloc (.cells #[.string m, .string k] 24)).alloc (.cells #[.string ⟨#[]⟩, .string ⟨#[]⟩] 24)) l h 24
  rw [show ((w.alloc (.cells #[.string l, .string h] 24)).alloc (.cells #[.string m, .string k] 24)).heap.size = w.heap.size + 1 + 1 by simp] at hr
  rw [show (((w.alloc (.cells #[.string l, .string h] 24)).alloc (.cells #[.string m, .string k] 24)).alloc (.cells #[.string ⟨#[]⟩, .string ⟨#[]⟩] 24)).heap.size = w.heap.size + 1 + 1 + 1 by simp] at hs
  have b1 := fun (W : World) (o : Obj) => (Below.refl W.heap.size W).alloc (Nat.le_refl _) o
  exact ⟨(h1.alloc h1.size _).alloc (h1.alloc h1.size _).size _, (hp.below (b1 _ _)).below (b1 _ _), (hq.below (b1 _ _)).below (b1 _ _), hr.below (b1 _ _), hs⟩
def ComPost (w : World) (lo hi : ByteArray) (e : Ending) (w' : World) : Prop :=
  e = .returned (.tuple #[if ¬ Fr.rat hi.data.toList < Fr.rat lo.data.toList then .agg #[.string lo, .string hi] else .agg #[.string ⟨#[]⟩, .string ⟨#[]⟩], .bool (decide (¬ Fr.rat hi.data.toList < Fr.rat lo.data.toList))]) ∧ Below w.heap.size w w'
set_option maxRecDepth 100000 in
set_option maxHeartbeats 4000000 in
theorem rCommon_any (l h m k : ByteArray) (w : World) (hl : l.size ≤ 800) (hh : h.size ≤ 800) (hm : m.size ≤ 800) (hk : k.size ≤ 800) (kl : Fr.chk l.data.toList = 0) (kh : Fr.chk h.data.toList = 0) (km : Fr.chk m.data.toList = 0) (kk : Fr.chk k.data.toList = 0) :
    Calls Tryz.prog 60 #[.agg #[.string l, .string h], .agg #[.string m, .string k]] w (ComPost w (greatB l m) (leastB h k)) := by
  unfold ComPost
  by_cases h1 : Fr.rat l.data.toList < Fr.rat m.data.toList
  · rw [show greatB l m = m from if_pos h1]
    obtain ⟨c1, hc1, C1⟩ := rOrder_more h1 hm hl km kl
    by_cases h2 : Fr.rat k.data.toList < Fr.rat h.data.toList
    · rw [show leastB h k = k from if_pos h2]
      obtain ⟨c2, hc2, C2⟩ := rOrder_less h2 hk hh kk kh
      by_cases h3 : Fr.rat k.data.toList < Fr.rat m.data.toList
      · rw [if_neg (fun h9 => h9 h3), decide_eq_false (fun h9 => h9 h3)]
        obtain ⟨c3, hc3, C3⟩ := rOrder_more h3 hm hk km kk
        clear h1 h2 h3 hl hh hm hk kl kh km kk
        have KN := Lib.hid (com_new w l h m k)
        go_enter Tryz.func60, Tryz.ntmps60
        go_wp2_with fail
        refine ((C1 _).out).mono ?_
        rintro e w1 ⟨rfl, hb1⟩
        have K1 := Lib.hid (KN.out.step hb1)
        clear hb1 KN C1
        obtain ⟨hB, ⟨p0, p1, p2, p3, p4⟩, ⟨q0, q1, q2, q3, q4⟩, ⟨r0, r1, r2, r3, r4⟩, ⟨s0, s1, s2, s3, s4⟩⟩ := K1.out
        go_wp2_with fail
        clear hB p0 p1 p2 p3 p4 q0 q1 q2 q3 q4 r0 r1 r2 r3 r4 s0 s1 s2 s3 s4
        refine ((C2 _).out).mono ?_
        rintro e w2 ⟨rfl, hb2⟩
        have K2 := Lib.hid ((K1.out.put0 m).step hb2)
        clear hb2 K1 C2
        obtain ⟨hB, ⟨p0, p1, p2, p3, p4⟩, ⟨q0, q1, q2, q3, q4⟩, ⟨r0, r1, r2, r3, r4⟩, ⟨s0, s1, s2, s3, s4⟩⟩ := K2.out
        go_wp2_with fail
        clear hB p0 p1 p2 p3 p4 q0 q1 q2 q3 q4 r0 r1 r2 r3 r4 s0 s1 s2 s3 s4
        refine ((C3 _).out).mono ?_
        rintro e w3 ⟨rfl, hb3⟩
        have K3 := Lib.hid ((K2.out.put1 k).step hb3)
        clear hb3 K2 C3
        obtain ⟨hB, ⟨p0, p1, p2, p3, p4⟩, ⟨q0, q1, q2, q3, q4⟩, ⟨r0, r1, r2, r3, r4⟩, ⟨s0, s1, s2, s3, s4⟩⟩ := K3.out
        go_wp2
        have hfin := (hB.setCell (p := ⟨w.heap.size + 1 + 1, 0, none⟩) (by show w.heap.size ≤ w.heap.size + 1 + 1; omega) (.string ⟨#[]⟩)).setCell (p := ⟨w.heap.size + 1 + 1, 1, none⟩) (by show w.heap.size ≤ w.heap.size + 1 + 1; omega) (.string ⟨#[]⟩)
        exact bodyPost_ret (v := .tuple #[.agg #[.string ⟨#[]⟩, .string ⟨#[]⟩], .bool false]) (by simp [results, Tryz.results60, go_sem, r1, r2]) rfl ⟨rfl, hfin⟩
      · rw [if_pos h3, decide_eq_true h3]
        obtain ⟨c3, hc3, C3⟩ := rOrder_notMore h3 hm hk km kk
        clear h1 h2 h3 hl hh hm hk kl kh km kk
        have KN := Lib.hid (com_new w l h m k)
        go_enter Tryz.func60, Tryz.ntmps60
        go_wp2_with fail
        refine ((C1 _).out).mono ?_
        rintro e w1 ⟨rfl, hb1⟩
        have K1 := Lib.hid (KN.out.step hb1)
        clear hb1 KN C1
        obtain ⟨hB, ⟨p0, p1, p2, p3, p4⟩, ⟨q0, q1, q2, q3, q4⟩, ⟨r0, r1, r2, r3, r4⟩, ⟨s0, s1, s2, s3, s4⟩⟩ := K1.out
        go_wp2_with fail
        clear hB p0 p1 p2 p3 p4 q0 q1 q2 q3 q4 r0 r1 r2 r3 r4 s0 s1 s2 s3 s4
        refine ((C2 _).out).mono ?_
        rintro e w2 ⟨rfl, hb2⟩
        have K2 := Lib.hid ((K1.out.put0 m).step hb2)
        clear hb2 K1 C2
        obtain ⟨hB, ⟨p0, p1, p2, p3, p4⟩, ⟨q0, q1, q2, q3, q4⟩, ⟨r0, r1, r2, r3, r4⟩, ⟨s0, s1, s2, s3, s4⟩⟩ := K2.out
        go_wp2_with fail
        clear hB p0 p1 p2 p3 p4 q0 q1 q2 q3 q4 r0 r1 r2 r3 r4 s0 s1 s2 s3 s4
        refine ((C3 _).out).mono ?_
        rintro e w3 ⟨rfl, hb3⟩
        have K3 := Lib.hid ((K2.out.put1 k).step hb3)
        clear hb3 K2 C3
        obtain ⟨hB, ⟨p0, p1, p2, p3, p4⟩, ⟨q0, q1, q2, q3, q4⟩, ⟨r0, r1, r2, r3, r4⟩, ⟨s0, s1, s2, s3, s4⟩⟩ := K3.out
        go_wp2
        have hfin := (hB.setCell (p := ⟨w.heap.size + 1 + 1, 0, none⟩) (by show w.heap.size ≤ w.heap.size + 1 + 1; omega) (.string m)).setCell (p := ⟨w.heap.size + 1 + 1, 1, none⟩) (by show w.heap.size ≤ w.heap.size + 1 + 1; omega) (.string k)
        exact bodyPost_ret (v := .tuple #[.agg #[.string m, .string k], .bool true]) (by simp [results, Tryz.results60, go_sem, r1, r2]) rfl ⟨rfl, hfin⟩
    · rw [show leastB h k = h from if_neg h2]
      obtain ⟨c2, hc2, C2⟩ := rOrder_notLess h2 hk hh kk kh
      by_cases h3 : Fr.rat h.data.toList < Fr.rat m.data.toList
      · rw [if_neg (fun h9 => h9 h3), decide_eq_false (fun h9 => h9 h3)]
        obtain ⟨c3, hc3, C3⟩ := rOrder_more h3 hm hh km kh
        clear h1 h2 h3 hl hh hm hk kl kh km kk
        have KN := Lib.hid (com_new w l h m k)
        go_enter Tryz.func60, Tryz.ntmps60
        go_wp2_with fail
        refine ((C1 _).out).mono ?_
        rintro e w1 ⟨rfl, hb1⟩
        have K1 := Lib.hid (KN.out.step hb1)
        clear hb1 KN C1
        obtain ⟨hB, ⟨p0, p1, p2, p3, p4⟩, ⟨q0, q1, q2, q3, q4⟩, ⟨r0, r1, r2, r3, r4⟩, ⟨s0, s1, s2, s3, s4⟩⟩ := K1.out
        go_wp2_with fail
        clear hB p0 p1 p2 p3 p4 q0 q1 q2 q3 q4 r0 r1 r2 r3 r4 s0 s1 s2 s3 s4
        refine ((C2 _).out).mono ?_
        rintro e w2 ⟨rfl, hb2⟩
        have K2 := Lib.hid ((K1.out.put0 m).step hb2)
        clear hb2 K1 C2
        obtain ⟨hB, ⟨p0, p1, p2, p3, p4⟩, ⟨q0, q1, q2, q3, q4⟩, ⟨r0, r1, r2, r3, r4⟩, ⟨s0, s1, s2, s3, s4⟩⟩ := K2.out
        go_wp2_with fail
        clear hB p0 p1 p2 p3 p4 q0 q1 q2 q3 q4 r0 r1 r2 r3 r4 s0 s1 s2 s3 s4
        refine ((C3 _).out).mono ?_
        rintro e w3 ⟨rfl, hb3⟩
        have K3 := Lib.hid ((K2.out).step hb3)
        clear hb3 K2 C3
        obtain ⟨hB, ⟨p0, p1, p2, p3, p4⟩, ⟨q0, q1, q2, q3, q4⟩, ⟨r0, r1, r2, r3, r4⟩, ⟨s0, s1, s2, s3, s4⟩⟩ := K3.out
        go_wp2
        have hfin := (hB.setCell (p := ⟨w.heap.size + 1 + 1, 0, none⟩) (by show w.heap.size ≤ w.heap.size + 1 + 1; omega) (.string ⟨#[]⟩)).setCell (p := ⟨w.heap.size + 1 + 1, 1, none⟩) (by show w.heap.size ≤ w.heap.size + 1 + 1; omega) (.string ⟨#[]⟩)
        exact bodyPost_ret (v := .tuple #[.agg #[.string ⟨#[]⟩, .string ⟨#[]⟩], .bool false]) (by simp [results, Tryz.results60, go_sem, r1, r2]) rfl ⟨rfl, hfin⟩
      · rw [if_pos h3, decide_eq_true h3]
        obtain ⟨c3, hc3, C3⟩ := rOrder_notMore h3 hm hh km kh
        clear h1 h2 h3 hl hh hm hk kl kh km kk
        have KN := Lib.hid (com_new w l h m k)
        go_enter Tryz.func60, Tryz.ntmps60
        go_wp2_with fail
        refine ((C1 _).out).mono ?_
        rintro e w1 ⟨rfl, hb1⟩
        have K1 := Lib.hid (KN.out.step hb1)
        clear hb1 KN C1
        obtain ⟨hB, ⟨p0, p1, p2, p3, p4⟩, ⟨q0, q1, q2, q3, q4⟩, ⟨r0, r1, r2, r3, r4⟩, ⟨s0, s1, s2, s3, s4⟩⟩ := K1.out
        go_wp2_with fail
        clear hB p0 p1 p2 p3 p4 q0 q1 q2 q3 q4 r0 r1 r2 r3 r4 s0 s1 s2 s3 s4
        refine ((C2 _).out).mono ?_
        rintro e w2 ⟨rfl, hb2⟩
        have K2 := Lib.hid ((K1.out.put0 m).step hb2)
        clear hb2 K1 C2
        obtain ⟨hB, ⟨p0, p1, p2, p3, p4⟩, ⟨q0, q1, q2, q3, q4⟩, ⟨r0, r1, r2, r3, r4⟩, ⟨s0, s1, s2, s3, s4⟩⟩ := K2.out
        go_wp2_with fail
        clear hB p0 p1 p2 p3 p4 q0 q1 q2 q3 q4 r0 r1 r2 r3 r4 s0 s1 s2 s3 s4
        refine ((C3 _).out).mono ?_
        rintro e w3 ⟨rfl, hb3⟩
        have K3 := Lib.hid ((K2.out).step hb3)
        clear hb3 K2 C3
        obtain ⟨hB, ⟨p0, p1, p2, p3, p4⟩, ⟨q0, q1, q2, q3, q4⟩, ⟨r0, r1, r2, r3, r4⟩, ⟨s0, s1, s2, s3, s4⟩⟩ := K3.out
        go_wp2
        have hfin := (hB.setCell (p := ⟨w.heap.size + 1 + 1, 0, none⟩) (by show w.heap.size ≤ w.heap.size + 1 + 1; omega) (.string m)).setCell (p := ⟨w.heap.size + 1 + 1, 1, none⟩) (by show w.heap.size ≤ w.heap.size + 1 + 1; omega) (.string h)
        exact bodyPost_ret (v := .tuple #[.agg #[.string m, .string h], .bool true]) (by simp [results, Tryz.results60, go_sem, r1, r2]) rfl ⟨rfl, hfin⟩
  · rw [show greatB l m = l from if_neg h1]
    obtain ⟨c1, hc1, C1⟩ := rOrder_notMore h1 hm hl km kl
    by_cases h2 : Fr.rat k.data.toList < Fr.rat h.data.toList
    · rw [show leastB h k = k from if_pos h2]
      obtain ⟨c2, hc2, C2⟩ := rOrder_less h2 hk hh kk kh
      by_cases h3 : Fr.rat k.data.toList < Fr.rat l.data.toList
      · rw [if_neg (fun h9 => h9 h3), decide_eq_false (fun h9 => h9 h3)]
        obtain ⟨c3, hc3, C3⟩ := rOrder_more h3 hl hk kl kk
        clear h1 h2 h3 hl hh hm hk kl kh km kk
        have KN := Lib.hid (com_new w l h m k)
        go_enter Tryz.func60, Tryz.ntmps60
        go_wp2_with fail
        refine ((C1 _).out).mono ?_
        rintro e w1 ⟨rfl, hb1⟩
        have K1 := Lib.hid (KN.out.step hb1)
        clear hb1 KN C1
        obtain ⟨hB, ⟨p0, p1, p2, p3, p4⟩, ⟨q0, q1, q2, q3, q4⟩, ⟨r0, r1, r2, r3, r4⟩, ⟨s0, s1, s2, s3, s4⟩⟩ := K1.out
        go_wp2_with fail
        clear hB p0 p1 p2 p3 p4 q0 q1 q2 q3 q4 r0 r1 r2 r3 r4 s0 s1 s2 s3 s4
        refine ((C2 _).out).mono ?_
        rintro e w2 ⟨rfl, hb2⟩
        have K2 := Lib.hid ((K1.out).step hb2)
        clear hb2 K1 C2
        obtain ⟨hB, ⟨p0, p1, p2, p3, p4⟩, ⟨q0, q1, q2, q3, q4⟩, ⟨r0, r1, r2, r3, r4⟩, ⟨s0, s1, s2, s3, s4⟩⟩ := K2.out
        go_wp2_with fail
        clear hB p0 p1 p2 p3 p4 q0 q1 q2 q3 q4 r0 r1 r2 r3 r4 s0 s1 s2 s3 s4
        refine ((C3 _).out).mono ?_
        rintro e w3 ⟨rfl, hb3⟩
        have K3 := Lib.hid ((K2.out.put1 k).step hb3)
        clear hb3 K2 C3
        obtain ⟨hB, ⟨p0, p1, p2, p3, p4⟩, ⟨q0, q1, q2, q3, q4⟩, ⟨r0, r1, r2, r3, r4⟩, ⟨s0, s1, s2, s3, s4⟩⟩ := K3.out
        go_wp2
        have hfin := (hB.setCell (p := ⟨w.heap.size + 1 + 1, 0, none⟩) (by show w.heap.size ≤ w.heap.size + 1 + 1; omega) (.string ⟨#[]⟩)).setCell (p := ⟨w.heap.size + 1 + 1, 1, none⟩) (by show w.heap.size ≤ w.heap.size + 1 + 1; omega) (.string ⟨#[]⟩)
        exact bodyPost_ret (v := .tuple #[.agg #[.string ⟨#[]⟩, .string ⟨#[]⟩], .bool false]) (by simp [results, Tryz.results60, go_sem, r1, r2]) rfl ⟨rfl, hfin⟩
      · rw [if_pos h3, decide_eq_true h3]
        obtain ⟨c3, hc3, C3⟩ := rOrder_notMore h3 hl hk kl kk
        clear h1 h2 h3 hl hh hm hk kl kh km kk
        have KN := Lib.hid (com_new w l h m k)
        go_enter Tryz.func60, Tryz.ntmps60
        go_wp2_with fail
        refine ((C1 _).out).mono ?_
        rintro e w1 ⟨rfl, hb1⟩
        have K1 := Lib.hid (KN.out.step hb1)
        clear hb1 KN C1
        obtain ⟨hB, ⟨p0, p1, p2, p3, p4⟩, ⟨q0, q1, q2, q3, q4⟩, ⟨r0, r1, r2, r3, r4⟩, ⟨s0, s1, s2, s3, s4⟩⟩ := K1.out
        go_wp2_with fail
        clear hB p0 p1 p2 p3 p4 q0 q1 q2 q3 q4 r0 r1 r2 r3 r4 s0 s1 s2 s3 s4
        refine ((C2 _).out).mono ?_
        rintro e w2 ⟨rfl, hb2⟩
        have K2 := Lib.hid ((K1.out).step hb2)
        clear hb2 K1 C2
        obtain ⟨hB, ⟨p0, p1, p2, p3, p4⟩, ⟨q0, q1, q2, q3, q4⟩, ⟨r0, r1, r2, r3, r4⟩, ⟨s0, s1, s2, s3, s4⟩⟩ := K2.out
        go_wp2_with fail
        clear hB p0 p1 p2 p3 p4 q0 q1 q2 q3 q4 r0 r1 r2 r3 r4 s0 s1 s2 s3 s4
        refine ((C3 _).out).mono ?_
        rintro e w3 ⟨rfl, hb3⟩
        have K3 := Lib.hid ((K2.out.put1 k).step hb3)
        clear hb3 K2 C3
        obtain ⟨hB, ⟨p0, p1, p2, p3, p4⟩, ⟨q0, q1, q2, q3, q4⟩, ⟨r0, r1, r2, r3, r4⟩, ⟨s0, s1, s2, s3, s4⟩⟩ := K3.out
        go_wp2
        have hfin := (hB.setCell (p := ⟨w.heap.size + 1 + 1, 0, none⟩) (by show w.heap.size ≤ w.heap.size + 1 + 1; omega) (.string l)).setCell (p := ⟨w.heap.size + 1 + 1, 1, none⟩) (by show w.heap.size ≤ w.heap.size + 1 + 1; omega) (.string k)
        exact bodyPost_ret (v := .tuple #[.agg #[.string l, .string k], .bool true]) (by simp [results, Tryz.results60, go_sem, r1, r2]) rfl ⟨rfl, hfin⟩
    · rw [show leastB h k = h from if_neg h2]
      obtain ⟨c2, hc2, C2⟩ := rOrder_notLess h2 hk hh kk kh
      by_cases h3 : Fr.rat h.data.toList < Fr.rat l.data.toList
      · rw [if_neg (fun h9 => h9 h3), decide_eq_false (fun h9 => h9 h3)]
        obtain ⟨c3, hc3, C3⟩ := rOrder_more h3 hl hh kl kh
        clear h1 h2 h3 hl hh hm hk kl kh km kk
        have KN := Lib.hid (com_new w l h m k)
        go_enter Tryz.func60, Tryz.ntmps60
        go_wp2_with fail
        refine ((C1 _).out).mono ?_
        rintro e w1 ⟨rfl, hb1⟩
        have K1 := Lib.hid (KN.out.step hb1)
        clear hb1 KN C1
        obtain ⟨hB, ⟨p0, p1, p2, p3, p4⟩, ⟨q0, q1, q2, q3, q4⟩, ⟨r0, r1, r2, r3, r4⟩, ⟨s0, s1, s2, s3, s4⟩⟩ := K1.out
        go_wp2_with fail
        clear hB p0 p1 p2 p3 p4 q0 q1 q2 q3 q4 r0 r1 r2 r3 r4 s0 s1 s2 s3 s4
        refine ((C2 _).out).mono ?_
        rintro e w2 ⟨rfl, hb2⟩
        have K2 := Lib.hid ((K1.out).step hb2)
        clear hb2 K1 C2
        obtain ⟨hB, ⟨p0, p1, p2, p3, p4⟩, ⟨q0, q1, q2, q3, q4⟩, ⟨r0, r1, r2, r3, r4⟩, ⟨s0, s1, s2, s3, s4⟩⟩ := K2.out
        go_wp2_with fail
        clear hB p0 p1 p2 p3 p4 q0 q1 q2 q3 q4 r0 r1 r2 r3 r4 s0 s1 s2 s3 s4
        refine ((C3 _).out).mono ?_
        rintro e w3 ⟨rfl, hb3⟩
        have K3 := Lib.hid ((K2.out).step hb3)
        clear hb3 K2 C3
        obtain ⟨hB, ⟨p0, p1, p2, p3, p4⟩, ⟨q0, q1, q2, q3, q4⟩, ⟨r0, r1, r2, r3, r4⟩, ⟨s0, s1, s2, s3, s4⟩⟩ := K3.out
        go_wp2
        have hfin := (hB.setCell (p := ⟨w.heap.size + 1 + 1, 0, none⟩) (by show w.heap.size ≤ w.heap.size + 1 + 1; omega) (.string ⟨#[]⟩)).setCell (p := ⟨w.heap.size + 1 + 1, 1, none⟩) (by show w.heap.size ≤ w.heap.size + 1 + 1; omega) (.string ⟨#[]⟩)
        exact bodyPost_ret (v := .tuple #[.agg #[.string ⟨#[]⟩, .string ⟨#[]⟩], .bool false]) (by simp [results, Tryz.results60, go_sem, r1, r2]) rfl ⟨rfl, hfin⟩
      · rw [if_pos h3, decide_eq_true h3]
        obtain ⟨c3, hc3, C3⟩ := rOrder_notMore h3 hl hh kl kh
        clear h1 h2 h3 hl hh hm hk kl kh km kk
        have KN := Lib.hid (com_new w l h m k)
        go_enter Tryz.func60, Tryz.ntmps60
        go_wp2_with fail
        refine ((C1 _).out).mono ?_
        rintro e w1 ⟨rfl, hb1⟩
        have K1 := Lib.hid (KN.out.step hb1)
        clear hb1 KN C1
        obtain ⟨hB, ⟨p0, p1, p2, p3, p4⟩, ⟨q0, q1, q2, q3, q4⟩, ⟨r0, r1, r2, r3, r4⟩, ⟨s0, s1, s2, s3, s4⟩⟩ := K1.out
        go_wp2_with fail
        clear hB p0 p1 p2 p3 p4 q0 q1 q2 q3 q4 r0 r1 r2 r3 r4 s0 s1 s2 s3 s4
        refine ((C2 _).out).mono ?_
        rintro e w2 ⟨rfl, hb2⟩
        have K2 := Lib.hid ((K1.out).step hb2)
        clear hb2 K1 C2
        obtain ⟨hB, ⟨p0, p1, p2, p3, p4⟩, ⟨q0, q1, q2, q3, q4⟩, ⟨r0, r1, r2, r3, r4⟩, ⟨s0, s1, s2, s3, s4⟩⟩ := K2.out
        go_wp2_with fail
        clear hB p0 p1 p2 p3 p4 q0 q1 q2 q3 q4 r0 r1 r2 r3 r4 s0 s1 s2 s3 s4
        refine ((C3 _).out).mono ?_
        rintro e w3 ⟨rfl, hb3⟩
        have K3 := Lib.hid ((K2.out).step hb3)
        clear hb3 K2 C3
        obtain ⟨hB, ⟨p0, p1, p2, p3, p4⟩, ⟨q0, q1, q2, q3, q4⟩, ⟨r0, r1, r2, r3, r4⟩, ⟨s0, s1, s2, s3, s4⟩⟩ := K3.out
        go_wp2
        have hfin := (hB.setCell (p := ⟨w.heap.size + 1 + 1, 0, none⟩) (by show w.heap.size ≤ w.heap.size + 1 + 1; omega) (.string l)).setCell (p := ⟨w.heap.size + 1 + 1, 1, none⟩) (by show w.heap.size ≤ w.heap.size + 1 + 1; omega) (.string h)
        exact bodyPost_ret (v := .tuple #[.agg #[.string l, .string h], .bool true]) (by simp [results, Tryz.results60, go_sem, r1, r2]) rfl ⟨rfl, hfin⟩
set_option maxRecDepth 100000 in
set_option maxHeartbeats 4000000 in
theorem rMeetE_any (l h m k : ByteArray) (w : World) (hl : l.size ≤ 800) (hh : h.size ≤ 800) (hm : m.size ≤ 800) (hk : k.size ≤ 800) :
    Calls Tryz.prog 23 #[.agg #[.string l, .string h], .agg #[.string m, .string k]] w (MeetPost w (chk2 l h m k) (greatB l m) (leastB h k)) := by
  have CB := fun W => Lib.hid (rbothE_any l h m k W hl hh hm hk)
  have KF := Lib.hid (show M0 w ((Two w l h m k).alloc (.cells #[.string ⟨#[]⟩, .string ⟨#[]⟩] 24)) l h m k from by
    have h1 := two_below w l h m k
    unfold Two at *
    obtain ⟨hp, hq⟩ := pair_next w l h m k 24 24
    have hr := pair_new ((w.alloc (.cells #[.string l, .string h] 24)).alloc (.cells #[.string m, .string k] 24)) ⟨#[]⟩ ⟨#[]⟩ 24
    rw [show ((w.alloc (.cells #[.string l, .string h] 24)).alloc (.cells #[.string m, .string k] 24)).heap.size = w.heap.size + 1 + 1 by simp] at hr
    have b1 := fun (W : World) (o : Obj) => (Below.refl W.heap.size W).alloc (Nat.le_refl _) o
    exact ⟨h1.alloc h1.size _, hp.below (b1 _ _), hq.below (b1 _ _), hr⟩)
  unfold MeetPost
  by_cases h0 : chk2 l h m k = 0
  · obtain ⟨kl, kh, km, kk⟩ := chk2_parts h0
    have CC := fun W => Lib.hid (rCommon_any l h m k W hl hh hm hk kl kh km kk)
    unfold ComPost at CC
    generalize greatB l m = lo at *
    generalize leastB h k = hi at *
    rw [h0] at CB ⊢
    simp only [true_and]
    obtain ⟨x, y, hx⟩ : ∃ x y : ByteArray, (if ¬ Fr.rat hi.data.toList < Fr.rat lo.data.toList then Value.agg #[.string lo, .string hi] else .agg #[.string ⟨#[]⟩, .string ⟨#[]⟩]) = .agg #[.string x, .string y] := by
      split
      · exact ⟨_, _, rfl⟩
      · exact ⟨_, _, rfl⟩
    rw [hx] at CC ⊢
    generalize decide (¬ Fr.rat hi.data.toList < Fr.rat lo.data.toList) = c at *
    clear hx h0 kl kh km kk hl hh hm hk
    unfold Two at *
    go_enter Tryz.func23, Tryz.ntmps23
    go_wp2_with fail
    refine ((CB _).out).mono ?_
    rintro e w1 ⟨rfl, hb1⟩
    have K1 := Lib.hid (KF.out.step hb1)
    clear hb1 KF CB
    obtain ⟨hB, ⟨p0, p1, p2, p3, p4⟩, ⟨q0, q1, q2, q3, q4⟩, ⟨r0, r1, r2, r3, r4⟩⟩ := K1.out
    go_wp2_with fail
    clear hB p0 p1 p2 p3 p4 q0 q1 q2 q3 q4 r0 r1 r2 r3 r4
    refine ((CC _).out).mono ?_
    rintro e w2 ⟨rfl, hb2⟩
    have K2 := Lib.hid (K1.out.step hb2)
    clear hb2 K1 CC
    obtain ⟨hB, -, -, ⟨r0, r1, r2, r3, r4⟩⟩ := K2.out
    have KP := (Pair.put1 (Pair.put0 (K2.out.2.2.2) x) y).below ((Below.refl _ _).alloc (Nat.le_refl _) (.cells #[.string x, .string y] 24))
    obtain ⟨t0, t1, t2, t3, t4⟩ := KP
    go_wp2
    have hfin := ((hB.setCell (p := ⟨w.heap.size + 1 + 1, 0, none⟩) (by show w.heap.size ≤ w.heap.size + 1 + 1; omega) (.string x)).setCell (p := ⟨w.heap.size + 1 + 1, 1, none⟩) (by show w.heap.size ≤ w.heap.size + 1 + 1; omega) (.string y))
    have hfin2 := hfin.alloc hfin.size (.cells #[.string x, .string y] 24)
    exact bodyPost_ret (v := .tuple #[.agg #[.string x, .string y], .bool c, .int .i64 0]) (by simp only [results, Tryz.results23]; simp [t1, t2, go_sem]) rfl ⟨rfl, hfin2⟩
  · have hne : (chk2 l h m k != 0) = true := by simpa using h0
    rw [if_neg (fun h => h0 h.1), decide_eq_false (fun h => h0 h.1)]
    generalize chk2 l h m k = f at *
    clear h0
    unfold Two at *
    go_enter Tryz.func23, Tryz.ntmps23
    go_wp2_with fail
    refine ((CB _).out).mono ?_
    rintro e w1 ⟨rfl, hb1⟩
    have KK := Lib.hid (KF.out.step hb1)
    clear hb1 KF CB
    obtain ⟨p0, p1, p2, p3, p4⟩ := KK.out.2.2.2
    go_wp2
    have hfin := (KK.out.1.setCell (p := ⟨w.heap.size + 1 + 1, 0, none⟩) (by show w.heap.size ≤ w.heap.size + 1 + 1; omega) (.string ⟨#[]⟩)).setCell (p := ⟨w.heap.size + 1 + 1, 1, none⟩) (by show w.heap.size ≤ w.heap.size + 1 + 1; omega) (.string ⟨#[]⟩)
    exact bodyPost_ret (v := .tuple #[.agg #[.string ⟨#[]⟩, .string ⟨#[]⟩], .bool false, .int .i64 f]) (by simp [results, Tryz.results23, go_sem, p1, p2]) rfl ⟨rfl, hfin⟩
end Go.Proofs.YtldclpdmcopgnaaGreatDoor
