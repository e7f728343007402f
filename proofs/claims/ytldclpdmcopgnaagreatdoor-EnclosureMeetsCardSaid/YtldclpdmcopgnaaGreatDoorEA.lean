/- The contract of Meet of package enclosure. -/
import Derived.Test.YtldclpdmcopgnaaGreatDoorEz
namespace Go.Proofs.YtldclpdmcopgnaaGreatDoor
open Go.RowKit
/-- Both enclosures and the result, in variables. -/
def M0 (w W : World) (l h m k : ByteArray) : Prop := Below w.heap.size w W ∧ Pair W w.heap.size l h ∧ Pair W (w.heap.size + 1) m k ∧ Pair W (w.heap.size + 1 + 1) ⟨#[]⟩ ⟨#[]⟩
theorem M0.bel {w W : World} {l h m k : ByteArray} (x : M0 w W l h m k) : Below w.heap.size w W := x.1
theorem M0.step {w W W' : World} {l h m k : ByteArray} (x : M0 w W l h m k) (hb : Below W.heap.size W W') : M0 w W' l h m k :=
  ⟨below_nx x.1 hb, x.2.1.below hb, x.2.2.1.below hb, x.2.2.2.below hb⟩
def MeetPost (w : World) (f : Int) (lo hi : ByteArray) (e : Ending) (w' : World) : Prop :=
  e = .returned (.tuple #[if f = 0 ∧ ¬ Fr.rat hi.data.toList < Fr.rat lo.data.toList then .agg #[.string lo, .string hi] else .agg #[.string ⟨#[]⟩, .string ⟨#[]⟩], .bool (decide (f = 0 ∧ ¬ Fr.rat hi.data.toList < Fr.rat lo.data.toList)), .int .i64 f]) ∧ Below w.heap.size w w'
theorem leastB_or (s t : ByteArray) : leastB s t = s ∨ leastB s t = t := by
  unfold leastB
  split
  · exact .inr rfl
  · exact .inl rfl
set_option maxRecDepth 100000 in
set_option maxHeartbeats 4000000 in
theorem eMeet_any (l h m k : ByteArray) (w : World) (hst : St w) (hl : l.size ≤ 800) (hh : h.size ≤ 800) (hm : m.size ≤ 800) (hk : k.size ≤ 800) :
    Calls Tryz.prog 22 #[.agg #[.string l, .string h], .agg #[.string m, .string k]] w (MeetPost w (chk2 l h m k) (greatB l m) (leastB h k)) := by
  have hB0 := four_below w l h m k
  have hs := hB0.size
  obtain ⟨HP, HQ, HR, HS⟩ := four_facts w l h m k
  have CC := Lib.hid (checkAll_any l h m k _ _ (hst.next hB0) HS hl hh hm hk)
  have KF := Lib.hid (show M0 w (Four4 w l h m k) l h m k from ⟨hB0, HP, HQ, HR⟩)
  clear HP HQ HR HS
  unfold MeetPost
  by_cases h0 : chk2 l h m k = 0
  · obtain ⟨kl, kh, km, kk⟩ := chk2_parts h0
    have CG := fun W g (hW : Below w.heap.size w W) (O : One W g m) => Lib.hid (greatest_one l m g W (hst.next hW) O hl hm kl km)
    have CE := fun W g (hW : Below w.heap.size w W) (O : One W g k) => Lib.hid (least_one h k g W (hst.next hW) O hh hk kh kk)
    have hlo : (greatB l m).size ≤ 800 ∧ Fr.chk (greatB l m).data.toList = 0 := by
      rcases greatB_or l m with e | e <;> rw [e]
      · exact ⟨hl, kl⟩
      · exact ⟨hm, km⟩
    have hhi : (leastB h k).size ≤ 800 ∧ Fr.chk (leastB h k).data.toList = 0 := by
      rcases leastB_or h k with e | e <;> rw [e]
      · exact ⟨hh, kh⟩
      · exact ⟨hk, kk⟩
    have CI := Lib.hid (fun W (hW : Below w.heap.size w W) => isLess_lit (s := leastB h k) (t := greatB l m) (b := decide (Fr.rat (leastB h k).data.toList < Fr.rat (greatB l m).data.toList)) rfl W (hst.next hW) hhi.1 hlo.1 hhi.2 hlo.2)
    generalize greatB l m = lo at *
    generalize leastB h k = hi at *
    rw [h0] at CC ⊢
    simp only [true_and]
    generalize hc : decide (Fr.rat hi.data.toList < Fr.rat lo.data.toList) = c at *
    have HC := Lib.hid hc
    clear hst h0 kl kh km kk hlo hhi hc
    have HF := Lib.hid (show ∀ (x y : Value) , (if ¬ Fr.rat hi.data.toList < Fr.rat lo.data.toList then x else y) = (if c then y else x) from fun x y => by
      have := HC.out
      by_cases e : Fr.rat hi.data.toList < Fr.rat lo.data.toList
      · rw [decide_eq_true e] at this; rw [← this, if_neg (fun h => h e)]; rfl
      · rw [decide_eq_false e] at this; rw [← this, if_pos e]; rfl)
    have HG := Lib.hid (show decide (¬ Fr.rat hi.data.toList < Fr.rat lo.data.toList) = !c by rw [← HC.out]; simp)
    rw [HF.out, HG.out]
    clear HF HG HC
    unfold Four4 Two at *
    go_enter Tryz.func22, Tryz.ntmps22
    go_wp2_with fail
    refine (CC.out).mono ?_
    rintro e w1 ⟨rfl, hb1⟩
    have KK := Lib.hid (KF.out.step hb1)
    clear hb1 KF CC hB0 hs
    go_wp2_with fail
    go_cut [8, 9] (fun s8 s9 wx => s8 = .string lo ∧ s9 = .string hi ∧ Hid (M0 w wx l h m k))
    case first =>
      refine wp_region_noPanic ?_
      refine wp_region_held_drew (S := fun X => Hid (M0 w X l h m k)) (by kernel_rfl) ?_ (fun hHeld => ?_)
      · exact Lib.hid (KK.out.step (Below.refl _ _).drew)
      clear KK
      generalize w1.drew = Wd at *
      refine wpAnyH_take (i := 0) (v := ?_) rfl (by kernel_rfl) (by kernel_rfl) (by kernel_rfl) (fun _ _ _ h => h) (Or.inl ⟨by rfl, ?_⟩) (by assumption) ?_
      rotate_left 1
      · (intro wq hSw; clear hSw; go_simp; (try with_reducible rfl))
      try simp only [Act.put, List.getElem_toArray, List.getElem_cons_zero, List.setIfInBounds_toArray, List.set_cons_zero, List.set_cons_succ]
      refine wpAnyH_take (i := 1) (v := .string l) rfl (by kernel_rfl) (by kernel_rfl) (by kernel_rfl) (fun _ _ _ h => h) (Or.inl ⟨by rfl, ?_⟩) (by assumption) ?_
      · (intro wq hSw; obtain ⟨-, a1, a2, -, -⟩ := hSw.out.2.1; obtain ⟨-, b1, b2, -, -⟩ := hSw.out.2.2.1; clear hSw; go_simp)
      try simp only [Act.put, List.getElem_toArray, List.getElem_cons_succ, List.getElem_cons_zero, List.setIfInBounds_toArray, List.set_cons_zero, List.set_cons_succ]
      refine wpAnyH_take (i := 2) (v := ?_) rfl (by kernel_rfl) (by kernel_rfl) (by kernel_rfl) (fun _ _ _ h => h) (Or.inl ⟨by rfl, ?_⟩) (by assumption) ?_
      rotate_left 1
      · (intro wq hSw; clear hSw; go_simp; (try with_reducible rfl))
      try simp only [Act.put, List.getElem_toArray, List.getElem_cons_succ, List.getElem_cons_zero, List.setIfInBounds_toArray, List.set_cons_zero, List.set_cons_succ]
      refine wpAnyH_take (i := 3) (v := .string m) rfl (by kernel_rfl) (by kernel_rfl) (by kernel_rfl) (fun _ _ _ h => h) (Or.inl ⟨by rfl, ?_⟩) (by assumption) ?_
      · (intro wq hSw; obtain ⟨-, a1, a2, -, -⟩ := hSw.out.2.1; obtain ⟨-, b1, b2, -, -⟩ := hSw.out.2.2.1; clear hSw; go_simp)
      try simp only [Act.put, List.getElem_toArray, List.getElem_cons_succ, List.getElem_cons_zero, List.setIfInBounds_toArray, List.set_cons_zero, List.set_cons_succ]
      refine wpAnyH_take (i := 6) (v := ?_) rfl (by kernel_rfl) (by kernel_rfl) (by kernel_rfl) (fun _ _ _ h => h) (Or.inl ⟨by rfl, ?_⟩) (by assumption) ?_
      rotate_left 1
      · (intro wq hSw; clear hSw; go_simp; (try with_reducible rfl))
      try simp only [Act.put, List.getElem_toArray, List.getElem_cons_succ, List.getElem_cons_zero, List.setIfInBounds_toArray, List.set_cons_zero, List.set_cons_succ]
      refine wpAnyH_take (i := 7) (v := .string h) rfl (by kernel_rfl) (by kernel_rfl) (by kernel_rfl) (fun _ _ _ h => h) (Or.inl ⟨by rfl, ?_⟩) (by assumption) ?_
      · (intro wq hSw; obtain ⟨-, a1, a2, -, -⟩ := hSw.out.2.1; obtain ⟨-, b1, b2, -, -⟩ := hSw.out.2.2.1; clear hSw; go_simp)
      try simp only [Act.put, List.getElem_toArray, List.getElem_cons_succ, List.getElem_cons_zero, List.setIfInBounds_toArray, List.set_cons_zero, List.set_cons_succ]
      refine wpAnyH_take (i := 8) (v := ?_) rfl (by kernel_rfl) (by kernel_rfl) (by kernel_rfl) (fun _ _ _ h => h) (Or.inl ⟨by rfl, ?_⟩) (by assumption) ?_
      rotate_left 1
      · (intro wq hSw; clear hSw; go_simp; (try with_reducible rfl))
      try simp only [Act.put, List.getElem_toArray, List.getElem_cons_succ, List.getElem_cons_zero, List.setIfInBounds_toArray, List.set_cons_zero, List.set_cons_succ]
      refine wpAnyH_take (i := 9) (v := .string k) rfl (by kernel_rfl) (by kernel_rfl) (by kernel_rfl) (fun _ _ _ h => h) (Or.inl ⟨by rfl, ?_⟩) (by assumption) ?_
      · (intro wq hSw; obtain ⟨-, a1, a2, -, -⟩ := hSw.out.2.1; obtain ⟨-, b1, b2, -, -⟩ := hSw.out.2.2.1; clear hSw; go_simp)
      try simp only [Act.put, List.getElem_toArray, List.getElem_cons_succ, List.getElem_cons_zero, List.setIfInBounds_toArray, List.set_cons_zero, List.set_cons_succ]
      refine wpAnyH_ready (rs := [4, 10]) (by kernel_rfl) (by simp) ?_
      refine AllReadyH.cons rfl (fun K hK => ?_) ?_
      · have hH := hHeld
        clear hHeld
        go_simp
        have O1 := Lib.hid (one_new Wd m 22)
        refine hK.out _ _ ?_ (fun hHeld => ?_)
        · exact Lib.hid (hH.out.step ((Below.refl _ _).alloc (Nat.le_refl _) (.cells #[.string m] 22)))
        clear hK K hH
        try simp only [Act.put, List.getElem_toArray, List.getElem_cons_succ, List.getElem_cons_zero, List.setIfInBounds_toArray, List.set_cons_zero, List.set_cons_succ]
        refine wpAnyH_ready (rs := [5, 10]) (by kernel_rfl) (by simp) ?_
        refine AllReadyH.cons rfl (fun K hK => ?_) ?_
        · have hH := hHeld
          clear hHeld
          go_simp
          (with_reducible refine ((CG _ _ (M0.bel hH.out) O1.out).out).mono ?_)
          rintro e wn ⟨rfl, hb⟩
          go_simp
          refine hK.out _ _ ?_ (fun hHeld => ?_)
          · exact Lib.hid (hH.out.step hb)
          clear hK K hH hb
          try simp only [Act.put, List.getElem_toArray, List.getElem_cons_succ, List.getElem_cons_zero, List.setIfInBounds_toArray, List.set_cons_zero, List.set_cons_succ]
          refine wpAnyH_ready (rs := [10]) (by kernel_rfl) (by simp) ?_
          refine AllReadyH.cons rfl (fun K hK => ?_) AllReadyH.nil
          have hH := hHeld
          clear hHeld
          go_simp
          have O2 := Lib.hid (one_new wn k 22)
          refine hK.out _ _ ?_ (fun hHeld => ?_)
          · exact Lib.hid (hH.out.step ((Below.refl _ _).alloc (Nat.le_refl _) (.cells #[.string k] 22)))
          clear hK K hH
          try simp only [Act.put, List.getElem_toArray, List.getElem_cons_succ, List.getElem_cons_zero, List.setIfInBounds_toArray, List.set_cons_zero, List.set_cons_succ]
          refine wpAnyH_ready (rs := [11]) (by kernel_rfl) (by simp) ?_
          refine AllReadyH.cons rfl (fun K hK => ?_) AllReadyH.nil
          have hH := hHeld
          clear hHeld
          go_simp
          (with_reducible refine ((CE _ _ (M0.bel hH.out) O2.out).out).mono ?_)
          rintro e wn ⟨rfl, hb⟩
          go_simp
          refine hK.out _ _ ?_ (fun hHeld => ?_)
          · exact Lib.hid (hH.out.step hb)
          clear hK K hH hb
          try simp only [Act.put, List.getElem_toArray, List.getElem_cons_succ, List.getElem_cons_zero, List.setIfInBounds_toArray, List.set_cons_zero, List.set_cons_succ]
          refine wpAnyH_take (i := 12) (v := ?_) rfl (by kernel_rfl) (by kernel_rfl) (by kernel_rfl) (fun _ _ _ h => h) (Or.inl ⟨by rfl, ?_⟩) (by assumption) ?_
          rotate_left 1
          · (intro wq hSw; clear hSw; go_simp; (try with_reducible rfl))
          try simp only [Act.put, List.getElem_toArray, List.getElem_cons_succ, List.getElem_cons_zero, List.setIfInBounds_toArray, List.set_cons_zero, List.set_cons_succ]
          refine wpAnyH_take (i := 13) (v := ?_) rfl (by kernel_rfl) (by kernel_rfl) (by kernel_rfl) (fun _ _ _ h => h) (Or.inl ⟨by rfl, ?_⟩) (by assumption) ?_
          rotate_left 1
          · (intro wq hSw; clear hSw; go_simp; (try with_reducible rfl))
          try simp only [Act.put, List.getElem_toArray, List.getElem_cons_succ, List.getElem_cons_zero, List.setIfInBounds_toArray, List.set_cons_zero, List.set_cons_succ]
          refine wpAnyH_done (by kernel_rfl) ?_ _
          refine NoPanic.normal ?_
          go_wp2_with fail
          go_meet
          exact ⟨rfl, rfl, hHeld⟩
        · refine AllReadyH.cons rfl (fun K hK => ?_) AllReadyH.nil
          have hH := hHeld
          clear hHeld
          go_simp
          have O2 := Lib.hid (show One ((Wd.alloc (.cells #[.string m] 22)).alloc (.cells #[.string k] 22)) (Wd.heap.size + 1) k by have h9 := one_new (Wd.alloc (.cells #[.string m] 22)) k 22; rw [show (Wd.alloc (.cells #[.string m] 22)).heap.size = Wd.heap.size + 1 by simp] at h9; exact h9)
          have O1 := Lib.hid (O1.out.below O1.out.1 ((Below.refl _ _).alloc (Nat.le_refl _) (.cells #[.string k] 22)))
          refine hK.out _ _ ?_ (fun hHeld => ?_)
          · exact Lib.hid (hH.out.step ((Below.refl _ _).alloc (Nat.le_refl _) (.cells #[.string k] 22)))
          clear hK K hH
          try simp only [Act.put, List.getElem_toArray, List.getElem_cons_succ, List.getElem_cons_zero, List.setIfInBounds_toArray, List.set_cons_zero, List.set_cons_succ]
          refine wpAnyH_ready (rs := [5]) (by kernel_rfl) (by simp) ?_
          refine AllReadyH.cons rfl (fun K hK => ?_) AllReadyH.nil
          have hH := hHeld
          clear hHeld
          go_simp
          (with_reducible refine ((CG _ _ (M0.bel hH.out) O1.out).out).mono ?_)
          rintro e wn ⟨rfl, hb⟩
          have O2 := Lib.hid (O2.out.below O2.out.1 hb)
          go_simp
          refine hK.out _ _ ?_ (fun hHeld => ?_)
          · exact Lib.hid (hH.out.step hb)
          clear hK K hH hb
          try simp only [Act.put, List.getElem_toArray, List.getElem_cons_succ, List.getElem_cons_zero, List.setIfInBounds_toArray, List.set_cons_zero, List.set_cons_succ]
          refine wpAnyH_ready (rs := [11]) (by kernel_rfl) (by simp) ?_
          refine AllReadyH.cons rfl (fun K hK => ?_) AllReadyH.nil
          have hH := hHeld
          clear hHeld
          go_simp
          (with_reducible refine ((CE _ _ (M0.bel hH.out) O2.out).out).mono ?_)
          rintro e wn ⟨rfl, hb⟩
          go_simp
          refine hK.out _ _ ?_ (fun hHeld => ?_)
          · exact Lib.hid (hH.out.step hb)
          clear hK K hH hb
          try simp only [Act.put, List.getElem_toArray, List.getElem_cons_succ, List.getElem_cons_zero, List.setIfInBounds_toArray, List.set_cons_zero, List.set_cons_succ]
          refine wpAnyH_take (i := 12) (v := ?_) rfl (by kernel_rfl) (by kernel_rfl) (by kernel_rfl) (fun _ _ _ h => h) (Or.inl ⟨by rfl, ?_⟩) (by assumption) ?_
          rotate_left 1
          · (intro wq hSw; clear hSw; go_simp; (try with_reducible rfl))
          try simp only [Act.put, List.getElem_toArray, List.getElem_cons_succ, List.getElem_cons_zero, List.setIfInBounds_toArray, List.set_cons_zero, List.set_cons_succ]
          refine wpAnyH_take (i := 13) (v := ?_) rfl (by kernel_rfl) (by kernel_rfl) (by kernel_rfl) (fun _ _ _ h => h) (Or.inl ⟨by rfl, ?_⟩) (by assumption) ?_
          rotate_left 1
          · (intro wq hSw; clear hSw; go_simp; (try with_reducible rfl))
          try simp only [Act.put, List.getElem_toArray, List.getElem_cons_succ, List.getElem_cons_zero, List.setIfInBounds_toArray, List.set_cons_zero, List.set_cons_succ]
          refine wpAnyH_done (by kernel_rfl) ?_ _
          refine NoPanic.normal ?_
          go_wp2_with fail
          go_meet
          exact ⟨rfl, rfl, hHeld⟩
      · refine AllReadyH.cons rfl (fun K hK => ?_) AllReadyH.nil
        have hH := hHeld
        clear hHeld
        go_simp
        have O2 := Lib.hid (one_new Wd k 22)
        refine hK.out _ _ ?_ (fun hHeld => ?_)
        · exact Lib.hid (hH.out.step ((Below.refl _ _).alloc (Nat.le_refl _) (.cells #[.string k] 22)))
        clear hK K hH
        try simp only [Act.put, List.getElem_toArray, List.getElem_cons_succ, List.getElem_cons_zero, List.setIfInBounds_toArray, List.set_cons_zero, List.set_cons_succ]
        refine wpAnyH_ready (rs := [4]) (by kernel_rfl) (by simp) ?_
        refine AllReadyH.cons rfl (fun K hK => ?_) AllReadyH.nil
        have hH := hHeld
        clear hHeld
        go_simp
        have O1 := Lib.hid (show One ((Wd.alloc (.cells #[.string k] 22)).alloc (.cells #[.string m] 22)) (Wd.heap.size + 1) m by have h9 := one_new (Wd.alloc (.cells #[.string k] 22)) m 22; rw [show (Wd.alloc (.cells #[.string k] 22)).heap.size = Wd.heap.size + 1 by simp] at h9; exact h9)
        have O2 := Lib.hid (O2.out.below O2.out.1 ((Below.refl _ _).alloc (Nat.le_refl _) (.cells #[.string m] 22)))
        refine hK.out _ _ ?_ (fun hHeld => ?_)
        · exact Lib.hid (hH.out.step ((Below.refl _ _).alloc (Nat.le_refl _) (.cells #[.string m] 22)))
        clear hK K hH
        try simp only [Act.put, List.getElem_toArray, List.getElem_cons_succ, List.getElem_cons_zero, List.setIfInBounds_toArray, List.set_cons_zero, List.set_cons_succ]
        refine wpAnyH_ready (rs := [5]) (by kernel_rfl) (by simp) ?_
        refine AllReadyH.cons rfl (fun K hK => ?_) AllReadyH.nil
        have hH := hHeld
        clear hHeld
        go_simp
        (with_reducible refine ((CG _ _ (M0.bel hH.out) O1.out).out).mono ?_)
        rintro e wn ⟨rfl, hb⟩
        have O2 := Lib.hid (O2.out.below O2.out.1 hb)
        go_simp
        refine hK.out _ _ ?_ (fun hHeld => ?_)
        · exact Lib.hid (hH.out.step hb)
        clear hK K hH hb
        try simp only [Act.put, List.getElem_toArray, List.getElem_cons_succ, List.getElem_cons_zero, List.setIfInBounds_toArray, List.set_cons_zero, List.set_cons_succ]
        refine wpAnyH_ready (rs := [11]) (by kernel_rfl) (by simp) ?_
        refine AllReadyH.cons rfl (fun K hK => ?_) AllReadyH.nil
        have hH := hHeld
        clear hHeld
        go_simp
        (with_reducible refine ((CE _ _ (M0.bel hH.out) O2.out).out).mono ?_)
        rintro e wn ⟨rfl, hb⟩
        go_simp
        refine hK.out _ _ ?_ (fun hHeld => ?_)
        · exact Lib.hid (hH.out.step hb)
        clear hK K hH hb
        try simp only [Act.put, List.getElem_toArray, List.getElem_cons_succ, List.getElem_cons_zero, List.setIfInBounds_toArray, List.set_cons_zero, List.set_cons_succ]
        refine wpAnyH_take (i := 12) (v := ?_) rfl (by kernel_rfl) (by kernel_rfl) (by kernel_rfl) (fun _ _ _ h => h) (Or.inl ⟨by rfl, ?_⟩) (by assumption) ?_
        rotate_left 1
        · (intro wq hSw; clear hSw; go_simp; (try with_reducible rfl))
        try simp only [Act.put, List.getElem_toArray, List.getElem_cons_succ, List.getElem_cons_zero, List.setIfInBounds_toArray, List.set_cons_zero, List.set_cons_succ]
        refine wpAnyH_take (i := 13) (v := ?_) rfl (by kernel_rfl) (by kernel_rfl) (by kernel_rfl) (fun _ _ _ h => h) (Or.inl ⟨by rfl, ?_⟩) (by assumption) ?_
        rotate_left 1
        · (intro wq hSw; clear hSw; go_simp; (try with_reducible rfl))
        try simp only [Act.put, List.getElem_toArray, List.getElem_cons_succ, List.getElem_cons_zero, List.setIfInBounds_toArray, List.set_cons_zero, List.set_cons_succ]
        refine wpAnyH_done (by kernel_rfl) ?_ _
        refine NoPanic.normal ?_
        go_wp2_with fail
        go_meet
        exact ⟨rfl, rfl, hHeld⟩
    case rest =>
      obtain ⟨rfl, rfl, KK2⟩ := hcut
      clear KK CG CE
      go_wp2_with fail
      refine (CI.out _ KK2.out.1).mono ?_
      rintro e w2 ⟨rfl, hb2⟩
      have KK3 := Lib.hid (KK2.out.step hb2)
      clear hb2 KK2 CI
      obtain ⟨p0, p1, p2, p3, p4⟩ := KK3.out.2.2.2
      cases c
      · go_wp2
        have hfin := (KK3.out.1.setCell (p := ⟨w.heap.size + 1 + 1, 0, none⟩) (by show w.heap.size ≤ w.heap.size + 1 + 1; omega) (.string lo)).setCell (p := ⟨w.heap.size + 1 + 1, 1, none⟩) (by show w.heap.size ≤ w.heap.size + 1 + 1; omega) (.string hi)
        exact bodyPost_ret (v := .tuple #[.agg #[.string lo, .string hi], .bool true, .int .i64 0]) (by simp [results, Tryz.results22, go_sem, p1, p2]) rfl ⟨rfl, hfin⟩
      · go_wp2
        have hfin := (KK3.out.1.setCell (p := ⟨w.heap.size + 1 + 1, 0, none⟩) (by show w.heap.size ≤ w.heap.size + 1 + 1; omega) (.string ⟨#[]⟩)).setCell (p := ⟨w.heap.size + 1 + 1, 1, none⟩) (by show w.heap.size ≤ w.heap.size + 1 + 1; omega) (.string ⟨#[]⟩)
        exact bodyPost_ret (v := .tuple #[.agg #[.string ⟨#[]⟩, .string ⟨#[]⟩], .bool false, .int .i64 0]) (by simp [results, Tryz.results22, go_sem, p1, p2]) rfl ⟨rfl, hfin⟩
  · have hne : (chk2 l h m k != 0) = true := by simpa using h0
    rw [if_neg (fun h => h0 h.1), decide_eq_false (fun h => h0 h.1)]
    generalize chk2 l h m k = f at *
    clear h0 hst
    unfold Four4 Two at *
    go_enter Tryz.func22, Tryz.ntmps22
    go_wp2_with fail
    refine (CC.out).mono ?_
    rintro e w1 ⟨rfl, hb1⟩
    have KK := Lib.hid (KF.out.step hb1)
    clear hb1 KF CC hB0 hs
    obtain ⟨p0, p1, p2, p3, p4⟩ := KK.out.2.2.2
    go_wp2
    have hfin := (KK.out.1.setCell (p := ⟨w.heap.size + 1 + 1, 0, none⟩) (by show w.heap.size ≤ w.heap.size + 1 + 1; omega) (.string ⟨#[]⟩)).setCell (p := ⟨w.heap.size + 1 + 1, 1, none⟩) (by show w.heap.size ≤ w.heap.size + 1 + 1; omega) (.string ⟨#[]⟩)
    exact bodyPost_ret (v := .tuple #[.agg #[.string ⟨#[]⟩, .string ⟨#[]⟩], .bool false, .int .i64 f]) (by simp [results, Tryz.results22, go_sem, p1, p2]) rfl ⟨rfl, hfin⟩
end Go.Proofs.YtldclpdmcopgnaaGreatDoor
