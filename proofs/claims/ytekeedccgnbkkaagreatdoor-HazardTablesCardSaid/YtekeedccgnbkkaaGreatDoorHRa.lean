/- The reference of package hazard: the function of a form. -/
import Derived.Test.YtekeedccgnbkkaaGreatDoorHA
import Derived.Test.YtekeedccgnbkkaaGreatDoorUj
import Derived.Test.YtekeedccgnbkkaaGreatDoorKc
namespace Go.Proofs.YtekeedccgnbkkaaGreatDoor
open Go.RowKit Go.Shelf

set_option maxHeartbeats 4000000 in
set_option maxRecDepth 100000 in
theorem rcOwners_any (l : List (Nat × Nat)) (k : Nat) (v : Value) (w : World) (hk : k < 64) (hl : l.length ≤ 4096) (hc : ∀ i, i < l.length → (l.getD i (0, 0)).1 < 2 ^ 64) (hs : SeesO w v l) :
    Calls Tryz.prog 45 #[v, .int .i64 k] w fun e w' => ∃ sv, e = .returned sv ∧ Row w.heap.size .i64 3 w' sv (Tt.pts (fun i => Ic.inn (l.getD i (0, 0)).1 (l.getD i (0, 0)).2 k) l.length) ∧ Below w.heap.size w w' := by
  obtain ⟨i0, hi0, hz0, hz1, hz2⟩ := info_parts Tryz.infoI64
  obtain ⟨ao, cap, rfl, hcap1, hcap2, hcells⟩ := hs.opened
  have HC := Lib.hid hcells
  have CI := fun i (hi : i < l.length) W => Lib.hid (rcIn_any (l.getD i (0, 0)).1 (l.getD i (0, 0)).2 k W hk (hc i hi))
  clear hcells hs hc
  go_enter Tryz.func45, Tryz.ntmps45
  go_wp2
  go_loopw [5, 6] (fun s5 s6 wr => ∃ i : Nat, i ≤ l.length ∧ s6 = .int .i64 i ∧ Row w.heap.size .i64 3 wr s5 (Tt.pts (fun i => Ic.inn (l.getD i (0, 0)).1 (l.getD i (0, 0)).2 k) i) ∧ Hid (Below w.heap.size w wr)) (fun _ s6 _ => l.length - (intOf s6).toNat)
  case atStart => exact ⟨0, Nat.zero_le _, rfl, Row.nil _ _ _ _, Lib.hid (Below.refl _ _)⟩
  case round =>
    obtain ⟨i, hi, rfl, hrow, HB⟩ := hrel
    have RW := Lib.hid hrow
    clear hrow
    by_cases hil : i < l.length
    · obtain ⟨g, off, rfl, hg, c1, c2⟩ := HC.out.at HB.out hil
      have CIi := CI i hil
      have HS := Lib.hid (Tt.pts_succ (fun i => Ic.inn (l.getD i (0, 0)).1 (l.getD i (0, 0)).2 k) i)
      have hlen := Tt.pts_len (fun i => Ic.inn (l.getD i (0, 0)).1 (l.getD i (0, 0)).2 k) i
      clear CI
      generalize Tt.pts (fun i => Ic.inn (l.getD i (0, 0)).1 (l.getD i (0, 0)).2 k) i = q at *
      generalize l.getD i (0, 0) = y at *
      have hwr := HB.out.size
      generalize Ic.inn y.1 y.2 k = b at *
      cases b with
      | false =>
        have HF : Hid (Tt.pts (fun i => Ic.inn (l.getD i (0, 0)).1 (l.getD i (0, 0)).2 k) (i + 1) = q) := Lib.hid (by rw [HS.out]; simp)
        clear HS
        go_wp2_with (first | (go_at_call 65; refine ((CIi _).out).mono ?_; rintro e w3 ⟨rfl, hb⟩; have HB3 := Lib.hid (below_nxt HB.out hb); have RW3 := Lib.hid (RW.out.below hb (Nat.le_refl _)); have hz3 := HB3.out.size; clear hb) | (at_builtin; refine wpList_append_nat rfl _ _ 82 rfl 3 i0 .i64 8 Tryz.underlying82 hi0 hz0 hz1 hz2 (by omega) _ _ q [i] rfl rfl w.heap.size (RW3.out.below ((Below.refl _ _).alloc (Nat.le_refl _) _) (Nat.le_refl _)) ((Row.one 0 _ _ _ (Nat.zero_le _) i _ rfl).sees) (by simp; omega) (by simp; omega) ?_; intro v5 w5 hr5 hb5))
        exact ⟨⟨i + 1, by omega, rfl, by rw [HF.out]; exact RW3.out, HB3⟩, by simp [intOf]; omega⟩
      | true =>
        have HF : Hid (Tt.pts (fun i => Ic.inn (l.getD i (0, 0)).1 (l.getD i (0, 0)).2 k) (i + 1) = q ++ [i]) := Lib.hid (by rw [HS.out]; simp)
        clear HS
        go_wp2_with (first | (go_at_call 65; refine ((CIi _).out).mono ?_; rintro e w3 ⟨rfl, hb⟩; have HB3 := Lib.hid (below_nxt HB.out hb); have RW3 := Lib.hid (RW.out.below hb (Nat.le_refl _)); have hz3 := HB3.out.size; clear hb) | (at_builtin; refine wpList_append_nat rfl _ _ 82 rfl 3 i0 .i64 8 Tryz.underlying82 hi0 hz0 hz1 hz2 (by omega) _ _ q [i] rfl rfl w.heap.size (RW3.out.below ((Below.refl _ _).alloc (Nat.le_refl _) _) (Nat.le_refl _)) ((Row.one 0 _ _ _ (Nat.zero_le _) i _ rfl).sees) (by simp; omega) (by simp; omega) ?_; intro v5 w5 hr5 hb5))
        exact ⟨⟨i + 1, by omega, rfl, by rw [HF.out]; exact hr5, Lib.hid ((below_nxt HB3.out ((Below.refl _ _).alloc (Nat.le_refl _) _)).trans hb5)⟩, by simp [intOf]; omega⟩
    · obtain rfl : i = l.length := by omega
      go_wp2
      exact bodyPost_ret (by simp [results, Tryz.results45, go_sem]) rfl ⟨_, rfl, RW.out, HB.out⟩


set_option maxHeartbeats 4000000 in
set_option maxRecDepth 100000 in
theorem r8Made_any (n : Nat) (l : List (Nat × Nat)) (v : Value) (w : World) (hn : n ≤ 6) (hl : l.length ≤ 4096) (hw : Hz.W64 l) (hs : SeesO w v l) :
    Calls Tryz.prog 23 #[.int .i64 n, v] w fun e w' => e = .returned (.agg #[.int .i64 n, .int .u64 ((Hz.made n l : Nat) : Int)]) ∧ Below w.heap.size w w' := by
  obtain ⟨i0, hi0, hz0, hz1, hz2⟩ := info_parts Tryz.infoI64
  have hN := Tt.size_le hn
  have CS := fun W => Lib.hid (rSize_any n W (by omega) (by omega))
  rw [Int.toNat_natCast] at CS
  have CO := fun k (hk : k < 64) W h => Lib.hid (rcOwners_any l k v W hk hl (fun i hi => (hw.at hi).1) h)
  have CM := fun u W h => Lib.hid (rMade_any n u (Tt.pts (Hz.cv l) (2 ^ n)) W hn h (Nat.le_trans (Tt.pts_len _ _) hN))
  have HMK : Hid (Tt.mk n (inB (Tt.pts (Hz.cv l) (2 ^ n))) = Hz.made n l) := Lib.hid (by
    refine Tt.same (n := n) (Tt.mk_lt _ _) (Hz.made_lt _ _) fun k hk => ?_
    rw [Tt.mk_bit, Hz.made_bit hk]
    have : inB (Tt.pts (Hz.cv l) (2 ^ n)) k = Hz.cv l k := by
      unfold inB Tt.pts
      rw [Bool.eq_iff_iff, List.contains_iff_mem, List.mem_filter, List.mem_range]
      exact ⟨fun h => h.2, fun h => ⟨hk, h⟩⟩
    rw [this]; simp [hk])
  have HCV : Hid (∀ k, (Tt.pts (fun i => Ic.inn (l.getD i (0, 0)).1 (l.getD i (0, 0)).2 k) l.length = []) ↔ Hz.cv l k = false) := Lib.hid (fun k => by
    unfold Tt.pts Hz.cv
    rw [List.filter_eq_nil_iff, List.any_eq_false]
    constructor
    · intro h p hp
      obtain ⟨i, hi, rfl⟩ := List.getElem_of_mem hp
      have := h i (List.mem_range.2 hi)
      rw [List.getD_eq_getElem?_getD, List.getElem?_eq_getElem hi] at this
      exact this
    · intro h i hi
      have hi' := List.mem_range.1 hi
      exact h _ (Hz.getD_mem hi'))
  have HSE := Lib.hid hs
  have HPS := Lib.hid (fun k => Tt.pts_succ (Hz.cv l) k)
  have HPL := Lib.hid (fun k => Tt.pts_len (Hz.cv l) k)
  clear hs hw
  generalize 2 ^ n = N at *
  obtain ⟨PT, LT, zT⟩ := tab1_new w 0 0 29
  have HLT := Lib.hid LT
  clear LT
  go_enter Tryz.func23, Tryz.ntmps23
  go_wp2
  go_loopw [5, 6] (fun s5 s6 wr => ∃ k : Nat, k ≤ N ∧ s6 = .int .i64 k ∧ Row (w.heap.size + 1) .i64 3 wr s5 (Tt.pts (Hz.cv l) k) ∧ TabI wr w.heap.size 0 0 ∧ Hid (Below w.heap.size w wr)) (fun _ s6 _ => N - (intOf s6).toNat)
  case atStart => exact ⟨0, Nat.zero_le _, rfl, Row.nil _ _ _ _, PT, HLT⟩
  case round =>
    clear PT
    obtain ⟨k, hk, rfl, hrow, HT, HB⟩ := hrel
    have RW := Lib.hid hrow
    have HTT := Lib.hid HT
    have hgt := HT.1
    clear hrow
    by_cases hkN : k < N
    · have COk := CO k (by omega)
      have HP := Lib.hid (HPS.out k)
      have hpl := HPL.out k
      have hcv := HCV.out k
      have hpo := Tt.pts_len (fun i => Ic.inn (l.getD i (0, 0)).1 (l.getD i (0, 0)).2 k) l.length
      clear CO HPS HPL HCV HT
      generalize Tt.pts (fun i => Ic.inn (l.getD i (0, 0)).1 (l.getD i (0, 0)).2 k) l.length = own at *
      generalize Tt.pts (Hz.cv l) k = q at *
      go_wp2_with (go_at_call 44; (with_reducible refine ((CS _).out).mono ?_); rintro e w3 ⟨rfl, rfl⟩)
      refine ((COk _ (HSE.out.step HB.out)).out).mono ?_
      rintro e w4 ⟨sv, rfl, hown, hb⟩
      obtain ⟨oo, oc, rfl, ho1, ho2, -⟩ := hown.sees.opened
      have HB4 := Lib.hid (below_nxt HB.out hb)
      have R4 := Lib.hid (RW.out.below hb (Nat.le_refl _))
      have T4 := Lib.hid (HTT.out.step hb)
      have hz4 := hb.size
      clear hb hown
      cases hc : Hz.cv l k
      · have hol : own = [] := hcv.2 hc
        have HF : Hid (Tt.pts (Hz.cv l) (k + 1) = q) := Lib.hid (by rw [HP.out, hc]; simp)
        subst hol
        rw [List.length_nil]
        clear hcv HP
        go_wp2
        exact ⟨⟨k + 1, by omega, rfl, by rw [HF.out]; exact R4.out, T4.out, HB4⟩, by simp [intOf]; omega⟩
      · have hol : 0 < own.length := by
          rcases own with _ | ⟨y, own⟩
          · have := hcv.1 rfl
            rw [hc] at this; cases this
          · simp
        have HF : Hid (Tt.pts (Hz.cv l) (k + 1) = q ++ [k]) := Lib.hid (by rw [HP.out, hc]; simp)
        clear hcv HP
        generalize own.length = on at *
        go_wp2_with (at_builtin; refine wpList_append_nat rfl _ _ 82 rfl 3 i0 .i64 8 Tryz.underlying82 hi0 hz0 hz1 hz2 (by omega) _ _ q [k] rfl rfl (w.heap.size + 1) (R4.out.below ((Below.refl _ _).alloc (Nat.le_refl _) _) (Nat.le_refl _)) ((Row.one 0 _ _ _ (Nat.zero_le _) k _ rfl).sees) (by simp; omega) (by simp; omega) ?_; intro v5 w5 hr5 hb5)
        exact ⟨⟨k + 1, by omega, rfl, by rw [HF.out]; exact hr5, (T4.out.step ((Below.refl _ _).alloc (Nat.le_refl _) _)).below (by omega) hb5, Lib.hid ((HB4.out.alloc HB4.out.size _).trans (hb5.mono (by omega)))⟩, by simp [intOf]; omega⟩
    · obtain rfl : k = N := by omega
      have CMv := CM _ _ RW.out.sees
      rw [HMK.out] at CMv
      go_wp2_with (go_at_call 44; (with_reducible refine ((CS _).out).mono ?_); rintro e w3 ⟨rfl, rfl⟩)
      refine (CMv.out).mono ?_
      rintro e w1 ⟨rfl, hb1⟩
      have zb1 := hb1.size
      have T1' := HT.below (by omega) hb1
      have HW' := Lib.hid (HB.out.trans (hb1.mono (by omega)))
      obtain ⟨s0, s1, s2, s3, s4⟩ := id T1'
      clear hb1 HT HTT CMv CM CO HCV HPS HPL
      go_wp2
      exact bodyPost_ret (v := .agg #[.int .i64 n, .int .u64 (Hz.made n l : Nat)]) (by simp [results, Tryz.results23, go_sem, s1, s2]) rfl ⟨rfl, (HW'.out.setCell (p := ⟨w.heap.size + 0, 0, none⟩) (by show _ ≤ w.heap.size + 0; omega) _).setCell (p := ⟨w.heap.size + 0, 1, none⟩) (by show _ ≤ w.heap.size + 0; omega) _⟩
end Go.Proofs.YtekeedccgnbkkaaGreatDoor
