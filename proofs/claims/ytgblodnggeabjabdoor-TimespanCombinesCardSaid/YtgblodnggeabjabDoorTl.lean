/- The contract of Parse of the reference. -/
import Derived.Test.YtgblodnggeabjabDoorTk
namespace Go.Proofs.YtgblodnggeabjabDoor
open Go.RowKit

theorem extract_list (s : ByteArray) (a b : Nat) : s.extract a b = ⟨((s.data.toList.drop a).take (b - a)).toArray⟩ := by
  have h := ByteArray.extract_mk s.data.toList a b
  have e : (ByteArray.mk s.data.toList.toArray) = s := by apply ByteArray.ext; simp
  rw [e] at h
  exact h
theorem ext_fst (s : ByteArray) : (s.extract 0 (Tm.cut2 s.data.toList).1.length).data.toList = (Tm.cut2 s.data.toList).1 := by
  rw [extract_list]
  have h := Tm.cut2_join s.data.toList
  generalize (Tm.cut2 s.data.toList).1 = p at *
  show List.take _ (List.drop 0 s.data.toList) = _
  rw [List.drop_zero, Nat.sub_zero, h]
  simp
theorem ext_snd (s : ByteArray) (hs : (Tm.cut2 s.data.toList).2.isSome = true) : (s.extract ((Tm.cut2 s.data.toList).1.length + 2) s.size).data.toList = Tm.sndT s.data.toList ∧ (Tm.cut2 s.data.toList).1.length + 2 ≤ s.size := by
  have h := Tm.cut2_join s.data.toList
  have hl : s.data.toList.length = s.size := rfl
  cases hm : (Tm.cut2 s.data.toList).2 with
  | none => rw [hm] at hs; cases hs
  | some m =>
    rw [hm] at h
    have h1 := congrArg List.length h
    simp only [List.length_append, List.length_cons] at h1
    refine ⟨?_, by omega⟩
    rw [extract_list]
    show List.take _ (List.drop _ s.data.toList) = _
    rw [List.take_of_length_le (by rw [List.length_drop, hl]; exact Nat.le_refl _)]
    unfold Tm.sndT
    rw [hm]
    show List.drop _ _ = m
    generalize (Tm.cut2 s.data.toList).1 = p at *
    rw [h]
    show List.drop _ (p ++ 46 :: 46 :: m) = m
    have e : p ++ 46 :: 46 :: m = (p ++ [46, 46]) ++ m := by simp
    rw [e, List.drop_left' (by simp)]
theorem ext_none (s : ByteArray) (hs : (Tm.cut2 s.data.toList).2.isSome = false) : Tm.sndT s.data.toList = (Tm.cut2 s.data.toList).1 ∧ (Tm.cut2 s.data.toList).1.length = s.size := by
  have h := Tm.cut2_join s.data.toList
  have hl : s.data.toList.length = s.size := rfl
  cases hm : (Tm.cut2 s.data.toList).2 with
  | some m => rw [hm] at hs; cases hs
  | none =>
    rw [hm] at h
    have h1 := congrArg List.length h
    simp only [List.append_nil] at h1
    exact ⟨by unfold Tm.sndT; rw [hm]; rfl, by omega⟩

set_option maxRecDepth 100000 in
set_option maxHeartbeats 1000000 in
theorem rParse_true (s : ByteArray) (w : World) (hs : s.size ≤ 1000000) (hsome : (Tm.cut2 s.data.toList).2.isSome = true) :
    Calls Tryd.prog 37 #[.string s] w fun e w' => e = .returned (.tuple #[.agg #[.int .i64 (Tm.parV s.data.toList).1.1, .int .i64 (Tm.parV s.data.toList).1.2], .int .i64 (Tm.parV s.data.toList).2]) ∧ Below w.heap.size w w' := by
  have hB0 : Below w.heap.size w (w.alloc (.cells #[.int .i64 0, .int .i64 0] 23)) := (Below.refl _ _).alloc (Nat.le_refl _) _
  have hs0 := hB0.size
  have HF := Lib.hid (pairI_new w 0 0 23)
  have CD := fun W => Lib.hid (rDots_any s W hs)
  have hlen := cut2_len s.data.toList
  have hl : s.data.toList.length = s.size := rfl
  have k1 : ((Tm.cut2 s.data.toList).1.length : Int) ≤ (s.size : Int) := by omega
  have E1 := ext_fst s
  obtain ⟨E2, k2⟩ := ext_snd s hsome
  have k3 : ((Tm.cut2 s.data.toList).1.length : Int) + 2 ≤ (s.size : Int) := by omega
  have k4 : ((Tm.cut2 s.data.toList).1.length : Int) < (s.size : Int) := by omega
  have N1 := fun W => Lib.hid (rNumber_any (s.extract 0 (Tm.cut2 s.data.toList).1.length) W (by rw [ByteArray.size_extract]; omega))
  rw [E1] at N1
  have N2 := fun W => Lib.hid (rNumber_any (s.extract ((Tm.cut2 s.data.toList).1.length + 2) s.size) W (by rw [ByteArray.size_extract]; omega))
  rw [E2] at N2
  have HL := Lib.hid (fun h => Tm.par_long (s := s.data.toList) h)
  have HO1 := Lib.hid (fun h => Tm.par_one (s := s.data.toList) h)
  have HO2 := Lib.hid (fun h => Tm.par_two (s := s.data.toList) h)
  have HR := Lib.hid (fun a b c x y => Tm.par_rest (s := s.data.toList) a b c (x := x) (y := y))
  have G1 := Lib.hid (fun (h : Tm.numOk (Tm.cut2 s.data.toList).1 = true) => num_good h)
  have G2 := Lib.hid (fun (h : Tm.numOk (Tm.sndT s.data.toList) = true) => num_good h)
  have B1 := Lib.hid (fun (h : Tm.numOk (Tm.cut2 s.data.toList).1 = false) => num_bad h)
  have B2 := Lib.hid (fun (h : Tm.numOk (Tm.sndT s.data.toList) = false) => num_bad h)
  by_cases h24 : (24 : Int) < (s.size : Int)
  · have HE := Lib.hid (HL.out (by show ¬ s.size ≤ 24; omega))
    generalize Tm.parV s.data.toList = r at *
    generalize Tm.numV (Tm.cut2 s.data.toList).1 = n1 at *
    generalize Tm.numV (Tm.sndT s.data.toList) = n2 at *
    obtain ⟨x, b1⟩ := n1
    obtain ⟨y, b2⟩ := n2
    simp only [] at N1 N2
    generalize (Tm.cut2 s.data.toList).1.length = k at *
    
    clear HL HO1 HO2 HR G1 G2 B1 B2 hsome E1 E2 hlen HF hs0 hB0 k2
    go_enter Tryd.func37, Tryd.ntmps37
    go_wp2_with (first
      | (go_at_call 59; refine ((CD _).out).mono ?_; rintro e w2 ⟨rfl, rfl⟩)
      | (go_at_call 60; (first | (with_reducible refine ((N1 _).out).mono ?_) | (with_reducible refine ((N2 _).out).mono ?_)); rintro e w2 ⟨rfl, rfl⟩)
      | fail)
    exact bodyPost_ret (v := .tuple #[.agg #[.int .i64 0, .int .i64 0], .int .i64 4]) (by simp [results, Tryd.results37, go_sem]) rfl ⟨end_span HE.out, (Below.refl _ _).alloc (Nat.le_refl _) _⟩
  · have h24' : (s.size : Int) ≤ 24 := by omega
    have hl24 : s.data.toList.length ≤ 24 := by omega
    clear h24 HL
    cases n1 : Tm.numOk (Tm.cut2 s.data.toList).1 with
    | false =>
      have HE := Lib.hid (HO1.out n1)
      rw [B1.out n1] at N1
      generalize Tm.parV s.data.toList = r at *
      generalize Tm.numV (Tm.sndT s.data.toList) = n2 at *
      obtain ⟨y, b2⟩ := n2
      simp only [] at N1 N2
      generalize (Tm.cut2 s.data.toList).1.length = k at *
      
      clear HO1 HO2 HR G1 G2 B1 B2 hsome E1 E2 hlen HF hs0 hB0 n1 k2
      go_enter Tryd.func37, Tryd.ntmps37
      go_wp2_with (first
        | (go_at_call 59; refine ((CD _).out).mono ?_; rintro e w2 ⟨rfl, rfl⟩)
        | (go_at_call 60; (first | (with_reducible refine ((N1 _).out).mono ?_) | (with_reducible refine ((N2 _).out).mono ?_)); rintro e w2 ⟨rfl, rfl⟩)
        | fail)
      exact bodyPost_ret (v := .tuple #[.agg #[.int .i64 0, .int .i64 0], .int .i64 4]) (by simp [results, Tryd.results37, go_sem]) rfl ⟨end_span HE.out, (Below.refl _ _).alloc (Nat.le_refl _) _⟩
    | true =>
      rw [G1.out n1] at N1
      cases n2 : Tm.numOk (Tm.sndT s.data.toList) with
      | false =>
        have HE := Lib.hid (HO2.out n2)
        rw [B2.out n2] at N2
        generalize Tm.parV s.data.toList = r at *
        generalize ((Fr.dv (Tm.cut2 s.data.toList).1 : Nat) : Int) = x at *
        generalize (Tm.cut2 s.data.toList).1.length = k at *
        clear HO1 HO2 HR G1 G2 B1 B2 hsome E1 E2 hlen HF hs0 hB0 n1 n2 k2
        go_enter Tryd.func37, Tryd.ntmps37
        go_wp2_with (first
          | (go_at_call 59; refine ((CD _).out).mono ?_; rintro e w2 ⟨rfl, rfl⟩)
          | (go_at_call 60; (first | (with_reducible refine ((N1 _).out).mono ?_) | (with_reducible refine ((N2 _).out).mono ?_)); rintro e w2 ⟨rfl, rfl⟩)
          | fail)
        exact bodyPost_ret (v := .tuple #[.agg #[.int .i64 0, .int .i64 0], .int .i64 4]) (by simp [results, Tryd.results37, go_sem]) rfl ⟨end_span HE.out, (Below.refl _ _).alloc (Nat.le_refl _) _⟩
      | true =>
        rw [G2.out n2] at N2
        obtain ⟨x, hx⟩ : ∃ x : Int, ((Fr.dv (Tm.cut2 s.data.toList).1 : Nat) : Int) = x := ⟨_, rfl⟩
        obtain ⟨y, hy⟩ : ∃ y : Int, ((Fr.dv (Tm.sndT s.data.toList) : Nat) : Int) = y := ⟨_, rfl⟩
        have HE := Lib.hid (HR.out hl24 n1 n2 x y hx hy)
        rw [hsome] at HE
        rw [hx] at N1
        rw [hy] at N2
        
        have CO := fun W => Lib.hid (rOf_any x y W)
        generalize Tm.parV s.data.toList = r at *
        generalize (Tm.cut2 s.data.toList).1.length = k at *
        
        clear HO1 HO2 HR G1 G2 B1 B2 hsome E1 E2 hlen n1 n2 hx hy hl24 k2
        by_cases hc : Tm.chk x y = 0
        · rw [ofV_good hc] at CO
          by_cases he : x = y
          · have HE1 := Lib.hid (HE.out.trans ((if_neg (by simpa using hc)).trans (if_pos ⟨rfl, he⟩)))
            subst he
            clear hc HE
            go_enter Tryd.func37, Tryd.ntmps37
            go_wp2_with (first
              | (go_at_call 59; refine ((CD _).out).mono ?_; rintro e w2 ⟨rfl, rfl⟩)
              | (go_at_call 60; (first | (with_reducible refine ((N1 _).out).mono ?_) | (with_reducible refine ((N2 _).out).mono ?_)); rintro e w2 ⟨rfl, rfl⟩)
              | fail)
            refine ((CO _).out).mono ?_
            rintro e w2 ⟨rfl, hb2⟩
            obtain ⟨s0, s1, s2, s3, s4⟩ := HF.out.below (by simp) hb2
            have hB2 := hB0.trans (hb2.mono hs0)
            clear hb2 HF
            go_wp2
            have hfin0 := (hB2.setCell (p := ⟨w.heap.size, 0, none⟩) (by simp) (.int .i64 0)).setCell (p := ⟨w.heap.size, 1, none⟩) (by simp) (.int .i64 0)
            have hsz : w.heap.size < ((w2.setCell ⟨w.heap.size, 0, none⟩ (.int .i64 0)).setCell ⟨w.heap.size, 1, none⟩ (.int .i64 0)).heap.size := by simp <;> omega
            have a0 : ∀ o, (((w2.setCell ⟨w.heap.size, 0, none⟩ (.int .i64 0)).setCell ⟨w.heap.size, 1, none⟩ (.int .i64 0)).alloc o).cell? ⟨w.heap.size, 0, none⟩ = some (.int .i64 0) := fun o => by
              rw [cell_old _ _ _ hsz]
              simp [go_sem, s1]
            have a1 : ∀ o, (((w2.setCell ⟨w.heap.size, 0, none⟩ (.int .i64 0)).setCell ⟨w.heap.size, 1, none⟩ (.int .i64 0)).alloc o).cell? ⟨w.heap.size, 1, none⟩ = some (.int .i64 0) := fun o => by
              rw [cell_old _ _ _ hsz]
              simp [go_sem, s2]
            exact bodyPost_ret (v := .tuple #[.agg #[.int .i64 0, .int .i64 0], .int .i64 3]) (by simp [results, Tryd.results37, go_sem, a0, a1]) rfl ⟨end_span HE1.out, hfin0.alloc hfin0.size _⟩
          · have HE1 := Lib.hid (HE.out.trans ((if_neg (by simpa using hc)).trans (if_neg (fun g => he g.2))))
            have hne : (x == y) = false := by simpa using he
            clear hc HE he
            go_enter Tryd.func37, Tryd.ntmps37
            go_wp2_with (first
              | (go_at_call 59; refine ((CD _).out).mono ?_; rintro e w2 ⟨rfl, rfl⟩)
              | (go_at_call 60; (first | (with_reducible refine ((N1 _).out).mono ?_) | (with_reducible refine ((N2 _).out).mono ?_)); rintro e w2 ⟨rfl, rfl⟩)
              | fail)
            refine ((CO _).out).mono ?_
            rintro e w2 ⟨rfl, hb2⟩
            obtain ⟨s0, s1, s2, s3, s4⟩ := HF.out.below (by simp) hb2
            have hB2 := hB0.trans (hb2.mono hs0)
            clear hb2 HF
            go_wp2
            have hfin0 := (hB2.setCell (p := ⟨w.heap.size, 0, none⟩) (by simp) (.int .i64 x)).setCell (p := ⟨w.heap.size, 1, none⟩) (by simp) (.int .i64 y)
            have hsz : w.heap.size < ((w2.setCell ⟨w.heap.size, 0, none⟩ (.int .i64 x)).setCell ⟨w.heap.size, 1, none⟩ (.int .i64 y)).heap.size := by simp <;> omega
            have a0 : ∀ o, (((w2.setCell ⟨w.heap.size, 0, none⟩ (.int .i64 x)).setCell ⟨w.heap.size, 1, none⟩ (.int .i64 y)).alloc o).cell? ⟨w.heap.size, 0, none⟩ = some (.int .i64 x) := fun o => by
              rw [cell_old _ _ _ hsz]
              simp [go_sem, s1]
            have a1 : ∀ o, (((w2.setCell ⟨w.heap.size, 0, none⟩ (.int .i64 x)).setCell ⟨w.heap.size, 1, none⟩ (.int .i64 y)).alloc o).cell? ⟨w.heap.size, 1, none⟩ = some (.int .i64 y) := fun o => by
              rw [cell_old _ _ _ hsz]
              simp [go_sem, s2]
            exact bodyPost_ret (v := .tuple #[.agg #[.int .i64 x, .int .i64 y], .int .i64 0]) (by simp [results, Tryd.results37, go_sem, a0, a1]) rfl ⟨end_span HE1.out, hfin0.alloc hfin0.size _⟩
        · rw [ofV_bad hc] at CO
          have HE1 := Lib.hid (HE.out.trans (if_pos hc))
          have hne : (Tm.chk x y == 0) = false := by simpa using hc
          generalize Tm.chk x y = c at *
          clear hc HE
          go_enter Tryd.func37, Tryd.ntmps37
          go_wp2_with (first
            | (go_at_call 59; refine ((CD _).out).mono ?_; rintro e w2 ⟨rfl, rfl⟩)
            | (go_at_call 60; (first | (with_reducible refine ((N1 _).out).mono ?_) | (with_reducible refine ((N2 _).out).mono ?_)); rintro e w2 ⟨rfl, rfl⟩)
            | fail)
          refine ((CO _).out).mono ?_
          rintro e w2 ⟨rfl, hb2⟩
          obtain ⟨s0, s1, s2, s3, s4⟩ := HF.out.below (by simp) hb2
          have hB2 := hB0.trans (hb2.mono hs0)
          clear hb2 HF
          go_wp2
          have hfin0 := (hB2.setCell (p := ⟨w.heap.size, 0, none⟩) (by simp) (.int .i64 0)).setCell (p := ⟨w.heap.size, 1, none⟩) (by simp) (.int .i64 0)
          have hsz : w.heap.size < ((w2.setCell ⟨w.heap.size, 0, none⟩ (.int .i64 0)).setCell ⟨w.heap.size, 1, none⟩ (.int .i64 0)).heap.size := by simp <;> omega
          have a0 : ∀ o, (((w2.setCell ⟨w.heap.size, 0, none⟩ (.int .i64 0)).setCell ⟨w.heap.size, 1, none⟩ (.int .i64 0)).alloc o).cell? ⟨w.heap.size, 0, none⟩ = some (.int .i64 0) := fun o => by
            rw [cell_old _ _ _ hsz]
            simp [go_sem, s1]
          have a1 : ∀ o, (((w2.setCell ⟨w.heap.size, 0, none⟩ (.int .i64 0)).setCell ⟨w.heap.size, 1, none⟩ (.int .i64 0)).alloc o).cell? ⟨w.heap.size, 1, none⟩ = some (.int .i64 0) := fun o => by
            rw [cell_old _ _ _ hsz]
            simp [go_sem, s2]
          exact bodyPost_ret (v := .tuple #[.agg #[.int .i64 0, .int .i64 0], .int .i64 c]) (by simp [results, Tryd.results37, go_sem, a0, a1]) rfl ⟨end_span HE1.out, hfin0.alloc hfin0.size _⟩

set_option maxRecDepth 100000 in
set_option maxHeartbeats 1000000 in
theorem rParse_false (s : ByteArray) (w : World) (hs : s.size ≤ 1000000) (hsome : (Tm.cut2 s.data.toList).2.isSome = false) :
    Calls Tryd.prog 37 #[.string s] w fun e w' => e = .returned (.tuple #[.agg #[.int .i64 (Tm.parV s.data.toList).1.1, .int .i64 (Tm.parV s.data.toList).1.2], .int .i64 (Tm.parV s.data.toList).2]) ∧ Below w.heap.size w w' := by
  have hB0 : Below w.heap.size w (w.alloc (.cells #[.int .i64 0, .int .i64 0] 23)) := (Below.refl _ _).alloc (Nat.le_refl _) _
  have hs0 := hB0.size
  have HF := Lib.hid (pairI_new w 0 0 23)
  have CD := fun W => Lib.hid (rDots_any s W hs)
  have hlen := cut2_len s.data.toList
  have hl : s.data.toList.length = s.size := rfl
  have k1 : ((Tm.cut2 s.data.toList).1.length : Int) ≤ (s.size : Int) := by omega
  have E1 := ext_fst s
  obtain ⟨E2, k2⟩ := ext_none s hsome
  have k4 : ¬ ((Tm.cut2 s.data.toList).1.length : Int) < (s.size : Int) := by omega
  have N1 := fun W => Lib.hid (rNumber_any (s.extract 0 (Tm.cut2 s.data.toList).1.length) W (by rw [ByteArray.size_extract]; omega))
  rw [E1] at N1
  have N2 := N1
  have HL := Lib.hid (fun h => Tm.par_long (s := s.data.toList) h)
  have HO1 := Lib.hid (fun h => Tm.par_one (s := s.data.toList) h)
  have HO2 := Lib.hid (fun h => Tm.par_two (s := s.data.toList) h)
  have HR := Lib.hid (fun a b c x y => Tm.par_rest (s := s.data.toList) a b c (x := x) (y := y))
  have G1 := Lib.hid (fun (h : Tm.numOk (Tm.cut2 s.data.toList).1 = true) => num_good h)
  have G2 := Lib.hid (fun (h : Tm.numOk (Tm.sndT s.data.toList) = true) => num_good h)
  have B1 := Lib.hid (fun (h : Tm.numOk (Tm.cut2 s.data.toList).1 = false) => num_bad h)
  have B2 := Lib.hid (fun (h : Tm.numOk (Tm.sndT s.data.toList) = false) => num_bad h)
  by_cases h24 : (24 : Int) < (s.size : Int)
  · have HE := Lib.hid (HL.out (by show ¬ s.size ≤ 24; omega))
    generalize Tm.parV s.data.toList = r at *
    generalize Tm.numV (Tm.cut2 s.data.toList).1 = n1 at *
    
    obtain ⟨x, b1⟩ := n1
    
    simp only [] at N1 N2
    generalize (Tm.cut2 s.data.toList).1.length = k at *
    
    clear HL HO1 HO2 HR G1 G2 B1 B2 hsome E1 E2 hlen HF hs0 hB0 k2
    go_enter Tryd.func37, Tryd.ntmps37
    go_wp2_with (first
      | (go_at_call 59; refine ((CD _).out).mono ?_; rintro e w2 ⟨rfl, rfl⟩)
      | (go_at_call 60; (first | (with_reducible refine ((N1 _).out).mono ?_) | (with_reducible refine ((N2 _).out).mono ?_)); rintro e w2 ⟨rfl, rfl⟩)
      | fail)
    exact bodyPost_ret (v := .tuple #[.agg #[.int .i64 0, .int .i64 0], .int .i64 4]) (by simp [results, Tryd.results37, go_sem]) rfl ⟨end_span HE.out, (Below.refl _ _).alloc (Nat.le_refl _) _⟩
  · have h24' : (s.size : Int) ≤ 24 := by omega
    have hl24 : s.data.toList.length ≤ 24 := by omega
    clear h24 HL
    cases n1 : Tm.numOk (Tm.cut2 s.data.toList).1 with
    | false =>
      have HE := Lib.hid (HO1.out n1)
      rw [B1.out n1] at N1
      generalize Tm.parV s.data.toList = r at *
      have N2 := N1
      
      simp only [] at N1 N2
      generalize (Tm.cut2 s.data.toList).1.length = k at *
      
      clear HO1 HO2 HR G1 G2 B1 B2 hsome E1 E2 hlen HF hs0 hB0 n1 k2
      go_enter Tryd.func37, Tryd.ntmps37
      go_wp2_with (first
        | (go_at_call 59; refine ((CD _).out).mono ?_; rintro e w2 ⟨rfl, rfl⟩)
        | (go_at_call 60; (first | (with_reducible refine ((N1 _).out).mono ?_) | (with_reducible refine ((N2 _).out).mono ?_)); rintro e w2 ⟨rfl, rfl⟩)
        | fail)
      exact bodyPost_ret (v := .tuple #[.agg #[.int .i64 0, .int .i64 0], .int .i64 4]) (by simp [results, Tryd.results37, go_sem]) rfl ⟨end_span HE.out, (Below.refl _ _).alloc (Nat.le_refl _) _⟩
    | true =>
      rw [G1.out n1] at N1
      cases n2 : Tm.numOk (Tm.sndT s.data.toList) with
      | false =>
        rw [E2, n1] at n2
        cases n2
      | true =>
        have N2 := N1
        obtain ⟨x, hx⟩ : ∃ x : Int, ((Fr.dv (Tm.cut2 s.data.toList).1 : Nat) : Int) = x := ⟨_, rfl⟩
        have hy : ((Fr.dv (Tm.sndT s.data.toList) : Nat) : Int) = x := by rw [E2]; exact hx
        have HE := Lib.hid (HR.out hl24 n1 n2 x x hx hy)
        rw [hsome] at HE
        rw [hx] at N1
        clear N2
        have N2 := N1
        have CO := fun W => Lib.hid (rOf_any x x W)
        generalize Tm.parV s.data.toList = r at *
        generalize (Tm.cut2 s.data.toList).1.length = k at *
        
        clear HO1 HO2 HR G1 G2 B1 B2 hsome E1 E2 hlen n1 n2 hx hy hl24 k2
        by_cases hc : Tm.chk x x = 0
        · rw [ofV_good hc] at CO
          have HE1 := Lib.hid (HE.out.trans ((if_neg (by simpa using hc)).trans (if_neg (fun g => by simp at g))))
          clear hc HE
          go_enter Tryd.func37, Tryd.ntmps37
          go_wp2_with (first
            | (go_at_call 59; refine ((CD _).out).mono ?_; rintro e w2 ⟨rfl, rfl⟩)
            | (go_at_call 60; (first | (with_reducible refine ((N1 _).out).mono ?_) | (with_reducible refine ((N2 _).out).mono ?_)); rintro e w2 ⟨rfl, rfl⟩)
            | fail)
          refine ((CO _).out).mono ?_
          rintro e w2 ⟨rfl, hb2⟩
          obtain ⟨s0, s1, s2, s3, s4⟩ := HF.out.below (by simp) hb2
          have hB2 := hB0.trans (hb2.mono hs0)
          clear hb2 HF
          go_wp2
          have hfin0 := (hB2.setCell (p := ⟨w.heap.size, 0, none⟩) (by simp) (.int .i64 x)).setCell (p := ⟨w.heap.size, 1, none⟩) (by simp) (.int .i64 x)
          have hsz : w.heap.size < ((w2.setCell ⟨w.heap.size, 0, none⟩ (.int .i64 x)).setCell ⟨w.heap.size, 1, none⟩ (.int .i64 x)).heap.size := by simp <;> omega
          have a0 : ∀ o, (((w2.setCell ⟨w.heap.size, 0, none⟩ (.int .i64 x)).setCell ⟨w.heap.size, 1, none⟩ (.int .i64 x)).alloc o).cell? ⟨w.heap.size, 0, none⟩ = some (.int .i64 x) := fun o => by
            rw [cell_old _ _ _ hsz]
            simp [go_sem, s1]
          have a1 : ∀ o, (((w2.setCell ⟨w.heap.size, 0, none⟩ (.int .i64 x)).setCell ⟨w.heap.size, 1, none⟩ (.int .i64 x)).alloc o).cell? ⟨w.heap.size, 1, none⟩ = some (.int .i64 x) := fun o => by
            rw [cell_old _ _ _ hsz]
            simp [go_sem, s2]
          exact bodyPost_ret (v := .tuple #[.agg #[.int .i64 x, .int .i64 x], .int .i64 0]) (by simp [results, Tryd.results37, go_sem, a0, a1]) rfl ⟨end_span HE1.out, hfin0.alloc hfin0.size _⟩
        · rw [ofV_bad hc] at CO
          have HE1 := Lib.hid (HE.out.trans (if_pos hc))
          have hne : (Tm.chk x x == 0) = false := by simpa using hc
          generalize Tm.chk x x = c at *
          clear hc HE
          go_enter Tryd.func37, Tryd.ntmps37
          go_wp2_with (first
            | (go_at_call 59; refine ((CD _).out).mono ?_; rintro e w2 ⟨rfl, rfl⟩)
            | (go_at_call 60; (first | (with_reducible refine ((N1 _).out).mono ?_) | (with_reducible refine ((N2 _).out).mono ?_)); rintro e w2 ⟨rfl, rfl⟩)
            | fail)
          refine ((CO _).out).mono ?_
          rintro e w2 ⟨rfl, hb2⟩
          obtain ⟨s0, s1, s2, s3, s4⟩ := HF.out.below (by simp) hb2
          have hB2 := hB0.trans (hb2.mono hs0)
          clear hb2 HF
          go_wp2
          have hfin0 := (hB2.setCell (p := ⟨w.heap.size, 0, none⟩) (by simp) (.int .i64 0)).setCell (p := ⟨w.heap.size, 1, none⟩) (by simp) (.int .i64 0)
          have hsz : w.heap.size < ((w2.setCell ⟨w.heap.size, 0, none⟩ (.int .i64 0)).setCell ⟨w.heap.size, 1, none⟩ (.int .i64 0)).heap.size := by simp <;> omega
          have a0 : ∀ o, (((w2.setCell ⟨w.heap.size, 0, none⟩ (.int .i64 0)).setCell ⟨w.heap.size, 1, none⟩ (.int .i64 0)).alloc o).cell? ⟨w.heap.size, 0, none⟩ = some (.int .i64 0) := fun o => by
            rw [cell_old _ _ _ hsz]
            simp [go_sem, s1]
          have a1 : ∀ o, (((w2.setCell ⟨w.heap.size, 0, none⟩ (.int .i64 0)).setCell ⟨w.heap.size, 1, none⟩ (.int .i64 0)).alloc o).cell? ⟨w.heap.size, 1, none⟩ = some (.int .i64 0) := fun o => by
            rw [cell_old _ _ _ hsz]
            simp [go_sem, s2]
          exact bodyPost_ret (v := .tuple #[.agg #[.int .i64 0, .int .i64 0], .int .i64 c]) (by simp [results, Tryd.results37, go_sem, a0, a1]) rfl ⟨end_span HE1.out, hfin0.alloc hfin0.size _⟩

theorem rParse_any (s : ByteArray) (w : World) (hs : s.size ≤ 1000000) :
    Calls Tryd.prog 37 #[.string s] w fun e w' => e = .returned (.tuple #[.agg #[.int .i64 (Tm.parV s.data.toList).1.1, .int .i64 (Tm.parV s.data.toList).1.2], .int .i64 (Tm.parV s.data.toList).2]) ∧ Below w.heap.size w w' := by
  cases hsome : (Tm.cut2 s.data.toList).2.isSome with
  | true => exact rParse_true s w hs hsome
  | false => exact rParse_false s w hs hsome

end Go.Proofs.YtgblodnggeabjabDoor
