/- The contract of the reference's Small. -/
import Derived.Test.YtfphnoihkcnleaaGreatDoorRr
namespace Fr
open Limb
theorem dv_take_le (l : List UInt8) (i : Nat) : dv (l.take i) ≤ dv l := by
  have h := dv_app (l.take i) (l.drop i)
  rw [List.take_append_drop] at h
  rw [h]
  have h1 : dv (l.take i) * 1 ≤ dv (l.take i) * 10 ^ (l.drop i).length := Nat.mul_le_mul_left _ (Nat.pow_pos (by omega))
  omega
end Fr
namespace Go.Proofs.YtfphnoihkcnleaaGreatDoor
open Go.RowKit

theorem dv_take_next (s : ByteArray) (i x : Nat) (h : i < s.size) (hx : Fr.dv (s.data.toList.take i) = x) : Fr.dv (s.data.toList.take (i + 1)) = x * 10 + ((s[i]'h).toNat - 48) := by
  rw [List.take_succ_eq_append_getElem (by show i < s.size; exact h), dv_snoc, hx]
  rfl

set_option maxRecDepth 100000 in
set_option maxHeartbeats 1000000 in
theorem small_pos (a s : ByteArray) (w : World) (hs : s.size ≤ 19) (hd : s.data.toList.all Fr.isDig = true) (hp : 0 < s.size) (R : Value)
    (CC : ∀ W, Calls Tryz.prog 20 #[.string a] W fun e w' => e = .returned (.int .i64 0) ∧ Below W.heap.size W w')
    (CS : ∀ W, Calls Tryz.prog 50 #[.string a] W fun e w' => e = .returned (.tuple #[.string s, .string ⟨#[49]⟩]) ∧ ∃ n, w' = W.drewN n)
    (CB : ∀ W, Calls Tryz.prog 55 #[.string s] W fun e w' => e = .returned (.string s) ∧ W = w')
    (h1 : Fr.dv s.data.toList ≤ 9223372036854775807 → R = .tuple #[.int .i64 (Fr.dv s.data.toList), .int .i64 0]) (h2 : 9223372036854775807 < Fr.dv s.data.toList → R = .tuple #[.int .i64 0, .int .i64 2]) :
    Calls Tryz.prog 18 #[.string a] w fun e w' => e = .returned R ∧ Below w.heap.size w w' := by
  have f1 := first_neg hp
  have C1 := fun W => Lib.hid (CC W)
  have C2 := fun W => Lib.hid (CS W)
  have C3 := fun W => Lib.hid (CB W)
  have H1 := Lib.hid h1
  have H2 := Lib.hid h2
  have hn : ¬ (((s[0]'hp).toNat : Int) = 45) := by
    rcases f1 with f1 | f1
    · rw [Fr.isNeg_digs hd] at f1; cases f1.2
    · exact f1.1
  clear CC CS CB h1 h2 f1
  go_enter Tryz.func18, Tryz.ntmps18
  go_wp2_with (first
    | (go_at_call 20; refine ((C1 _).out).mono ?_; rintro e w1 ⟨rfl, hb1⟩)
    | (go_at_call 50; refine ((C2 _).out).mono ?_; rintro e w2 ⟨rfl, n2, rfl⟩)
    | (go_at_call 55; refine ((C3 _).out).mono ?_; rintro e w' ⟨rfl, rfl⟩))
  have hB : Hid (Below w.heap.size w (w1.drewN n2)) := hb1.trans (below_drewN _ n2)
  clear hb1
  go_loopw [7, 8] (fun u7 u8 wr => ∃ i x : Nat, i ≤ s.size ∧ u8 = .int .i64 i ∧ u7 = .int .i64 x ∧ x ≤ 9223372036854775807 ∧ wr = w1.drewN n2 ∧ Hid (Fr.dv (s.data.toList.take i) = x)) (fun _ u8 _ => s.size - (intOf u8).toNat)
  case atStart => exact ⟨0, 0, Nat.zero_le _, rfl, rfl, by omega, rfl, rfl⟩
  case round =>
    obtain ⟨i, x, hi, rfl, rfl, hx, rfl, HX⟩ := hrel
    by_cases hlt : i < s.size
    · have hdj : Fr.isDig (s[i]'hlt) = true := List.all_eq_true.1 hd _ (by show s.data[i] ∈ _; exact Array.getElem_mem_toList _)
      have HN : Hid (Fr.dv (s.data.toList.take (i + 1)) = x * 10 + ((s[i]'hlt).toNat - 48)) := dv_take_next s i x hlt HX.out
      unfold Fr.isDig at hdj
      simp only [Bool.and_eq_true, decide_eq_true_eq] at hdj
      have hd1 : (48 : Int) ≤ ((s[i]'hlt).toNat : Int) := by omega
      have hd2 : ((s[i]'hlt).toNat : Int) ≤ 57 := by omega
      clear hdj
      have HT : (-9223372036854775808 - min (((s[i]'hlt).toNat : Int) - 48) 0).tdiv 10 = -922337203685477580 := by
        rw [show min (((s[i]'hlt).toNat : Int) - 48) 0 = 0 by omega]; decide
      by_cases ht : x * 10 + ((s[i]'hlt).toNat - 48) ≤ 9223372036854775807
      · go_wp2_with (go_at_call 55; refine ((C3 _).out).mono ?_; rintro e w' ⟨rfl, rfl⟩)
        exact ⟨⟨i + 1, x * 10 + ((s[i]'hlt).toNat - 48), by omega, by go_num, by congr 1; omega, ht, trivial, HN⟩, by show s.size - ((i : Int) + 1).toNat < s.size - (i : Int).toNat; omega⟩
      · have hR := H2.out (by have h := Fr.dv_take_le s.data.toList (i + 1); rw [HN.out] at h; omega)
        clear H1 H2 HN HX
        subst hR
        go_wp2_with (go_at_call 55; refine ((C3 _).out).mono ?_; rintro e w' ⟨rfl, rfl⟩)
        go_ret2
        exact ⟨rfl, hB.out⟩
    · have hdv : Fr.dv s.data.toList = x := by
        have h := HX.out
        rwa [List.take_of_length_le (by show s.size ≤ i; omega)] at h
      have hR := H1.out (by omega)
      rw [hdv] at hR
      clear H1 H2 HX hdv
      subst hR
      go_wp2_with (go_at_call 55; refine ((C3 _).out).mono ?_; rintro e w' ⟨rfl, rfl⟩)
      go_ret2
      exact ⟨rfl, hB.out⟩

set_option maxRecDepth 100000 in
set_option maxHeartbeats 1000000 in
theorem small_neg (a n s : ByteArray) (w : World) (hs : s.size ≤ 19) (hd : s.data.toList.all Fr.isDig = true) (hp : 0 < n.size) (hn : ((n[0]'hp).toNat : Int) = 45) (R : Value)
    (CC : ∀ W, Calls Tryz.prog 20 #[.string a] W fun e w' => e = .returned (.int .i64 0) ∧ Below W.heap.size W w')
    (CS : ∀ W, Calls Tryz.prog 50 #[.string a] W fun e w' => e = .returned (.tuple #[.string n, .string ⟨#[49]⟩]) ∧ ∃ n, w' = W.drewN n)
    (CB : ∀ W, Calls Tryz.prog 55 #[.string n] W fun e w' => e = .returned (.string s) ∧ W = w')
    (h1 : Fr.dv s.data.toList ≤ 9223372036854775808 → R = .tuple #[.int .i64 (-(Fr.dv s.data.toList : Int)), .int .i64 0]) (h2 : 9223372036854775808 < Fr.dv s.data.toList → R = .tuple #[.int .i64 0, .int .i64 2]) :
    Calls Tryz.prog 18 #[.string a] w fun e w' => e = .returned R ∧ Below w.heap.size w w' := by
  have C1 := fun W => Lib.hid (CC W)
  have C2 := fun W => Lib.hid (CS W)
  have C3 := fun W => Lib.hid (CB W)
  have H1 := Lib.hid h1
  have H2 := Lib.hid h2
  clear CC CS CB h1 h2
  go_enter Tryz.func18, Tryz.ntmps18
  go_wp2_with (first
    | (go_at_call 20; refine ((C1 _).out).mono ?_; rintro e w1 ⟨rfl, hb1⟩)
    | (go_at_call 50; refine ((C2 _).out).mono ?_; rintro e w2 ⟨rfl, n2, rfl⟩)
    | (go_at_call 55; refine ((C3 _).out).mono ?_; rintro e w' ⟨rfl, rfl⟩))
  have hB : Hid (Below w.heap.size w (w1.drewN n2)) := hb1.trans (below_drewN _ n2)
  clear hb1
  go_loopw [7, 8] (fun u7 u8 wr => ∃ i x : Nat, i ≤ s.size ∧ u8 = .int .i64 i ∧ u7 = .int .i64 (-(x : Int)) ∧ x ≤ 9223372036854775808 ∧ wr = w1.drewN n2 ∧ Hid (Fr.dv (s.data.toList.take i) = x)) (fun _ u8 _ => s.size - (intOf u8).toNat)
  case atStart => exact ⟨0, 0, Nat.zero_le _, rfl, rfl, by omega, rfl, rfl⟩
  case round =>
    obtain ⟨i, x, hi, rfl, rfl, hx, rfl, HX⟩ := hrel
    by_cases hlt : i < s.size
    · have hdj : Fr.isDig (s[i]'hlt) = true := List.all_eq_true.1 hd _ (by show s.data[i] ∈ _; exact Array.getElem_mem_toList _)
      have HN : Hid (Fr.dv (s.data.toList.take (i + 1)) = x * 10 + ((s[i]'hlt).toNat - 48)) := dv_take_next s i x hlt HX.out
      unfold Fr.isDig at hdj
      simp only [Bool.and_eq_true, decide_eq_true_eq] at hdj
      have hd1 : (48 : Int) ≤ ((s[i]'hlt).toNat : Int) := by omega
      have hd2 : ((s[i]'hlt).toNat : Int) ≤ 57 := by omega
      clear hdj
      have HT : (-9223372036854775808 - min (-(((s[i]'hlt).toNat : Int) - 48)) 0).tdiv 10 = -((9223372036854775808 - (((s[i]'hlt).toNat : Int) - 48)) / 10) := by
        rw [show min (-(((s[i]'hlt).toNat : Int) - 48)) 0 = -(((s[i]'hlt).toNat : Int) - 48) by omega, show -9223372036854775808 - -(((s[i]'hlt).toNat : Int) - 48) = -(9223372036854775808 - (((s[i]'hlt).toNat : Int) - 48)) by omega, Int.neg_tdiv, Int.tdiv_eq_ediv_of_nonneg (by omega)]
      by_cases ht : x * 10 + ((s[i]'hlt).toNat - 48) ≤ 9223372036854775808
      · go_wp2_with (go_at_call 55; refine ((C3 _).out).mono ?_; rintro e w' ⟨rfl, rfl⟩)
        exact ⟨⟨i + 1, x * 10 + ((s[i]'hlt).toNat - 48), by omega, by go_num, by congr 1; omega, ht, trivial, HN⟩, by show s.size - ((i : Int) + 1).toNat < s.size - (i : Int).toNat; omega⟩
      · have hR := H2.out (by have h := Fr.dv_take_le s.data.toList (i + 1); rw [HN.out] at h; omega)
        clear H1 H2 HN HX
        subst hR
        go_wp2_with (go_at_call 55; refine ((C3 _).out).mono ?_; rintro e w' ⟨rfl, rfl⟩)
        go_ret2
        exact ⟨rfl, hB.out⟩
    · have hdv : Fr.dv s.data.toList = x := by
        have h := HX.out
        rwa [List.take_of_length_le (by show s.size ≤ i; omega)] at h
      have hR := H1.out (by omega)
      rw [hdv] at hR
      clear H1 H2 HX hdv
      subst hR
      go_wp2_with (go_at_call 55; refine ((C3 _).out).mono ?_; rintro e w' ⟨rfl, rfl⟩)
      go_ret2
      exact ⟨rfl, hB.out⟩

set_option maxRecDepth 100000 in
set_option maxHeartbeats 1000000 in
theorem small_no (a n d : ByteArray) (w : World)
    (CC : ∀ W, Calls Tryz.prog 20 #[.string a] W fun e w' => e = .returned (.int .i64 0) ∧ Below W.heap.size W w')
    (CS : ∀ W, Calls Tryz.prog 50 #[.string a] W fun e w' => e = .returned (.tuple #[.string n, .string d]) ∧ ∃ n, w' = W.drewN n)
    (h : d ≠ ⟨#[49]⟩ ∨ (d = ⟨#[49]⟩ ∧ 19 < (bareB n).size)) :
    Calls Tryz.prog 18 #[.string a] w fun e w' => e = .returned (.tuple #[.int .i64 0, .int .i64 2]) ∧ Below w.heap.size w w' := by
  have C1 := fun W => Lib.hid (CC W)
  have C2 := fun W => Lib.hid (CS W)
  have C3 := fun W => Lib.hid (rbare_any n W)
  clear CC CS
  generalize bareB n = b at *
  rcases h with h | ⟨rfl, h⟩
  · have h9 : ¬ d.toList = [49] := fun h8 => h (by rw [ByteArray.toList_eq] at h8; exact ByteArray.ext (Array.toList_inj.1 h8))
    clear h
    go_enter Tryz.func18, Tryz.ntmps18
    go_wp2_with (first
      | (go_at_call 20; refine ((C1 _).out).mono ?_; rintro e w1 ⟨rfl, hb1⟩)
      | (go_at_call 50; refine ((C2 _).out).mono ?_; rintro e w2 ⟨rfl, n2, rfl⟩)
      | (go_at_call 55; refine ((C3 _).out).mono ?_; rintro e w' ⟨rfl, rfl⟩))
    go_ret2
    exact ⟨rfl, hb1.trans (below_drewN _ n2)⟩
  · go_enter Tryz.func18, Tryz.ntmps18
    go_wp2_with (first
      | (go_at_call 20; refine ((C1 _).out).mono ?_; rintro e w1 ⟨rfl, hb1⟩)
      | (go_at_call 50; refine ((C2 _).out).mono ?_; rintro e w2 ⟨rfl, n2, rfl⟩)
      | (go_at_call 55; refine ((C3 _).out).mono ?_; rintro e w' ⟨rfl, rfl⟩))
    go_ret2
    exact ⟨rfl, hb1.trans (below_drewN _ n2)⟩

theorem rSmall_any (s : ByteArray) (w : World) (hs : s.size ≤ 800) :
    Calls Tryz.prog 18 #[.string s] w fun e w' => e = .returned (.tuple #[.int .i64 (Fr.smallV s.data.toList).1, .int .i64 (Fr.smallV s.data.toList).2]) ∧ Below w.heap.size w w' := by
  by_cases h : Fr.chk s.data.toList = 0
  · have CC := fun W => rCheck_any s W hs
    have CS := fun W => rSplit_any s W (by omega)
    rw [h] at CC
    obtain ⟨h1, h2, h3, h4, h5, h6, h7⟩ := Fr.chk_zero h
    obtain ⟨hn, hd⟩ := Fr.rat_parts h
    have hV : Fr.smallV s.data.toList = if Fr.dv (Fr.denT s.data.toList) = 1 ∧ -9223372036854775808 ≤ Fr.sv (Fr.numT s.data.toList) ∧ Fr.sv (Fr.numT s.data.toList) < 9223372036854775808 then (Fr.sv (Fr.numT s.data.toList), 0) else (0, 2) := by
      unfold Fr.smallV; rw [if_pos h, hn, hd]
    have hdt : Fr.denT s.data.toList = Fr.render (Fr.dv (Fr.denT s.data.toList)) := by
      have h8 := Fr.isInt_render h2
      rw [Fr.bare_of_not h5] at h8
      exact h8.symm
    have hall := Fr.isInt_all h1
    have hsz : (bareB (numB s)).size = (Fr.bare (Fr.numT s.data.toList)).length := rfl
    by_cases hone : Fr.dv (Fr.denT s.data.toList) = 1
    · have hD : denB s = ⟨#[49]⟩ := by
        rw [hone] at hdt
        unfold denB
        rw [hdt]
        rfl
      by_cases hlen : (bareB (numB s)).size ≤ 19
      · have hpos : 0 < (numB s).size := by
          have h8 := Fr.isInt_nonempty h1
          show 0 < (Fr.numT s.data.toList).length
          exact List.length_pos_iff.2 h8
        rw [hD] at CS
        rcases first_neg hpos with ⟨f1, f2⟩ | ⟨f1, f2⟩
        · have f3 : Fr.isNeg (Fr.numT s.data.toList) = true := f2
          have hsv : Fr.sv (Fr.numT s.data.toList) = -(Fr.dv (bareB (numB s)).data.toList : Int) := by unfold Fr.sv; rw [if_pos f3]; rfl
          refine small_neg s (numB s) (bareB (numB s)) w hlen hall hpos f1 _ CC CS (fun W => rbare_any _ W) (fun h8 => ?_) (fun h8 => ?_)
          · rw [hV, if_pos ⟨hone, by rw [hsv]; omega, by rw [hsv]; omega⟩, hsv]
          · rw [hV, if_neg (fun h9 => by rw [hsv] at h9; omega)]
        · have f3 : Fr.isNeg (Fr.numT s.data.toList) = false := f2
          have hb : bareB (numB s) = numB s := by
            apply ByteArray.ext
            show (Fr.bare (Fr.numT s.data.toList)).toArray = (Fr.numT s.data.toList).toArray
            rw [Fr.bare_of_not f3]
          have hsv : Fr.sv (Fr.numT s.data.toList) = (Fr.dv (numB s).data.toList : Int) := by
            unfold Fr.sv; rw [if_neg (by rw [f3]; decide), Fr.bare_of_not f3]; rfl
          have CB := fun W => rbare_any (numB s) W
          rw [hb] at hlen CB
          rw [Fr.bare_of_not f3] at hall
          refine small_pos s (numB s) w hlen hall hpos _ CC CS CB (fun h8 => ?_) (fun h8 => ?_)
          · rw [hV, if_pos ⟨hone, by rw [hsv]; omega, by rw [hsv]; omega⟩, hsv]
          · rw [hV, if_neg (fun h9 => by rw [hsv] at h9; omega)]
      · have hbig : ¬ Fr.dv (Fr.bare (Fr.numT s.data.toList)) < 10 ^ 19 := fun h8 => by
          have h9 := (Fr.render_len (Fr.dv (Fr.bare (Fr.numT s.data.toList))) 19 (by omega)).2 h8
          rw [Fr.isInt_render h1] at h9
          omega
        have hV2 : Fr.smallV s.data.toList = (0, 2) := by
          rw [hV, if_neg (fun h9 => by
            have h10 := h9.2
            unfold Fr.sv at h10
            split at h10 <;> omega)]
        rw [hV2]
        exact small_no s (numB s) (denB s) w CC CS (.inr ⟨hD, by omega⟩)
    · have hV2 : Fr.smallV s.data.toList = (0, 2) := by rw [hV, if_neg (fun h9 => hone h9.1)]
      rw [hV2]
      refine small_no s (numB s) (denB s) w CC CS (.inl fun h8 => hone ?_)
      have h9 : Fr.denT s.data.toList = [49] := congrArg (fun b => b.data.toList) h8
      rw [h9]; rfl
  · have hv : Fr.smallV s.data.toList = (0, Fr.chk s.data.toList) := if_neg h
    rw [hv]
    have CC := Lib.hid (rCheck_any s w hs)
    have hne : (Fr.chk s.data.toList != 0) = true := by simpa using h
    clear h hv
    generalize Fr.chk s.data.toList = c at *
    go_enter Tryz.func18, Tryz.ntmps18
    go_wp2_with (go_at_call 20; refine (CC.out).mono ?_; rintro e w1 ⟨rfl, hb1⟩)
    go_ret2
    exact ⟨rfl, hb1⟩

end Go.Proofs.YtfphnoihkcnleaaGreatDoor
