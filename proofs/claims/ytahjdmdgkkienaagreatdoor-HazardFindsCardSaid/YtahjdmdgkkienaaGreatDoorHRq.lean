/- The reference of package hazard: the function of a form. The reference of package hazard: the points on the way; what a cube has of them. The reference of package hazard: what a form has on the way of a change, and its errors. The reference of package hazard: the errors of a change, Table, Between. -/
import Derived.Test.YtahjdmdgkkienaaGreatDoorHA
import Derived.Test.YtahjdmdgkkienaaGreatDoorUj
import Derived.Test.YtahjdmdgkkienaaGreatDoorKc
import Derived.Test.YtahjdmdgkkienaaGreatDoorHC
namespace Go.Proofs.YtahjdmdgkkienaaGreatDoor
open Go.RowKit Go.Shelf

set_option maxHeartbeats 4000000 in
set_option maxRecDepth 100000 in
theorem rcOwners_any (l : List (Nat × Nat)) (k : Nat) (v : Value) (w : World) (hk : k < 64) (hl : l.length ≤ 4096) (hc : ∀ i, i < l.length → (l.getD i (0, 0)).1 < 2 ^ 64) (hs : SeesO w v l) :
    Calls Tryz.prog 45 #[v, .int .i64 k] w fun e w' => ∃ sv, e = .returned sv ∧ Row w.heap.size .i64 3 w' sv (Tt.pts (fun i => Ic.inn (l.getD i (0, 0)).1 (l.getD i (0, 0)).2 k) l.length) ∧ Below w.heap.size w w' := by
  obtain ⟨i0, hi0, hz0, hz1, hz2⟩ := info_parts Tryz.infoI64
  obtain ⟨ao, cap, rfl, hcap1, hcap2, hcells⟩ := hs.opened
  have HC := Lib.hid hcells
  have CI := fun i (hi : i < l.length) W => Lib.hid (rcIn_any (l.getD i (0, 0)).1 (l.getD i (0, 0)).2 k W hk (hc i hi))
  clear hcells hs hc
  go_enter Tryz.func45, Tryz.ntmps45
  go_wp2
  go_loopw [5, 6] (fun s5 s6 wr => ∃ i : Nat, i ≤ l.length ∧ s6 = .int .i64 i ∧ Row w.heap.size .i64 3 wr s5 (Tt.pts (fun i => Ic.inn (l.getD i (0, 0)).1 (l.getD i (0, 0)).2 k) i) ∧ Hid (Below w.heap.size w wr)) (fun _ s6 _ => l.length - (intOf s6).toNat)
  case atStart => exact ⟨0, Nat.zero_le _, rfl, Row.nil _ _ _ _, Lib.hid (Below.refl _ _)⟩
  case round =>
    obtain ⟨i, hi, rfl, hrow, HB⟩ := hrel
    have RW := Lib.hid hrow
    clear hrow
    by_cases hil : i < l.length
    · obtain ⟨g, off, rfl, hg, c1, c2⟩ := HC.out.at HB.out hil
      have CIi := CI i hil
      have HS := Lib.hid (Tt.pts_succ (fun i => Ic.inn (l.getD i (0, 0)).1 (l.getD i (0, 0)).2 k) i)
      have hlen := Tt.pts_len (fun i => Ic.inn (l.getD i (0, 0)).1 (l.getD i (0, 0)).2 k) i
      clear CI
      generalize Tt.pts (fun i => Ic.inn (l.getD i (0, 0)).1 (l.getD i (0, 0)).2 k) i = q at *
      generalize l.getD i (0, 0) = y at *
      have hwr := HB.out.size
      generalize Ic.inn y.1 y.2 k = b at *
      cases b with
      | false =>
        have HF : Hid (Tt.pts (fun i => Ic.inn (l.getD i (0, 0)).1 (l.getD i (0, 0)).2 k) (i + 1) = q) := Lib.hid (by rw [HS.out]; simp)
        clear HS
        go_wp2_with (first | (go_at_call 65; refine ((CIi _).out).mono ?_; rintro e w3 ⟨rfl, hb⟩; have HB3 := Lib.hid (below_nxt HB.out hb); have RW3 := Lib.hid (RW.out.below hb (Nat.le_refl _)); have hz3 := HB3.out.size; clear hb) | (at_builtin; refine wpList_append_nat rfl _ _ 82 rfl 3 i0 .i64 8 Tryz.underlying82 hi0 hz0 hz1 hz2 (by omega) _ _ q [i] rfl rfl w.heap.size (RW3.out.below ((Below.refl _ _).alloc (Nat.le_refl _) _) (Nat.le_refl _)) ((Row.one 0 _ _ _ (Nat.zero_le _) i _ rfl).sees) (by simp; omega) (by simp; omega) ?_; intro v5 w5 hr5 hb5))
        exact ⟨⟨i + 1, by omega, rfl, by rw [HF.out]; exact RW3.out, HB3⟩, by simp [intOf]; omega⟩
      | true =>
        have HF : Hid (Tt.pts (fun i => Ic.inn (l.getD i (0, 0)).1 (l.getD i (0, 0)).2 k) (i + 1) = q ++ [i]) := Lib.hid (by rw [HS.out]; simp)
        clear HS
        go_wp2_with (first | (go_at_call 65; refine ((CIi _).out).mono ?_; rintro e w3 ⟨rfl, hb⟩; have HB3 := Lib.hid (below_nxt HB.out hb); have RW3 := Lib.hid (RW.out.below hb (Nat.le_refl _)); have hz3 := HB3.out.size; clear hb) | (at_builtin; refine wpList_append_nat rfl _ _ 82 rfl 3 i0 .i64 8 Tryz.underlying82 hi0 hz0 hz1 hz2 (by omega) _ _ q [i] rfl rfl w.heap.size (RW3.out.below ((Below.refl _ _).alloc (Nat.le_refl _) _) (Nat.le_refl _)) ((Row.one 0 _ _ _ (Nat.zero_le _) i _ rfl).sees) (by simp; omega) (by simp; omega) ?_; intro v5 w5 hr5 hb5))
        exact ⟨⟨i + 1, by omega, rfl, by rw [HF.out]; exact hr5, Lib.hid ((below_nxt HB3.out ((Below.refl _ _).alloc (Nat.le_refl _) _)).trans hb5)⟩, by simp [intOf]; omega⟩
    · obtain rfl : i = l.length := by omega
      go_wp2
      exact bodyPost_ret (by simp [results, Tryz.results45, go_sem]) rfl ⟨_, rfl, RW.out, HB.out⟩


set_option maxHeartbeats 4000000 in
set_option maxRecDepth 100000 in
theorem r8Made_any (n : Nat) (l : List (Nat × Nat)) (v : Value) (w : World) (hn : n ≤ 6) (hl : l.length ≤ 4096) (hw : Hz.W64 l) (hs : SeesO w v l) :
    Calls Tryz.prog 23 #[.int .i64 n, v] w fun e w' => e = .returned (.agg #[.int .i64 n, .int .u64 ((Hz.made n l : Nat) : Int)]) ∧ Below w.heap.size w w' := by
  obtain ⟨i0, hi0, hz0, hz1, hz2⟩ := info_parts Tryz.infoI64
  have hN := Tt.size_le hn
  have CS := fun W => Lib.hid (rSize_any n W (by omega) (by omega))
  rw [Int.toNat_natCast] at CS
  have CO := fun k (hk : k < 64) W h => Lib.hid (rcOwners_any l k v W hk hl (fun i hi => (hw.at hi).1) h)
  have CM := fun u W h => Lib.hid (rMade_any n u (Tt.pts (Hz.cv l) (2 ^ n)) W hn h (Nat.le_trans (Tt.pts_len _ _) hN))
  have HMK : Hid (Tt.mk n (inB (Tt.pts (Hz.cv l) (2 ^ n))) = Hz.made n l) := Lib.hid (by
    refine Tt.same (n := n) (Tt.mk_lt _ _) (Hz.made_lt _ _) fun k hk => ?_
    rw [Tt.mk_bit, Hz.made_bit hk]
    have : inB (Tt.pts (Hz.cv l) (2 ^ n)) k = Hz.cv l k := by
      unfold inB Tt.pts
      rw [Bool.eq_iff_iff, List.contains_iff_mem, List.mem_filter, List.mem_range]
      exact ⟨fun h => h.2, fun h => ⟨hk, h⟩⟩
    rw [this]; simp [hk])
  have HCV : Hid (∀ k, (Tt.pts (fun i => Ic.inn (l.getD i (0, 0)).1 (l.getD i (0, 0)).2 k) l.length = []) ↔ Hz.cv l k = false) := Lib.hid (fun k => by
    unfold Tt.pts Hz.cv
    rw [List.filter_eq_nil_iff, List.any_eq_false]
    constructor
    · intro h p hp
      obtain ⟨i, hi, rfl⟩ := List.getElem_of_mem hp
      have := h i (List.mem_range.2 hi)
      rw [List.getD_eq_getElem?_getD, List.getElem?_eq_getElem hi] at this
      exact this
    · intro h i hi
      have hi' := List.mem_range.1 hi
      exact h _ (Hz.getD_mem hi'))
  have HSE := Lib.hid hs
  have HPS := Lib.hid (fun k => Tt.pts_succ (Hz.cv l) k)
  have HPL := Lib.hid (fun k => Tt.pts_len (Hz.cv l) k)
  clear hs hw
  generalize 2 ^ n = N at *
  obtain ⟨PT, LT, zT⟩ := tab1_new w 0 0 29
  have HLT := Lib.hid LT
  clear LT
  go_enter Tryz.func23, Tryz.ntmps23
  go_wp2
  go_loopw [5, 6] (fun s5 s6 wr => ∃ k : Nat, k ≤ N ∧ s6 = .int .i64 k ∧ Row (w.heap.size + 1) .i64 3 wr s5 (Tt.pts (Hz.cv l) k) ∧ TabI wr w.heap.size 0 0 ∧ Hid (Below w.heap.size w wr)) (fun _ s6 _ => N - (intOf s6).toNat)
  case atStart => exact ⟨0, Nat.zero_le _, rfl, Row.nil _ _ _ _, PT, HLT⟩
  case round =>
    clear PT
    obtain ⟨k, hk, rfl, hrow, HT, HB⟩ := hrel
    have RW := Lib.hid hrow
    have HTT := Lib.hid HT
    have hgt := HT.1
    clear hrow
    by_cases hkN : k < N
    · have COk := CO k (by omega)
      have HP := Lib.hid (HPS.out k)
      have hpl := HPL.out k
      have hcv := HCV.out k
      have hpo := Tt.pts_len (fun i => Ic.inn (l.getD i (0, 0)).1 (l.getD i (0, 0)).2 k) l.length
      clear CO HPS HPL HCV HT
      generalize Tt.pts (fun i => Ic.inn (l.getD i (0, 0)).1 (l.getD i (0, 0)).2 k) l.length = own at *
      generalize Tt.pts (Hz.cv l) k = q at *
      go_wp2_with (go_at_call 44; (with_reducible refine ((CS _).out).mono ?_); rintro e w3 ⟨rfl, rfl⟩)
      refine ((COk _ (HSE.out.step HB.out)).out).mono ?_
      rintro e w4 ⟨sv, rfl, hown, hb⟩
      obtain ⟨oo, oc, rfl, ho1, ho2, -⟩ := hown.sees.opened
      have HB4 := Lib.hid (below_nxt HB.out hb)
      have R4 := Lib.hid (RW.out.below hb (Nat.le_refl _))
      have T4 := Lib.hid (HTT.out.step hb)
      have hz4 := hb.size
      clear hb hown
      cases hc : Hz.cv l k
      · have hol : own = [] := hcv.2 hc
        have HF : Hid (Tt.pts (Hz.cv l) (k + 1) = q) := Lib.hid (by rw [HP.out, hc]; simp)
        subst hol
        rw [List.length_nil]
        clear hcv HP
        go_wp2
        exact ⟨⟨k + 1, by omega, rfl, by rw [HF.out]; exact R4.out, T4.out, HB4⟩, by simp [intOf]; omega⟩
      · have hol : 0 < own.length := by
          rcases own with _ | ⟨y, own⟩
          · have := hcv.1 rfl
            rw [hc] at this; cases this
          · simp
        have HF : Hid (Tt.pts (Hz.cv l) (k + 1) = q ++ [k]) := Lib.hid (by rw [HP.out, hc]; simp)
        clear hcv HP
        generalize own.length = on at *
        go_wp2_with (at_builtin; refine wpList_append_nat rfl _ _ 82 rfl 3 i0 .i64 8 Tryz.underlying82 hi0 hz0 hz1 hz2 (by omega) _ _ q [k] rfl rfl (w.heap.size + 1) (R4.out.below ((Below.refl _ _).alloc (Nat.le_refl _) _) (Nat.le_refl _)) ((Row.one 0 _ _ _ (Nat.zero_le _) k _ rfl).sees) (by simp; omega) (by simp; omega) ?_; intro v5 w5 hr5 hb5)
        exact ⟨⟨k + 1, by omega, rfl, by rw [HF.out]; exact hr5, (T4.out.step ((Below.refl _ _).alloc (Nat.le_refl _) _)).below (by omega) hb5, Lib.hid ((HB4.out.alloc HB4.out.size _).trans (hb5.mono (by omega)))⟩, by simp [intOf]; omega⟩
    · obtain rfl : k = N := by omega
      have CMv := CM _ _ RW.out.sees
      rw [HMK.out] at CMv
      go_wp2_with (go_at_call 44; (with_reducible refine ((CS _).out).mono ?_); rintro e w3 ⟨rfl, rfl⟩)
      refine (CMv.out).mono ?_
      rintro e w1 ⟨rfl, hb1⟩
      have zb1 := hb1.size
      have T1' := HT.below (by omega) hb1
      have HW' := Lib.hid (HB.out.trans (hb1.mono (by omega)))
      obtain ⟨s0, s1, s2, s3, s4⟩ := id T1'
      clear hb1 HT HTT CMv CM CO HCV HPS HPL
      go_wp2
      exact bodyPost_ret (v := .agg #[.int .i64 n, .int .u64 (Hz.made n l : Nat)]) (by simp [results, Tryz.results23, go_sem, s1, s2]) rfl ⟨rfl, (HW'.out.setCell (p := ⟨w.heap.size + 0, 0, none⟩) (by show _ ≤ w.heap.size + 0; omega) _).setCell (p := ⟨w.heap.size + 0, 1, none⟩) (by show _ ≤ w.heap.size + 0; omega) _⟩
end Go.Proofs.YtahjdmdgkkienaaGreatDoor

namespace Hz
/-- Is a point on the way, so far as the variables below i say? -/
def smV (a b k : Nat) (i : Nat) : Bool := (List.range i).all fun j => !(a.testBit j == b.testBit j) || k.testBit j == a.testBit j
theorem smV_succ (a b k i : Nat) : smV a b k (i + 1) = (smV a b k i && (!(a.testBit i == b.testBit i) || k.testBit i == a.testBit i)) := by
  unfold smV; rw [List.range_succ, List.all_append]; simp
theorem smV_on (n a b k : Nat) : smV a b k n = onB n a b k := rfl
end Hz
namespace Go.Proofs.YtahjdmdgkkienaaGreatDoor
open Go.RowKit Go.Shelf

theorem eq_bool (x y : Bool) (W : World) : (binOp .eql 4 (.bool x) (.bool y)).run Tryz.prog W = .ok (.bool (x == y)) W := by
  cases x <;> cases y <;> kernel_rfl
theorem neq_bool (x y : Bool) (W : World) : (binOp .neq 4 (.bool x) (.bool y)).run Tryz.prog W = .ok (.bool (x != y)) W := by
  cases x <;> cases y <;> kernel_rfl

set_option maxHeartbeats 4000000 in
set_option maxRecDepth 100000 in
theorem rOn8_any (n a b : Nat) (w : World) (hn : n ≤ 6) (ha : a < 64) (hb : b < 64) :
    Calls Tryz.prog 49 #[.int .i64 n, .int .i64 a, .int .i64 b] w fun e w' => ∃ v, e = .returned v ∧ Row w.heap.size .i64 3 w' v (Hz.way n a b) ∧ Below w.heap.size w w' := by
  obtain ⟨i0, hi0, hz0, hz1, hz2⟩ := info_parts Tryz.infoI64
  have hN := Tt.size_le hn
  have CS : ∀ W, Hid (Calls Tryz.prog 44 #[.int .i64 n] W fun e w' => e = .returned (.int .i64 ((2 ^ n : Nat) : Int)) ∧ W = w') := fun W => Lib.hid ((rSize_any n W (by omega) (by omega)).mono fun e w' h => ⟨by rw [h.1, Int.toNat_natCast], h.2⟩)
  have CH : ∀ k i : Nat, k < 64 → i < 6 → ∀ W, Calls Tryz.prog 71 #[.int .i64 k, .int .i64 i] W fun e w' => e = .returned (.bool (k.testBit i)) ∧ W = w' := fun k i hk hi W => rHas_any k i W hk hi
  unfold Hz.way
  have HPS := Lib.hid (fun k => Tt.pts_succ (Hz.onB n a b) k)
  have HPL := Lib.hid (fun k => Tt.pts_len (Hz.onB n a b) k)
  have HSO := Lib.hid (fun k => Hz.smV_on n a b k)
  generalize 2 ^ n = N at *
  generalize Hz.onB n a b = on at *
  go_enter Tryz.func49, Tryz.ntmps49
  have eqb := eq_bool
  have neb := neq_bool
  go_wp2
  go_loopw [7, 8] (fun s7 s8 wr => ∃ k : Nat, k ≤ N ∧ s8 = .int .i64 k ∧ Row w.heap.size .i64 3 wr s7 (Tt.pts on k) ∧ Hid (Below w.heap.size w wr)) (fun _ s8 _ => N - (intOf s8).toNat)
  case atStart => exact ⟨0, Nat.zero_le _, rfl, Row.nil _ _ _ _, Lib.hid (Below.refl _ _)⟩
  case round =>
    obtain ⟨k, hk, rfl, hrow, HB⟩ := hrel
    have RW := Lib.hid hrow
    clear hrow
    by_cases hkN : k < N
    · have HP := Lib.hid (HPS.out k)
      have hpl := HPL.out k
      have HO := Lib.hid (HSO.out k)
      have hsz := HB.out.size
      obtain ⟨wo, rfl⟩ : ∃ wo, wo = wr := ⟨_, rfl⟩
      clear HPS HPL HSO
      generalize Tt.pts on k = q at *
      go_wp2_with (go_at_call 44; (with_reducible refine ((CS _).out).mono ?_); rintro e w3 ⟨rfl, rfl⟩)
      go_loopw [9, 10] (fun s9 s10 wr => ∃ i : Nat, i ≤ n ∧ s10 = .int .i64 i ∧ s9 = .bool (Hz.smV a b k i) ∧ wr = wo) (fun _ s10 _ => n - (intOf s10).toNat)
      case atStart => exact ⟨0, Nat.zero_le _, rfl, rfl, rfl⟩
      case round =>
        obtain ⟨i, hi, rfl, rfl, rfl⟩ := hrel
        by_cases hin : i < n
        · have CA := fun W => Lib.hid (CH a i ha (by omega) W)
          have CB := fun W => Lib.hid (CH b i hb (by omega) W)
          have CK := fun W => Lib.hid (CH k i (by omega) (by omega) W)
          have hS := Hz.smV_succ a b k i
          clear CH
          generalize a.testBit i = x1 at *
          generalize b.testBit i = x2 at *
          generalize k.testBit i = x3 at *
          generalize Hz.smV a b k i = sv at *
          cases x1 <;> cases x2 <;> cases x3
          all_goals
            have HS := Lib.hid hS
            clear hS
            go_wp2_with (go_at_call 71; (first | (with_reducible refine ((CA _).out).mono ?_) | (with_reducible refine ((CB _).out).mono ?_) | (with_reducible refine ((CK _).out).mono ?_)); rintro e w3 ⟨rfl, rfl⟩)
            exact ⟨⟨i + 1, by omega, rfl, by rw [HS.out]; simp, by first | rfl | trivial⟩, by simp [intOf]; omega⟩
        · obtain rfl : i = n := by omega
          rw [HO.out]
          generalize on k = r at *
          cases r
          · have HF : Hid (Tt.pts on (k + 1) = q) := Lib.hid (by rw [HP.out]; simp)
            clear HP
            go_wp2
            exact ⟨⟨k + 1, by omega, rfl, by rw [HF.out]; exact RW.out, HB⟩, by simp [intOf]; omega⟩
          · have HF : Hid (Tt.pts on (k + 1) = q ++ [k]) := Lib.hid (by rw [HP.out]; simp)
            clear HP
            go_wp2_with (at_builtin; refine wpList_append_nat rfl _ _ 82 rfl 3 i0 .i64 8 Tryz.underlying82 hi0 hz0 hz1 hz2 (by omega) _ _ q [k] rfl rfl w.heap.size (RW.out.below ((Below.refl _ _).alloc (Nat.le_refl _) _) (Nat.le_refl _)) ((Row.one 0 _ _ _ (Nat.zero_le _) k _ rfl).sees) (by simp; omega) (by simp; omega) ?_; intro v5 w5 hr5 hb5)
            exact ⟨⟨k + 1, by omega, rfl, by rw [HF.out]; exact hr5, Lib.hid ((HB.out.alloc HB.out.size _).trans hb5)⟩, by simp [intOf]; omega⟩
    · obtain rfl : k = N := by omega
      go_wp2_with (go_at_call 44; (with_reducible refine ((CS _).out).mono ?_); rintro e w3 ⟨rfl, rfl⟩)
      exact bodyPost_ret (v := u7) (by simp [results, Tryz.results49, go_sem]) rfl ⟨u7, rfl, RW.out, HB.out⟩

set_option maxHeartbeats 4000000 in
set_option maxRecDepth 100000 in
theorem rAll8_any (c v : Nat) (l : List Nat) (pv : Value) (w : World) (hc : c < 2 ^ 64) (hl : ∀ k ∈ l, k < 64) (hs : Sees .i64 w pv l) :
    Calls Tryz.prog 48 #[.agg #[.int .u64 c, .int .u64 v], pv] w fun e w' => e = .returned (.tuple #[.bool (Hz.al l (c, v)), .bool (Hz.so l (c, v))]) ∧ Below w.heap.size w w' := by
  obtain ⟨ao, cap, rfl, hcap1, hcap2, hcells⟩ := hs.opened
  have HC := Lib.hid hcells
  have CI := fun i (hi : i < l.length) W => Lib.hid (rcIn_any c v (l.getD i 0) W (hl _ (by rw [List.getD_eq_getElem?_getD, List.getElem?_eq_getElem hi]; exact List.getElem_mem hi)) hc)
  obtain ⟨P0, L0, z0⟩ := cub1_new w c v 62
  generalize hX : w.alloc (.cells #[.int .u64 (c : Int), .int .u64 (v : Int)] 62) = X at *
  have HL0 := Lib.hid L0
  clear hs hcells hl L0
  go_enter Tryz.func48, Tryz.ntmps48
  have hmix : Tryz.prog.follows .mixedOrders = true := by kernel_rfl
  have HA1 := Lib.hid (fun i (hi : i < l.length) => show Hz.al (l.take (i + 1)) (c, v) = (Hz.al (l.take i) (c, v) && Ic.inn c v (l.getD i 0)) from by
    rw [List.take_add_one, List.getElem?_eq_getElem hi, Option.toList_some, List.getD_eq_getElem?_getD, List.getElem?_eq_getElem hi, Option.getD_some]
    unfold Hz.al; rw [List.all_append]; simp)
  have HS1 := Lib.hid (fun i (hi : i < l.length) => show Hz.so (l.take (i + 1)) (c, v) = (Hz.so (l.take i) (c, v) || Ic.inn c v (l.getD i 0)) from by
    rw [List.take_add_one, List.getElem?_eq_getElem hi, Option.toList_some, List.getD_eq_getElem?_getD, List.getElem?_eq_getElem hi, Option.getD_some]
    unfold Hz.so; rw [List.any_append]; simp)
  go_wp2
  go_loopw [6, 7, 8] (fun s6 s7 s8 wr => ∃ i : Nat, i ≤ l.length ∧ s8 = .int .i64 i ∧ s6 = .bool (Hz.al (l.take i) (c, v)) ∧ s7 = .bool (Hz.so (l.take i) (c, v)) ∧ Hid (Below X.heap.size X wr)) (fun _ _ s8 _ => l.length - (intOf s8).toNat)
  case atStart => exact ⟨0, Nat.zero_le _, rfl, rfl, rfl, Lib.hid (Below.refl _ _)⟩
  case round =>
    obtain ⟨i, hi, rfl, rfl, rfl, HB⟩ := hrel
    have HW := Lib.hid (HL0.out.trans (HB.out.mono HL0.out.size))
    obtain ⟨p0, p1, p2, -, -⟩ := P0.step HB.out
    by_cases hil : i < l.length
    · obtain ⟨g, off, rfl, hg, c1⟩ := HC.out.at HW.out hil
      have CIi := CI i hil
      have HA := Lib.hid (HA1.out i hil)
      have HS := Lib.hid (HS1.out i hil)
      clear CI HA1 HS1
      generalize Hz.al (l.take i) (c, v) = x at *
      generalize Hz.so (l.take i) (c, v) = y at *
      generalize l.getD i 0 = k at *
      generalize Ic.inn c v k = r at *
      have hgr : g < wr.heap.size := Nat.lt_of_lt_of_le hg HW.out.size
      cases x <;> cases y
      · go_wp2
        go_quiet (fail)
        have HQ1 := Lib.hid (below_drewN (B := wr.heap.size) wr nq)
        generalize hV1 : wr.drewN nq = V1 at *
        have q0 : w.heap.size < V1.heap.size := Nat.lt_of_lt_of_le p0 HQ1.out.size
        have q1 := (HQ1.out.cell (p := ⟨w.heap.size, 0, none⟩) p0).trans p1
        have q2 := (HQ1.out.cell (p := ⟨w.heap.size, 1, none⟩) p0).trans p2
        have d1 := (HQ1.out.cell (p := ⟨g, off + i, none⟩) hgr).trans c1
        have hgr2 : g < V1.heap.size := Nat.lt_of_lt_of_le hgr HQ1.out.size
        go_wp2
        have HD6 := Lib.hid ((Below.refl V1.heap.size V1).drew)
        have g1 : V1.drew.cell? ⟨w.heap.size, 0, none⟩ = some (.int .u64 (c : Int)) := q1
        have g2 : V1.drew.cell? ⟨w.heap.size, 1, none⟩ = some (.int .u64 (v : Int)) := q2
        have g3 : V1.drew.cell? ⟨g, off + i, none⟩ = some (.int .i64 (k : Int)) := d1
        go_region_held3 (fun V => ((V.cell? ⟨w.heap.size, 0, none⟩ = some (.int .u64 (c : Int)) ∧ V.cell? ⟨w.heap.size, 1, none⟩ = some (.int .u64 (v : Int))) ∧ V.cell? ⟨g, off + i, none⟩ = some (.int .i64 (k : Int))) ∧ Hid (Below V1.heap.size V1 V))
          (first | (refine ⟨⟨⟨?_, ?_⟩, ?_⟩, ?_⟩ <;> with_reducible assumption) | (go_split_ands; refine ⟨⟨⟨?_, ?_⟩, ?_⟩, ?_⟩ <;> with_reducible assumption))
          (first | (go_at_call 65; (with_reducible refine ((CIi _).out).mono ?_); rintro e w6 ⟨rfl, hw6⟩; have hb6 := below_nxt HD6.out hw6; have HB6 := Lib.hid hb6; have k1 := (hb6.cell (p := ⟨w.heap.size, 0, none⟩) q0).trans q1; have k2 := (hb6.cell (p := ⟨w.heap.size, 1, none⟩) q0).trans q2; have k3 := (hb6.cell (p := ⟨g, off + i, none⟩) hgr2).trans d1; clear hb6 hw6))
        go_wp2
        exact ⟨⟨i + 1, by omega, rfl, by rw [HA.out]; simp, by rw [HS.out]; simp, Lib.hid ((HB.out.trans (HQ1.out.mono HB.out.size)).trans (HB6.out.mono (HB.out.trans (HQ1.out.mono HB.out.size)).size))⟩, by simp [intOf]; omega⟩
      · go_wp2
        go_quiet (fail)
        have HQ1 := Lib.hid (below_drewN (B := wr.heap.size) wr nq)
        generalize hV1 : wr.drewN nq = V1 at *
        have q0 : w.heap.size < V1.heap.size := Nat.lt_of_lt_of_le p0 HQ1.out.size
        have q1 := (HQ1.out.cell (p := ⟨w.heap.size, 0, none⟩) p0).trans p1
        have q2 := (HQ1.out.cell (p := ⟨w.heap.size, 1, none⟩) p0).trans p2
        have d1 := (HQ1.out.cell (p := ⟨g, off + i, none⟩) hgr).trans c1
        have hgr2 : g < V1.heap.size := Nat.lt_of_lt_of_le hgr HQ1.out.size
        go_wp2
        go_quiet (fail)
        go_wp2
        exact ⟨⟨i + 1, by omega, rfl, by rw [HA.out]; simp, by rw [HS.out]; simp, Lib.hid ((HB.out.trans (HQ1.out.mono HB.out.size)).trans (below_drewN V1 _))⟩, by simp [intOf]; omega⟩
      · go_wp2
        have HD5 := Lib.hid ((Below.refl wr.heap.size wr).drew)
        have g1 : wr.drew.cell? ⟨w.heap.size, 0, none⟩ = some (.int .u64 (c : Int)) := p1
        have g2 : wr.drew.cell? ⟨w.heap.size, 1, none⟩ = some (.int .u64 (v : Int)) := p2
        have g3 : wr.drew.cell? ⟨g, off + i, none⟩ = some (.int .i64 (k : Int)) := c1
        go_region_held3 (fun V => ((V.cell? ⟨w.heap.size, 0, none⟩ = some (.int .u64 (c : Int)) ∧ V.cell? ⟨w.heap.size, 1, none⟩ = some (.int .u64 (v : Int))) ∧ V.cell? ⟨g, off + i, none⟩ = some (.int .i64 (k : Int))) ∧ Hid (Below wr.heap.size wr V))
          (first | (refine ⟨⟨⟨?_, ?_⟩, ?_⟩, ?_⟩ <;> with_reducible assumption) | (go_split_ands; refine ⟨⟨⟨?_, ?_⟩, ?_⟩, ?_⟩ <;> with_reducible assumption))
          (first | (go_at_call 65; (with_reducible refine ((CIi _).out).mono ?_); rintro e w5 ⟨rfl, hw5⟩; have hb5 := below_nxt HD5.out hw5; have HB5 := Lib.hid hb5; have k1 := (hb5.cell (p := ⟨w.heap.size, 0, none⟩) p0).trans p1; have k2 := (hb5.cell (p := ⟨w.heap.size, 1, none⟩) p0).trans p2; have k3 := (hb5.cell (p := ⟨g, off + i, none⟩) hgr).trans c1; clear hb5 hw5))
        have q0 : w.heap.size < w5.heap.size := Nat.lt_of_lt_of_le p0 HB5.out.size
        have q1 := (HB5.out.cell (p := ⟨w.heap.size, 0, none⟩) p0).trans p1
        have q2 := (HB5.out.cell (p := ⟨w.heap.size, 1, none⟩) p0).trans p2
        have d1 := (HB5.out.cell (p := ⟨g, off + i, none⟩) hgr).trans c1
        have hgr2 : g < w5.heap.size := Nat.lt_of_lt_of_le hgr HB5.out.size
        go_wp2
        have HD6 := Lib.hid ((Below.refl w5.heap.size w5).drew)
        have g1 : w5.drew.cell? ⟨w.heap.size, 0, none⟩ = some (.int .u64 (c : Int)) := q1
        have g2 : w5.drew.cell? ⟨w.heap.size, 1, none⟩ = some (.int .u64 (v : Int)) := q2
        have g3 : w5.drew.cell? ⟨g, off + i, none⟩ = some (.int .i64 (k : Int)) := d1
        go_region_held3 (fun V => ((V.cell? ⟨w.heap.size, 0, none⟩ = some (.int .u64 (c : Int)) ∧ V.cell? ⟨w.heap.size, 1, none⟩ = some (.int .u64 (v : Int))) ∧ V.cell? ⟨g, off + i, none⟩ = some (.int .i64 (k : Int))) ∧ Hid (Below w5.heap.size w5 V))
          (first | (refine ⟨⟨⟨?_, ?_⟩, ?_⟩, ?_⟩ <;> with_reducible assumption) | (go_split_ands; refine ⟨⟨⟨?_, ?_⟩, ?_⟩, ?_⟩ <;> with_reducible assumption))
          (first | (go_at_call 65; (with_reducible refine ((CIi _).out).mono ?_); rintro e w6 ⟨rfl, hw6⟩; have hb6 := below_nxt HD6.out hw6; have HB6 := Lib.hid hb6; have k1 := (hb6.cell (p := ⟨w.heap.size, 0, none⟩) q0).trans q1; have k2 := (hb6.cell (p := ⟨w.heap.size, 1, none⟩) q0).trans q2; have k3 := (hb6.cell (p := ⟨g, off + i, none⟩) hgr2).trans d1; clear hb6 hw6))
        go_wp2
        exact ⟨⟨i + 1, by omega, rfl, by rw [HA.out]; simp, by rw [HS.out]; simp, Lib.hid ((HB.out.trans (HB5.out.mono HB.out.size)).trans (HB6.out.mono (HB.out.trans (HB5.out.mono HB.out.size)).size))⟩, by simp [intOf]; omega⟩
      · go_wp2
        have HD5 := Lib.hid ((Below.refl wr.heap.size wr).drew)
        have g1 : wr.drew.cell? ⟨w.heap.size, 0, none⟩ = some (.int .u64 (c : Int)) := p1
        have g2 : wr.drew.cell? ⟨w.heap.size, 1, none⟩ = some (.int .u64 (v : Int)) := p2
        have g3 : wr.drew.cell? ⟨g, off + i, none⟩ = some (.int .i64 (k : Int)) := c1
        go_region_held3 (fun V => ((V.cell? ⟨w.heap.size, 0, none⟩ = some (.int .u64 (c : Int)) ∧ V.cell? ⟨w.heap.size, 1, none⟩ = some (.int .u64 (v : Int))) ∧ V.cell? ⟨g, off + i, none⟩ = some (.int .i64 (k : Int))) ∧ Hid (Below wr.heap.size wr V))
          (first | (refine ⟨⟨⟨?_, ?_⟩, ?_⟩, ?_⟩ <;> with_reducible assumption) | (go_split_ands; refine ⟨⟨⟨?_, ?_⟩, ?_⟩, ?_⟩ <;> with_reducible assumption))
          (first | (go_at_call 65; (with_reducible refine ((CIi _).out).mono ?_); rintro e w5 ⟨rfl, hw5⟩; have hb5 := below_nxt HD5.out hw5; have HB5 := Lib.hid hb5; have k1 := (hb5.cell (p := ⟨w.heap.size, 0, none⟩) p0).trans p1; have k2 := (hb5.cell (p := ⟨w.heap.size, 1, none⟩) p0).trans p2; have k3 := (hb5.cell (p := ⟨g, off + i, none⟩) hgr).trans c1; clear hb5 hw5))
        have q0 : w.heap.size < w5.heap.size := Nat.lt_of_lt_of_le p0 HB5.out.size
        have q1 := (HB5.out.cell (p := ⟨w.heap.size, 0, none⟩) p0).trans p1
        have q2 := (HB5.out.cell (p := ⟨w.heap.size, 1, none⟩) p0).trans p2
        have d1 := (HB5.out.cell (p := ⟨g, off + i, none⟩) hgr).trans c1
        have hgr2 : g < w5.heap.size := Nat.lt_of_lt_of_le hgr HB5.out.size
        go_wp2
        go_quiet (fail)
        go_wp2
        exact ⟨⟨i + 1, by omega, rfl, by rw [HA.out]; simp, by rw [HS.out]; simp, Lib.hid ((HB.out.trans (HB5.out.mono HB.out.size)).trans (below_drewN w5 _))⟩, by simp [intOf]; omega⟩
    · obtain rfl : i = l.length := by omega
      rw [List.take_length]
      go_wp2
      exact bodyPost_ret (v := .tuple #[.bool (Hz.al l (c, v)), .bool (Hz.so l (c, v))]) (by simp [results, Tryz.results48, go_sem]) rfl ⟨rfl, HW.out⟩
end Go.Proofs.YtahjdmdgkkienaaGreatDoor

namespace Go.Proofs.YtahjdmdgkkienaaGreatDoor
open Go.RowKit Go.Shelf


set_option maxHeartbeats 4000000 in
set_option maxRecDepth 100000 in
theorem rState_any (n a b : Nat) (l : List (Nat × Nat)) (v : Value) (w : World) (hn : n ≤ 6) (ha : a < 64) (hb : b < 64) (hw : Hz.W64 l) (hs : SeesO w v l) :
    Calls Tryz.prog 27 #[.int .i64 n, v, .int .i64 a, .int .i64 b] w fun e w' => e = .returned (.int .i64 (Hz.st (Hz.way n a b) l)) ∧ Below w.heap.size w w' := by
  obtain ⟨ao, cap, rfl, hcap1, hcap2, hcells⟩ := hs.opened
  have HC := Lib.hid hcells
  have CO := fun W => Lib.hid (rOn8_any n a b W hn ha hb)
  have hW : ∀ k ∈ Hz.way n a b, k < 64 := fun k hk => Nat.lt_of_lt_of_le (Hz.way_mem.1 hk).1 (Tt.size_le hn)
  have CA := fun i (hi : i < l.length) pv W h => Lib.hid (rAll8_any (l.getD i (0, 0)).1 (l.getD i (0, 0)).2 (Hz.way n a b) pv W (hw.at hi).1 hW h)
  have HEND : Hid (∀ r : Nat, (∀ p ∈ l, Hz.al (Hz.way n a b) p = false) → r = (if (l.any (Hz.so (Hz.way n a b))) = true then 2 else 0) → r = Hz.st (Hz.way n a b) l) := Lib.hid (fun r h1 h2 => by
    have h0 : l.any (Hz.al (Hz.way n a b)) = false := List.any_eq_false.2 (fun p hp => by simp [h1 p hp])
    unfold Hz.st
    rw [h0]; simpa using h2)
  have HONE : Hid (∀ i, i < l.length → Hz.al (Hz.way n a b) (l.getD i (0, 0)) = true → Hz.st (Hz.way n a b) l = 1) := Lib.hid (fun i hi h => by
    have h0 : l.any (Hz.al (Hz.way n a b)) = true := List.any_eq_true.2 ⟨_, Hz.getD_mem hi, h⟩
    unfold Hz.st
    rw [h0]; rfl)
  obtain ⟨F, F0, FS, FE⟩ : ∃ F : Nat → Nat, F 0 = 0 ∧ Hid (∀ i, i < l.length → F (i + 1) = if Hz.so (Hz.way n a b) (l.getD i (0, 0)) = true then 2 else F i) ∧ Hid (F l.length = if (l.any (Hz.so (Hz.way n a b))) = true then 2 else 0) := by
    refine ⟨fun i => if (l.take i).any (Hz.so (Hz.way n a b)) = true then 2 else 0, by simp, Lib.hid ?_, Lib.hid ?_⟩
    · intro i hi
      simp only [Hz.take_at hi, List.any_append, List.any_cons, List.any_nil, Bool.or_false]
      cases (l.take i).any (Hz.so (Hz.way n a b)) <;> cases Hz.so (Hz.way n a b) (l.getD i (0, 0)) <;> rfl
    · simp only [List.take_length]
  clear hcells hs hW
  generalize Hz.way n a b = W8 at *
  generalize Hz.st W8 l = R at *
  go_enter Tryz.func27, Tryz.ntmps27
  go_wp2
  go_loopw [9, 10] (fun s9 s10 wr => ∃ i : Nat, i ≤ l.length ∧ s10 = .int .i64 i ∧ s9 = .int .i64 (F i) ∧ Hid (∀ j, j < i → Hz.al W8 (l.getD j (0, 0)) = false) ∧ Hid (Below w.heap.size w wr)) (fun _ s10 _ => l.length - (intOf s10).toNat)
  case atStart => exact ⟨0, Nat.zero_le _, rfl, by rw [F0]; rfl, Lib.hid (fun j h => by omega), Lib.hid (Below.refl _ _)⟩
  case round =>
    obtain ⟨i, hi, rfl, rfl, HJ, HB⟩ := hrel
    have hwr := HB.out.size
    by_cases hil : i < l.length
    · obtain ⟨g, off, rfl, hg, c1, c2⟩ := HC.out.at HB.out hil
      have CAi := CA i hil
      have FSi := FS.out i hil
      have ONEi := HONE.out i hil
      have HJ2 : Hid (Hz.al W8 (l.getD i (0, 0)) = false → ∀ j, j < i + 1 → Hz.al W8 (l.getD j (0, 0)) = false) := Lib.hid (fun h j hj => by
        by_cases e : j = i
        · rw [e]; exact h
        · exact HJ.out j (by omega))
      clear CA FS HONE HJ HEND HC hw FE F0
      obtain ⟨f0, HF0⟩ : ∃ f0, Hid (F i = f0) := ⟨_, Lib.hid rfl⟩
      rw [HF0.out] at FSi ⊢
      generalize hy : l.getD i (0, 0) = y at *
      obtain ⟨yc, yv⟩ := y
      simp only at CAi c1 c2
      clear hy
      cases hal : Hz.al W8 (yc, yv)
      · have HJ3 := Lib.hid (HJ2.out hal)
        clear HJ2 ONEi
        rw [hal] at CAi
        cases hso : Hz.so W8 (yc, yv)
        · rw [hso] at CAi FSi
          have HF : Hid (F (i + 1) = f0) := Lib.hid (by simpa using FSi)
          clear FSi hso hal HF0
          go_wp2
          go_region_with (first | (go_at_call 49; go_loud ((with_reducible refine ((CO _).out).mono ?_); rintro e w3 ⟨ov, rfl, hr, hb⟩; have hb := ((Below.refl wr.heap.size wr).drew).trans hb; have HB3 := Lib.hid hb; have HR := Lib.hid hr.sees; have hgr := Nat.lt_of_lt_of_le hg hwr; have d1 := (hb.cell (p := ⟨g, off + i * 2, none⟩) hgr).trans c1; have d2 := (hb.cell (p := ⟨g, off + i * 2 + 1, none⟩) hgr).trans c2; clear hb hr)) | (go_at_call 48; (with_reducible refine ((CAi _ _ HR.out).out).mono ?_); rintro e w4 ⟨rfl, hb⟩; have HB4 := Lib.hid (below_nxt HB3.out hb); clear hb))
          all_goals (go_wp2; exact ⟨⟨i + 1, by omega, rfl, by rw [HF.out], HJ3, Lib.hid (below_nxt HB.out HB4.out)⟩, by simp [intOf]; omega⟩)
        · rw [hso] at CAi FSi
          have HF : Hid (F (i + 1) = 2) := Lib.hid (by simpa using FSi)
          clear FSi hso hal HF0
          go_wp2
          go_region_with (first | (go_at_call 49; go_loud ((with_reducible refine ((CO _).out).mono ?_); rintro e w3 ⟨ov, rfl, hr, hb⟩; have hb := ((Below.refl wr.heap.size wr).drew).trans hb; have HB3 := Lib.hid hb; have HR := Lib.hid hr.sees; have hgr := Nat.lt_of_lt_of_le hg hwr; have d1 := (hb.cell (p := ⟨g, off + i * 2, none⟩) hgr).trans c1; have d2 := (hb.cell (p := ⟨g, off + i * 2 + 1, none⟩) hgr).trans c2; clear hb hr)) | (go_at_call 48; (with_reducible refine ((CAi _ _ HR.out).out).mono ?_); rintro e w4 ⟨rfl, hb⟩; have HB4 := Lib.hid (below_nxt HB3.out hb); clear hb))
          all_goals (go_wp2; exact ⟨⟨i + 1, by omega, rfl, by rw [HF.out]; rfl, HJ3, Lib.hid (below_nxt HB.out HB4.out)⟩, by simp [intOf]; omega⟩)
      · rw [hal] at CAi
        have HR1 : Hid (R = 1) := Lib.hid (ONEi hal)
        clear FSi HJ2 ONEi hal HF0
        generalize Hz.so W8 (yc, yv) = z at *
        go_wp2
        go_region_with (first | (go_at_call 49; go_loud ((with_reducible refine ((CO _).out).mono ?_); rintro e w3 ⟨ov, rfl, hr, hb⟩; have hb := ((Below.refl wr.heap.size wr).drew).trans hb; have HB3 := Lib.hid hb; have HR := Lib.hid hr.sees; have hgr := Nat.lt_of_lt_of_le hg hwr; have d1 := (hb.cell (p := ⟨g, off + i * 2, none⟩) hgr).trans c1; have d2 := (hb.cell (p := ⟨g, off + i * 2 + 1, none⟩) hgr).trans c2; clear hb hr)) | (go_at_call 48; (with_reducible refine ((CAi _ _ HR.out).out).mono ?_); rintro e w4 ⟨rfl, hb⟩; have HB4 := Lib.hid (below_nxt HB3.out hb); clear hb))
        all_goals (go_wp2; exact bodyPost_ret (v := .int .i64 1) (by simp [results, Tryz.results27, go_sem]) rfl ⟨by rw [HR1.out]; rfl, below_nxt HB.out HB4.out⟩)
    · obtain rfl : i = l.length := by omega
      have HRE := HEND.out (F l.length) (fun p hp => by
        obtain ⟨j, hj, rfl⟩ := List.getElem_of_mem hp
        have := HJ.out j hj
        rw [List.getD_eq_getElem?_getD, List.getElem?_eq_getElem hj] at this
        exact this) FE.out
      clear HEND CA CO FS FE HONE HJ HC
      go_wp2
      exact bodyPost_ret (v := .int .i64 (F l.length)) (by simp [results, Tryz.results27, go_sem]) rfl ⟨by rw [HRE], HB.out⟩
end Go.Proofs.YtahjdmdgkkienaaGreatDoor

namespace Go.Proofs.YtahjdmdgkkienaaGreatDoor
open Go.RowKit Go.Shelf

set_option maxHeartbeats 4000000 in
set_option maxRecDepth 100000 in
theorem r8Given_any (n : Int) (l : List (Nat × Nat)) (sv : Value) (a b : Int) (w : World) (hw : Hz.W64 l) (hs : SeesO w sv l) :
    Calls Tryz.prog 26 #[.int .i64 n, sv, .int .i64 a, .int .i64 b] w fun e w' => e = .returned (.int .i64 (Hz.chg n l a b)) ∧ Below w.heap.size w w' := by
  have CK := Lib.hid (rhCheck_any n l sv w hw hs)
  by_cases hk : Hz.chk n l = 0
  · obtain ⟨m, rfl, hm, -, -⟩ := Hz.chk_ok (fun p hp => (hw p hp).2) hk
    have CS := fun W => Lib.hid (rSize_any m W (by omega) (by omega))
    rw [Int.toNat_natCast] at CS
    have HG : Hid (Hz.chg m l a b = if a < 0 ∨ ((2 ^ m : Nat) : Int) ≤ a ∨ b < 0 ∨ ((2 ^ m : Nat) : Int) ≤ b then 2 else 0) := Lib.hid (by
      unfold Hz.chg
      rw [if_neg (by simp [hk]), Int.toNat_natCast]
      simp)
    rw [hk] at CK
    generalize Hz.chg m l a b = r at *
    generalize ((2 ^ m : Nat) : Int) = N at *
    clear hw hs hk
    go_enter Tryz.func26, Tryz.ntmps26
    go_wp2_with (first | (go_at_call 14; (with_reducible refine (CK.out).mono ?_); rintro e w1 ⟨rfl, hb⟩; have HB := Lib.hid hb; clear hb) | (go_at_call 44; (with_reducible refine ((CS _).out).mono ?_); rintro e w2 ⟨rfl, rfl⟩))
    all_goals first | omega | (go_ret; refine ⟨?_, HB.out⟩; first | (rw [HG.out, if_pos (by omega)]; done) | (rw [HG.out, if_neg (by omega)]; done) | (rw [HG.out, if_pos (by omega)]; rfl) | (rw [HG.out, if_neg (by omega)]; rfl))
  · have HG : Hid (Hz.chg n l a b = Hz.chk n l) := Lib.hid (by unfold Hz.chg; rw [if_pos hk])
    have hne : (Hz.chk n l != 0) = true := by simp [hk]
    rw [HG.out]
    generalize Hz.chk n l = k at *
    clear hw hs HG
    go_enter Tryz.func26, Tryz.ntmps26
    go_wp2_with (go_at_call 14; (with_reducible refine (CK.out).mono ?_); rintro e w1 ⟨rfl, hb⟩; have HB := Lib.hid hb; clear hb)
    exact bodyPost_ret (v := .int .i64 k) (by simp [results, Tryz.results26, go_sem]) rfl ⟨rfl, HB.out⟩

def Hz.tabV (n : Int) (l : List (Nat × Nat)) : (Int × Nat) × Int := if Hz.chk n l = 0 then ((n, Hz.made n.toNat l), 0) else ((0, 0), Hz.chk n l)

set_option maxHeartbeats 4000000 in
set_option maxRecDepth 100000 in
theorem r8Table_any (n : Int) (l : List (Nat × Nat)) (sv : Value) (w : World) (hw : Hz.W64 l) (hs : SeesO w sv l) :
    Calls Tryz.prog 8 #[.int .i64 n, sv] w fun e w' => e = .returned (.tuple #[.agg #[.int .i64 (Hz.tabV n l).1.1, .int .u64 ((Hz.tabV n l).1.2 : Nat)], .int .i64 (Hz.tabV n l).2]) ∧ Below w.heap.size w w' := by
  have CK := fun W h => Lib.hid (rhCheck_any n l sv W hw h)
  have HSE := Lib.hid hs
  obtain ⟨PT, LT, zT⟩ : TabI (w.alloc (.cells #[.int .i64 0, .int .u64 0] 29)) w.heap.size 0 0 ∧ Below w.heap.size w (w.alloc (.cells #[.int .i64 0, .int .u64 0] 29)) ∧ (w.alloc (.cells #[.int .i64 0, .int .u64 0] 29)).heap.size = w.heap.size + 1 := tab1_new w 0 0 29
  have HLT := Lib.hid LT
  clear LT
  by_cases hk : Hz.chk n l = 0
  · have hv : Hz.tabV n l = ((n, Hz.made n.toNat l), 0) := if_pos hk
    rw [hv]
    obtain ⟨m, rfl, hm, hle, -⟩ := Hz.chk_ok (fun p hp => (hw p hp).2) hk
    rw [hk] at CK
    have CM := fun W h => Lib.hid (r8Made_any m l sv W hm (by omega) hw h)
    simp only [Int.toNat_natCast]
    generalize Hz.made m l = t at *
    clear hv hk hw hs
    go_enter Tryz.func8, Tryz.ntmps8
    go_wp2_with (first | (go_at_call 14; (with_reducible refine ((CK _ (HSE.out.step HLT.out)).out).mono ?_); rintro e w1 ⟨rfl, hb⟩; have T1 := PT.step hb; have HB1 := Lib.hid (below_nxt HLT.out hb); clear hb) | (go_at_call 23; (with_reducible refine ((CM _ (HSE.out.step HB1.out)).out).mono ?_); rintro e w2 ⟨rfl, hb⟩; have T2 := T1.step hb; obtain ⟨s0, s1, s2, s3, s4⟩ := id T2; have HB2 := Lib.hid (below_nxt HB1.out hb); clear hb))
    exact bodyPost_ret (v := .tuple #[.agg #[.int .i64 m, .int .u64 t], .int .i64 0]) (by simp [results, Tryz.results8, go_sem, s1, s2]) rfl ⟨rfl, (HB2.out.setCell (p := ⟨w.heap.size + 0, 0, none⟩) (by show _ ≤ w.heap.size + 0; omega) _).setCell (p := ⟨w.heap.size + 0, 1, none⟩) (by show _ ≤ w.heap.size + 0; omega) _⟩
  · have hv : Hz.tabV n l = ((0, 0), Hz.chk n l) := if_neg hk
    rw [hv]
    have hne : (Hz.chk n l != 0) = true := by simp [hk]
    generalize Hz.chk n l = k at *
    clear hv hk hw hs
    go_enter Tryz.func8, Tryz.ntmps8
    go_wp2_with (go_at_call 14; (with_reducible refine ((CK _ (HSE.out.step HLT.out)).out).mono ?_); rintro e w1 ⟨rfl, hb⟩; have T1 := PT.step hb; obtain ⟨s0, s1, s2, s3, s4⟩ := id T1; have HB1 := Lib.hid (below_nxt HLT.out hb); clear hb)
    exact bodyPost_ret (v := .tuple #[.agg #[.int .i64 0, .int .u64 (0 : Nat)], .int .i64 k]) (by simp [results, Tryz.results8, go_sem, s1, s2]) rfl ⟨rfl, (HB1.out.setCell (p := ⟨w.heap.size + 0, 0, none⟩) (by show _ ≤ w.heap.size + 0; omega) _).setCell (p := ⟨w.heap.size + 0, 1, none⟩) (by show _ ≤ w.heap.size + 0; omega) _⟩

set_option maxHeartbeats 4000000 in
set_option maxRecDepth 100000 in
theorem r8Bet_any (n : Int) (l : List (Nat × Nat)) (sv : Value) (a b : Int) (w : World) (hw : Hz.W64 l) (hs : SeesO w sv l) :
    Calls Tryz.prog 10 #[.int .i64 n, sv, .int .i64 a, .int .i64 b] w fun e w' => e = .returned (.tuple #[.int .i64 ((Hz.betV n l a b).1 : Nat), .int .i64 (Hz.betV n l a b).2]) ∧ Below w.heap.size w w' := by
  have CK := Lib.hid (r8Given_any n l sv a b w hw hs)
  have HSE := Lib.hid hs
  by_cases h : Hz.chg n l a b = 0
  · have hv : Hz.betV n l a b = (Hz.sm n.toNat a.toNat b.toNat l, 0) := if_pos h
    rw [hv]
    rw [h] at CK
    obtain ⟨m, x, y, rfl, rfl, rfl, hm, hx, hy, -, ho⟩ := Hz.chg_ok (fun p hp => (hw p hp).2) h
    simp only [Int.toNat_natCast]
    have hN := Tt.size_le hm
    have CS := fun W h => Lib.hid (rState_any m x y l sv W hm (by omega) (by omega) hw h)
    rw [Hz.sm_st hm hx hy ho]
    generalize Hz.st (Hz.way m x y) l = r at *
    clear hv h hw hs ho hm hx hy
    go_enter Tryz.func10, Tryz.ntmps10
    go_wp2_with (first | (go_at_call 26; (with_reducible refine (CK.out).mono ?_); rintro e w1 ⟨rfl, hb⟩; have HB1 := Lib.hid hb; clear hb) | (go_at_call 27; (with_reducible refine ((CS _ (HSE.out.step HB1.out)).out).mono ?_); rintro e w2 ⟨rfl, hb⟩; have HB2 := Lib.hid (below_nxt HB1.out hb); clear hb))
    exact bodyPost_ret (v := .tuple #[.int .i64 r, .int .i64 0]) (by simp [results, Tryz.results10, go_sem]) rfl ⟨rfl, HB2.out⟩
  · have hv : Hz.betV n l a b = (0, Hz.chg n l a b) := if_neg h
    rw [hv]
    have hne : (Hz.chg n l a b != 0) = true := by simp [h]
    generalize Hz.chg n l a b = k at *
    clear hv h hw hs
    go_enter Tryz.func10, Tryz.ntmps10
    go_wp2_with (go_at_call 26; (with_reducible refine (CK.out).mono ?_); rintro e w1 ⟨rfl, hb⟩; have HB1 := Lib.hid hb; clear hb)
    exact bodyPost_ret (v := .tuple #[.int .i64 0, .int .i64 k]) (by simp [results, Tryz.results10, go_sem]) rfl ⟨rfl, HB1.out⟩
end Go.Proofs.YtahjdmdgkkienaaGreatDoor
