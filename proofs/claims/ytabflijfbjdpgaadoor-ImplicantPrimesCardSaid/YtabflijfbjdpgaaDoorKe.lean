/- Owners of the reference; Primes of wrong tasks, on both sides; Primes of the reference. -/
import Derived.Test.YtabflijfbjdpgaaDoorKd
namespace Go.Proofs.YtabflijfbjdpgaaDoor
open Go.RowKit Go.Shelf

set_option maxHeartbeats 4000000 in
set_option maxRecDepth 100000 in
theorem rcOwners_any (l : List (Nat × Nat)) (k : Nat) (v : Value) (w : World) (hk : k < 64) (hl : l.length ≤ 4096) (hc : ∀ i, i < l.length → (l.getD i (0, 0)).1 < 2 ^ 64) (hs : SeesC w v l) :
    Calls Tryd.prog 73 #[v, .int .i64 k] w fun e w' => ∃ sv, e = .returned sv ∧ Row w.heap.size .i64 3 w' sv (Tt.pts (fun i => Ic.inn (l.getD i (0, 0)).1 (l.getD i (0, 0)).2 k) l.length) ∧ Below w.heap.size w w' := by
  obtain ⟨i0, hi0, hz0, hz1, hz2⟩ := info_parts Tryd.infoI64
  obtain ⟨ao, cap, rfl, hcap1, hcap2, hcells⟩ := hs.opened
  have HC := Lib.hid hcells
  have CI := fun i (hi : i < l.length) W => Lib.hid (rcIn_any (l.getD i (0, 0)).1 (l.getD i (0, 0)).2 k W hk (hc i hi))
  clear hcells hs hc
  go_enter Tryd.func73, Tryd.ntmps73
  go_wp2
  go_loopw [5, 6] (fun s5 s6 wr => ∃ i : Nat, i ≤ l.length ∧ s6 = .int .i64 i ∧ Row w.heap.size .i64 3 wr s5 (Tt.pts (fun i => Ic.inn (l.getD i (0, 0)).1 (l.getD i (0, 0)).2 k) i) ∧ Hid (Below w.heap.size w wr)) (fun _ s6 _ => l.length - (intOf s6).toNat)
  case atStart => exact ⟨0, Nat.zero_le _, rfl, Row.nil _ _ _ _, Lib.hid (Below.refl _ _)⟩
  case round =>
    obtain ⟨i, hi, rfl, hrow, HB⟩ := hrel
    have RW := Lib.hid hrow
    clear hrow
    by_cases hil : i < l.length
    · obtain ⟨g, rfl, hg, c1, c2⟩ := HC.out.at HB.out hil
      have CIi := CI i hil
      have HS := Lib.hid (Tt.pts_succ (fun i => Ic.inn (l.getD i (0, 0)).1 (l.getD i (0, 0)).2 k) i)
      have hlen := Tt.pts_len (fun i => Ic.inn (l.getD i (0, 0)).1 (l.getD i (0, 0)).2 k) i
      clear CI
      generalize Tt.pts (fun i => Ic.inn (l.getD i (0, 0)).1 (l.getD i (0, 0)).2 k) i = q at *
      generalize l.getD i (0, 0) = y at *
      have hwr := HB.out.size
      generalize Ic.inn y.1 y.2 k = b at *
      cases b with
      | false =>
        have HF : Hid (Tt.pts (fun i => Ic.inn (l.getD i (0, 0)).1 (l.getD i (0, 0)).2 k) (i + 1) = q) := Lib.hid (by rw [HS.out]; simp)
        clear HS
        go_wp2_with (first | (go_at_call 48; refine ((CIi _).out).mono ?_; rintro e w3 ⟨rfl, hb⟩; have HB3 := Lib.hid (below_nxt HB.out hb); have RW3 := Lib.hid (RW.out.below hb (Nat.le_refl _)); have hz3 := HB3.out.size; clear hb) | (at_builtin; refine wpList_append_nat rfl _ _ 71 rfl 3 i0 .i64 8 Tryd.underlying71 hi0 hz0 hz1 hz2 (by omega) _ _ q [i] rfl rfl w.heap.size (RW3.out.below ((Below.refl _ _).alloc (Nat.le_refl _) _) (Nat.le_refl _)) ((Row.one 0 _ _ _ (Nat.zero_le _) i _ rfl).sees) (by simp; omega) (by simp; omega) ?_; intro v5 w5 hr5 hb5))
        exact ⟨⟨i + 1, by omega, rfl, by rw [HF.out]; exact RW3.out, HB3⟩, by simp [intOf]; omega⟩
      | true =>
        have HF : Hid (Tt.pts (fun i => Ic.inn (l.getD i (0, 0)).1 (l.getD i (0, 0)).2 k) (i + 1) = q ++ [i]) := Lib.hid (by rw [HS.out]; simp)
        clear HS
        go_wp2_with (first | (go_at_call 48; refine ((CIi _).out).mono ?_; rintro e w3 ⟨rfl, hb⟩; have HB3 := Lib.hid (below_nxt HB.out hb); have RW3 := Lib.hid (RW.out.below hb (Nat.le_refl _)); have hz3 := HB3.out.size; clear hb) | (at_builtin; refine wpList_append_nat rfl _ _ 71 rfl 3 i0 .i64 8 Tryd.underlying71 hi0 hz0 hz1 hz2 (by omega) _ _ q [i] rfl rfl w.heap.size (RW3.out.below ((Below.refl _ _).alloc (Nat.le_refl _) _) (Nat.le_refl _)) ((Row.one 0 _ _ _ (Nat.zero_le _) i _ rfl).sees) (by simp; omega) (by simp; omega) ?_; intro v5 w5 hr5 hb5))
        exact ⟨⟨i + 1, by omega, rfl, by rw [HF.out]; exact hr5, Lib.hid ((below_nxt HB3.out ((Below.refl _ _).alloc (Nat.le_refl _) _)).trans hb5)⟩, by simp [intOf]; omega⟩
    · obtain rfl : i = l.length := by omega
      go_wp2
      exact bodyPost_ret (by simp [results, Tryd.results73, go_sem]) rfl ⟨_, rfl, RW.out, HB.out⟩

set_option maxHeartbeats 4000000 in
set_option maxRecDepth 100000 in
theorem rcPrimes_ok (n on : Nat) (m : Int) (fr : Nat) (w : World) (hn : n ≤ 6) (ho : on < 2 ^ 64) (hf : fr < 2 ^ 64) (hchk : Ic.tchk n on m fr = 0) :
    Calls Tryd.prog 34 #[.agg #[.int .i64 n, .int .u64 on, .int .i64 m, .int .u64 fr]] w fun e w' => ∃ v, e = .returned (.tuple #[v, .int .i64 0]) ∧ SeesC w' v (Ic.primesR n on fr) ∧ Below w.heap.size w w' := by
  have CT := fun W => Lib.hid (rcCheckTask_any n on m fr W ho hf)
  rw [hchk] at CT
  have CA := fun W => Lib.hid (rcAll_any n on m fr W hn ho hf)
  generalize Ic.primesR n on fr = l at *
  clear ho hf hchk
  obtain ⟨P0, L0, z0⟩ := task_new w n on m fr 61
  generalize hX : w.alloc (.cells #[.int .i64 n, .int .u64 (on : Int), .int .i64 m, .int .u64 (fr : Int)] 61) = X at *
  have HL := Lib.hid L0
  obtain ⟨p0, p1, p2, p3, p4⟩ := id P0
  go_enter Tryd.func34, Tryd.ntmps34
  go_wp2_with (first | (go_at_call 31; refine ((CT _).out).mono ?_; rintro e w1 ⟨rfl, hb⟩; obtain ⟨q0, q1, q2, q3, q4⟩ := P0.step hb; have HB1 := Lib.hid (below_nxt HL.out hb); clear hb) | (go_at_call 71; refine ((CA _).out).mono ?_; rintro e w2 ⟨lv, rfl, hr, hb⟩; have HB2 := Lib.hid (below_nxt HB1.out hb); have HR := Lib.hid hr.sees; clear hb hr))
  exact bodyPost_ret (v := .tuple #[lv, .int .i64 0]) (by simp [results, Tryd.results34, go_sem]) rfl ⟨lv, rfl, HR.out, HB2.out⟩

set_option maxHeartbeats 2000000 in
set_option maxRecDepth 100000 in
theorem rcPrimes_bad (n : Int) (on : Nat) (m : Int) (fr : Nat) (w : World) (ho : on < 2 ^ 64) (hf : fr < 2 ^ 64) (hchk : Ic.tchk n on m fr ≠ 0) :
    Calls Tryd.prog 34 #[.agg #[.int .i64 n, .int .u64 on, .int .i64 m, .int .u64 fr]] w fun e w' => e = .returned (.tuple #[.slice none 0 0, .int .i64 (Ic.tchk n on m fr)]) ∧ Below w.heap.size w w' := by
  have CT := fun W => Lib.hid (rcCheckTask_any n on m fr W ho hf)
  have hk : (Ic.tchk n on m fr != 0) = true := by simp [hchk]
  generalize Ic.tchk n on m fr = k at *
  clear ho hf hchk
  obtain ⟨P0, L0, z0⟩ := task_new w n on m fr 61
  generalize hX : w.alloc (.cells #[.int .i64 n, .int .u64 (on : Int), .int .i64 m, .int .u64 (fr : Int)] 61) = X at *
  have HL := Lib.hid L0
  obtain ⟨p0, p1, p2, p3, p4⟩ := id P0
  go_enter Tryd.func34, Tryd.ntmps34
  go_wp2_with (go_at_call 31; refine ((CT _).out).mono ?_; rintro e w1 ⟨rfl, hb⟩; have HB1 := Lib.hid (below_nxt HL.out hb); clear hb)
  exact bodyPost_ret (v := .tuple #[.slice none 0 0, .int .i64 k]) (by simp [results, Tryd.results34, go_sem]) rfl ⟨rfl, HB1.out⟩

set_option maxHeartbeats 2000000 in
set_option maxRecDepth 100000 in
theorem rcEss_bad (n : Int) (on : Nat) (m : Int) (fr : Nat) (w : World) (ho : on < 2 ^ 64) (hf : fr < 2 ^ 64) (hchk : Ic.tchk n on m fr ≠ 0) :
    Calls Tryd.prog 36 #[.agg #[.int .i64 n, .int .u64 on, .int .i64 m, .int .u64 fr]] w fun e w' => e = .returned (.tuple #[.slice none 0 0, .int .i64 (Ic.tchk n on m fr)]) ∧ Below w.heap.size w w' := by
  have CT := fun W => Lib.hid (rcCheckTask_any n on m fr W ho hf)
  have hk : (Ic.tchk n on m fr != 0) = true := by simp [hchk]
  generalize Ic.tchk n on m fr = k at *
  clear ho hf hchk
  obtain ⟨P0, L0, z0⟩ := task_new w n on m fr 61
  generalize hX : w.alloc (.cells #[.int .i64 n, .int .u64 (on : Int), .int .i64 m, .int .u64 (fr : Int)] 61) = X at *
  have HL := Lib.hid L0
  obtain ⟨p0, p1, p2, p3, p4⟩ := id P0
  go_enter Tryd.func36, Tryd.ntmps36
  go_wp2_with (go_at_call 31; refine ((CT _).out).mono ?_; rintro e w1 ⟨rfl, hb⟩; have HB1 := Lib.hid (below_nxt HL.out hb); clear hb)
  exact bodyPost_ret (v := .tuple #[.slice none 0 0, .int .i64 k]) (by simp [results, Tryd.results36, go_sem]) rfl ⟨rfl, HB1.out⟩
end Go.Proofs.YtabflijfbjdpgaaDoor
