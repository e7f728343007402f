/- Essential of the reference. -/
import Derived.Test.YtabflijfbjdpgaaDoorKe
namespace Ic
/-- How many cubes of a list have a point. -/
def own (l : List (Nat × Nat)) (k : Nat) : List Nat := Tt.pts (fun i => inn (l.getD i (0, 0)).1 (l.getD i (0, 0)).2 k) l.length
def fndP (on : Nat) (l : List (Nat × Nat)) (i k : Nat) : Bool := on.testBit k && (inn (l.getD i (0, 0)).1 (l.getD i (0, 0)).2 k && decide ((own l k).length = 1))
def fnd (on : Nat) (l : List (Nat × Nat)) (i m : Nat) : Bool := (List.range m).any (fndP on l i)
def essR (n on : Nat) (l : List (Nat × Nat)) : List Nat := Tt.pts (fun i => fnd on l i (2 ^ n)) l.length
theorem fnd_succ (on : Nat) (l : List (Nat × Nat)) (i m : Nat) : fnd on l i (m + 1) = (fnd on l i m || fndP on l i m) := by simp [fnd, List.range_succ]
end Ic
namespace Go.Proofs.YtabflijfbjdpgaaDoor
open Go.RowKit Go.Shelf

set_option maxHeartbeats 4000000 in
set_option maxRecDepth 100000 in
theorem rcEss_ok (n on : Nat) (m : Int) (fr : Nat) (w : World) (hn : n ≤ 6) (ho : on < 2 ^ 64) (hf : fr < 2 ^ 64) (hchk : Ic.tchk n on m fr = 0) :
    Calls Tryd.prog 36 #[.agg #[.int .i64 n, .int .u64 on, .int .i64 m, .int .u64 fr]] w fun e w' => ∃ v, e = .returned (.tuple #[v, .int .i64 0]) ∧ Sees .i64 w' v (Ic.essR n on (Ic.primesR n on fr)) ∧ Below w.heap.size w w' := by
  have CT := fun W => Lib.hid (rcCheckTask_any n on m fr W ho hf)
  rw [hchk] at CT
  have CA := fun W => Lib.hid (rcAll_any n on m fr W hn ho hf)
  have HM := Lib.hid (fun i (hi : i < (Ic.primesR n on fr).length) => show ((Ic.primesR n on fr).getD i (0, 0)).1 < 2 ^ 64 by
    have h := (Ic.cubR_mem.1 (List.mem_filter.1 (show (Ic.primesR n on fr).getD i (0, 0) ∈ (Ic.cubR (2 ^ n)).filter _ from Ic.getD_mem hi)).1).1
    have hs := Tt.size_le hn
    omega)
  have hlen : (Ic.primesR n on fr).length ≤ 4096 := Nat.le_trans (List.length_filter_le _ _) (Nat.le_trans (Ic.cubR_len _) (Nat.mul_le_mul (Tt.size_le hn) (Tt.size_le hn)))
  generalize Ic.primesR n on fr = l at *
  obtain ⟨i0, hi0, hz0, hz1, hz2⟩ := info_parts Tryd.infoI64
  have hN := Tt.size_le hn
  have CS := fun W => Lib.hid (rSize_any n W (by omega) (by omega))
  rw [Int.toNat_natCast] at CS
  have HG := Lib.hid (show Ic.essR n on l = Tt.pts (fun i => Ic.fnd on l i (2 ^ n)) l.length from rfl)
  generalize Ic.essR n on l = res at *
  generalize 2 ^ n = N at *
  have CI := fun i k (hi : i < l.length) (hk : k < N) W => Lib.hid (rcIn_any (l.getD i (0, 0)).1 (l.getD i (0, 0)).2 k W (by omega) (HM.out i hi))
  have CO := fun k (hk : k < N) W => Lib.hid (rAt_any n on k W ho (by omega))
  have CW := fun k (hk : k < N) v W (h : SeesC W v l) => Lib.hid (rcOwners_any l k v W (by omega) hlen HM.out h)
  clear ho hf hchk
  obtain ⟨P0, L0, z0⟩ := task_new w n on m fr 61
  generalize hX : w.alloc (.cells #[.int .i64 n, .int .u64 (on : Int), .int .i64 m, .int .u64 (fr : Int)] 61) = X at *
  have HL := Lib.hid L0
  obtain ⟨p0, p1, p2, p3, p4⟩ := id P0
  go_enter Tryd.func36, Tryd.ntmps36
  go_wp2_with (first | (go_at_call 31; refine ((CT _).out).mono ?_; rintro e w0 ⟨rfl, hb⟩; have P1 := Lib.hid (P0.step hb); obtain ⟨q0, q1, q2, q3, q4⟩ := P1.out; have HB0 := Lib.hid (below_nxt HL.out hb); clear hb) | (go_at_call 71; refine ((CA _).out).mono ?_; rintro e w1 ⟨lv, rfl, hr, hb⟩; have HB1 := Lib.hid (below_nxt HB0.out hb); have HS1 := Lib.hid hr.sees; have P2 := Lib.hid (P1.out.step hb); clear hb hr))
  obtain ⟨ao, cap, rfl, hcap1, hcap2, hcells⟩ := HS1.out.opened
  have HC := Lib.hid hcells
  have hw1 := HB1.out.size
  clear hcells p0 p1 p2 p3 p4 q1 q2 q3 q4 P0 L0 P1
  have HP0 : Hid (Tt.pts (fun i => Ic.fnd on l i N) 0 = []) := Lib.hid rfl
  have HPS := Lib.hid (fun i => Tt.pts_succ (fun i => Ic.fnd on l i N) i)
  have HPL := Lib.hid (fun i => Tt.pts_len (fun i => Ic.fnd on l i N) i)
  have HF0 := Lib.hid (fun i => show Ic.fnd on l i 0 = false from rfl)
  have HFS := Lib.hid (fun i k => Ic.fnd_succ on l i k)
  have HFP := Lib.hid (fun i k => show Ic.fndP on l i k = (on.testBit k && (Ic.inn (l.getD i (0, 0)).1 (l.getD i (0, 0)).2 k && decide ((Tt.pts (fun i => Ic.inn (l.getD i (0, 0)).1 (l.getD i (0, 0)).2 k) l.length).length = 1))) from rfl)
  have HOL := Lib.hid (fun k => Tt.pts_len (fun i => Ic.inn (l.getD i (0, 0)).1 (l.getD i (0, 0)).2 k) l.length)
  have hw0 : w.heap.size < w1.heap.size := P2.out.1
  go_loopw [6, 7] (fun s6 s7 wr => ∃ i : Nat, i ≤ l.length ∧ s7 = .int .i64 i ∧ Row w1.heap.size .i64 3 wr s6 (Tt.pts (fun i => Ic.fnd on l i N) i) ∧ TaskI wr w.heap.size n on m fr ∧ Hid (Below w1.heap.size w1 wr)) (fun _ s7 _ => l.length - (intOf s7).toNat)
  case atStart => exact ⟨0, Nat.zero_le _, rfl, by rw [HP0.out]; exact Row.nil _ _ _ _, P2.out, Lib.hid (Below.refl _ _)⟩
  case round =>
    obtain ⟨i, hi, rfl, hrow, R, HB⟩ := hrel
    by_cases hil : i < l.length
    · have HPSi := Lib.hid (HPS.out i)
      have hpl := HPL.out i
      have HF0i := Lib.hid (HF0.out i)
      have HFSi := Lib.hid (fun k => HFS.out i k)
      have HFPi := Lib.hid (fun k => HFP.out i k)
      have CIi := fun k (hk : k < N) => CI i k hil hk
      clear HPS HPL HF0 HFS HFP CI HP0
      have hin : (i : Nat) ≤ 4096 := by omega
      generalize Tt.pts (fun i => Ic.fnd on l i N) i = q at *
      obtain ⟨wo, hwo⟩ : ∃ wo, wo = wr := ⟨_, rfl⟩
      rw [← hwo] at hrow R HB ⊢
      clear hwo wr
      go_wp2
      go_loopw [8, 9] (fun s8 s9 wq => ∃ k : Nat, k ≤ N ∧ s9 = .int .i64 k ∧ s8 = .bool (Ic.fnd on l i k) ∧ Row w1.heap.size .i64 3 wq u6 q ∧ TaskI wq w.heap.size n on m fr ∧ Hid (Below w1.heap.size w1 wq)) (fun _ s9 _ => N - (intOf s9).toNat)
      case atStart => exact ⟨0, Nat.zero_le _, rfl, by rw [HF0i.out], hrow, R, HB⟩
      case round =>
        clear hrow R HB
        obtain ⟨k, hk, rfl, rfl, hrow, R, HB⟩ := hrel
        obtain ⟨r0, r1, r2, r3, r4⟩ := id R
        have RW := Lib.hid hrow
        have H0 := Lib.hid R
        clear hrow R
        by_cases hkN : k < N
        · obtain ⟨g, rfl, hg, c1, c2⟩ := HC.out.at HB.out hil
          have CIk := CIi k hkN
          have COk := CO k hkN
          have CWk := fun W (h : SeesC W (.slice (some ⟨g, 0, none⟩) l.length cap) l) => CW k hkN _ W h
          have HX : Hid (Ic.fnd on l i (k + 1) = (Ic.fnd on l i k || (on.testBit k && (Ic.inn (l.getD i (0, 0)).1 (l.getD i (0, 0)).2 k && decide ((Tt.pts (fun i => Ic.inn (l.getD i (0, 0)).1 (l.getD i (0, 0)).2 k) l.length).length = 1))))) := Lib.hid ((HFSi.out k).trans (by rw [HFPi.out k]))
          have hol := HOL.out k
          clear HFSi HFPi CIi CO CW HOL
          generalize Tt.pts (fun i => Ic.inn (l.getD i (0, 0)).1 (l.getD i (0, 0)).2 k) l.length = o at *
          generalize Ic.inn (l.getD i (0, 0)).1 (l.getD i (0, 0)).2 k = q2 at *
          generalize l.getD i (0, 0) = y at *
          generalize on.testBit k = q1 at *
          generalize Ic.fnd on l i k = b0 at *
          cases b0 with
          | true =>
            go_wp2_with (first | (go_at_call 47; refine ((CS _).out).mono ?_; rintro e w2 ⟨rfl, rfl⟩) | (go_at_call 72; (with_reducible refine ((COk _).out).mono ?_); rintro e w3 ⟨rfl, hb⟩; have hbk := hb; have R3 := Lib.hid (H0.out.step hb); have HB3 := Lib.hid (below_nxt HB.out hb); have RW3 := Lib.hid (RW.out.below hb (Nat.le_refl _)); clear hb r1 r2 r3 r4; obtain ⟨r0', r1, r2, r3, r4⟩ := R3.out; have HLb := HB.out; replace c1 := (Below.cell hbk (p := ⟨g, i * 2, none⟩) (Nat.lt_of_lt_of_le hg HLb.size)).trans c1; replace c2 := (Below.cell hbk (p := ⟨g, i * 2 + 1, none⟩) (Nat.lt_of_lt_of_le hg HLb.size)).trans c2; clear hbk HLb) | (go_at_call 48; (with_reducible refine ((CIk _).out).mono ?_); rintro e w4 ⟨rfl, hb⟩; have R4 := Lib.hid (R3.out.step hb); have HB4 := Lib.hid (below_nxt HB3.out hb); have RW4 := Lib.hid (RW3.out.below hb (Nat.le_refl _)); clear hb r1 r2 r3 r4; obtain ⟨r0', r1, r2, r3, r4⟩ := R4.out) | (go_at_call 73; (with_reducible refine ((CWk _ (HS1.out.step HB4.out)).out).mono ?_); rintro e w5 ⟨sv, rfl, hr, hb⟩; obtain ⟨ao2, cap2, rfl, hc5, hc6⟩ := hr.sees.form; clear hr; have R5 := Lib.hid (R4.out.step hb); have HB5 := Lib.hid (below_nxt HB4.out hb); have RW5 := Lib.hid (RW4.out.below hb (Nat.le_refl _)); clear hb r1 r2 r3 r4; obtain ⟨r0', r1, r2, r3, r4⟩ := R5.out))
            exact ⟨⟨k + 1, by omega, rfl, by rw [HX.out]; rfl, RW.out, H0.out, HB⟩, by simp [intOf]; omega⟩
          | false =>
            cases q1 with
            | false =>
              go_wp2_with (first | (go_at_call 47; refine ((CS _).out).mono ?_; rintro e w2 ⟨rfl, rfl⟩) | (go_at_call 72; (with_reducible refine ((COk _).out).mono ?_); rintro e w3 ⟨rfl, hb⟩; have hbk := hb; have R3 := Lib.hid (H0.out.step hb); have HB3 := Lib.hid (below_nxt HB.out hb); have RW3 := Lib.hid (RW.out.below hb (Nat.le_refl _)); clear hb r1 r2 r3 r4; obtain ⟨r0', r1, r2, r3, r4⟩ := R3.out; have HLb := HB.out; replace c1 := (Below.cell hbk (p := ⟨g, i * 2, none⟩) (Nat.lt_of_lt_of_le hg HLb.size)).trans c1; replace c2 := (Below.cell hbk (p := ⟨g, i * 2 + 1, none⟩) (Nat.lt_of_lt_of_le hg HLb.size)).trans c2; clear hbk HLb) | (go_at_call 48; (with_reducible refine ((CIk _).out).mono ?_); rintro e w4 ⟨rfl, hb⟩; have R4 := Lib.hid (R3.out.step hb); have HB4 := Lib.hid (below_nxt HB3.out hb); have RW4 := Lib.hid (RW3.out.below hb (Nat.le_refl _)); clear hb r1 r2 r3 r4; obtain ⟨r0', r1, r2, r3, r4⟩ := R4.out) | (go_at_call 73; (with_reducible refine ((CWk _ (HS1.out.step HB4.out)).out).mono ?_); rintro e w5 ⟨sv, rfl, hr, hb⟩; obtain ⟨ao2, cap2, rfl, hc5, hc6⟩ := hr.sees.form; clear hr; have R5 := Lib.hid (R4.out.step hb); have HB5 := Lib.hid (below_nxt HB4.out hb); have RW5 := Lib.hid (RW4.out.below hb (Nat.le_refl _)); clear hb r1 r2 r3 r4; obtain ⟨r0', r1, r2, r3, r4⟩ := R5.out))
              exact ⟨⟨k + 1, by omega, rfl, by rw [HX.out]; rfl, RW3.out, R3.out, HB3⟩, by simp [intOf]; omega⟩
            | true =>
              cases q2 with
              | false =>
                go_wp2_with (first | (go_at_call 47; refine ((CS _).out).mono ?_; rintro e w2 ⟨rfl, rfl⟩) | (go_at_call 72; (with_reducible refine ((COk _).out).mono ?_); rintro e w3 ⟨rfl, hb⟩; have hbk := hb; have R3 := Lib.hid (H0.out.step hb); have HB3 := Lib.hid (below_nxt HB.out hb); have RW3 := Lib.hid (RW.out.below hb (Nat.le_refl _)); clear hb r1 r2 r3 r4; obtain ⟨r0', r1, r2, r3, r4⟩ := R3.out; have HLb := HB.out; replace c1 := (Below.cell hbk (p := ⟨g, i * 2, none⟩) (Nat.lt_of_lt_of_le hg HLb.size)).trans c1; replace c2 := (Below.cell hbk (p := ⟨g, i * 2 + 1, none⟩) (Nat.lt_of_lt_of_le hg HLb.size)).trans c2; clear hbk HLb) | (go_at_call 48; (with_reducible refine ((CIk _).out).mono ?_); rintro e w4 ⟨rfl, hb⟩; have R4 := Lib.hid (R3.out.step hb); have HB4 := Lib.hid (below_nxt HB3.out hb); have RW4 := Lib.hid (RW3.out.below hb (Nat.le_refl _)); clear hb r1 r2 r3 r4; obtain ⟨r0', r1, r2, r3, r4⟩ := R4.out) | (go_at_call 73; (with_reducible refine ((CWk _ (HS1.out.step HB4.out)).out).mono ?_); rintro e w5 ⟨sv, rfl, hr, hb⟩; obtain ⟨ao2, cap2, rfl, hc5, hc6⟩ := hr.sees.form; clear hr; have R5 := Lib.hid (R4.out.step hb); have HB5 := Lib.hid (below_nxt HB4.out hb); have RW5 := Lib.hid (RW4.out.below hb (Nat.le_refl _)); clear hb r1 r2 r3 r4; obtain ⟨r0', r1, r2, r3, r4⟩ := R5.out))
                exact ⟨⟨k + 1, by omega, rfl, by rw [HX.out]; rfl, RW4.out, R4.out, HB4⟩, by simp [intOf]; omega⟩
              | true =>
                by_cases ho : o.length = 1
                · have ho' : ((o.length : Int) == 1) = true := by simp [ho]
                  go_wp2_with (first | (go_at_call 47; refine ((CS _).out).mono ?_; rintro e w2 ⟨rfl, rfl⟩) | (go_at_call 72; (with_reducible refine ((COk _).out).mono ?_); rintro e w3 ⟨rfl, hb⟩; have hbk := hb; have R3 := Lib.hid (H0.out.step hb); have HB3 := Lib.hid (below_nxt HB.out hb); have RW3 := Lib.hid (RW.out.below hb (Nat.le_refl _)); clear hb r1 r2 r3 r4; obtain ⟨r0', r1, r2, r3, r4⟩ := R3.out; have HLb := HB.out; replace c1 := (Below.cell hbk (p := ⟨g, i * 2, none⟩) (Nat.lt_of_lt_of_le hg HLb.size)).trans c1; replace c2 := (Below.cell hbk (p := ⟨g, i * 2 + 1, none⟩) (Nat.lt_of_lt_of_le hg HLb.size)).trans c2; clear hbk HLb) | (go_at_call 48; (with_reducible refine ((CIk _).out).mono ?_); rintro e w4 ⟨rfl, hb⟩; have R4 := Lib.hid (R3.out.step hb); have HB4 := Lib.hid (below_nxt HB3.out hb); have RW4 := Lib.hid (RW3.out.below hb (Nat.le_refl _)); clear hb r1 r2 r3 r4; obtain ⟨r0', r1, r2, r3, r4⟩ := R4.out) | (go_at_call 73; (with_reducible refine ((CWk _ (HS1.out.step HB4.out)).out).mono ?_); rintro e w5 ⟨sv, rfl, hr, hb⟩; obtain ⟨ao2, cap2, rfl, hc5, hc6⟩ := hr.sees.form; clear hr; have R5 := Lib.hid (R4.out.step hb); have HB5 := Lib.hid (below_nxt HB4.out hb); have RW5 := Lib.hid (RW4.out.below hb (Nat.le_refl _)); clear hb r1 r2 r3 r4; obtain ⟨r0', r1, r2, r3, r4⟩ := R5.out))
                  exact ⟨⟨k + 1, by omega, rfl, by rw [HX.out]; simp [ho], RW5.out, R5.out, HB5⟩, by simp [intOf]; omega⟩
                · have ho' : ((o.length : Int) == 1) = false := by simp; omega
                  go_wp2_with (first | (go_at_call 47; refine ((CS _).out).mono ?_; rintro e w2 ⟨rfl, rfl⟩) | (go_at_call 72; (with_reducible refine ((COk _).out).mono ?_); rintro e w3 ⟨rfl, hb⟩; have hbk := hb; have R3 := Lib.hid (H0.out.step hb); have HB3 := Lib.hid (below_nxt HB.out hb); have RW3 := Lib.hid (RW.out.below hb (Nat.le_refl _)); clear hb r1 r2 r3 r4; obtain ⟨r0', r1, r2, r3, r4⟩ := R3.out; have HLb := HB.out; replace c1 := (Below.cell hbk (p := ⟨g, i * 2, none⟩) (Nat.lt_of_lt_of_le hg HLb.size)).trans c1; replace c2 := (Below.cell hbk (p := ⟨g, i * 2 + 1, none⟩) (Nat.lt_of_lt_of_le hg HLb.size)).trans c2; clear hbk HLb) | (go_at_call 48; (with_reducible refine ((CIk _).out).mono ?_); rintro e w4 ⟨rfl, hb⟩; have R4 := Lib.hid (R3.out.step hb); have HB4 := Lib.hid (below_nxt HB3.out hb); have RW4 := Lib.hid (RW3.out.below hb (Nat.le_refl _)); clear hb r1 r2 r3 r4; obtain ⟨r0', r1, r2, r3, r4⟩ := R4.out) | (go_at_call 73; (with_reducible refine ((CWk _ (HS1.out.step HB4.out)).out).mono ?_); rintro e w5 ⟨sv, rfl, hr, hb⟩; obtain ⟨ao2, cap2, rfl, hc5, hc6⟩ := hr.sees.form; clear hr; have R5 := Lib.hid (R4.out.step hb); have HB5 := Lib.hid (below_nxt HB4.out hb); have RW5 := Lib.hid (RW4.out.below hb (Nat.le_refl _)); clear hb r1 r2 r3 r4; obtain ⟨r0', r1, r2, r3, r4⟩ := R5.out))
                  exact ⟨⟨k + 1, by omega, rfl, by rw [HX.out]; simp [ho], RW5.out, R5.out, HB5⟩, by simp [intOf]; omega⟩
        · obtain rfl : k = N := by omega
          have hwq := HB.out.size
          clear CIi CO CW HOL HFSi HFPi HF0i
          cases hf : Ic.fnd on l i k with
          | false =>
            have HZ : Hid (Tt.pts (fun i => Ic.fnd on l i k) (i + 1) = q) := Lib.hid (by rw [HPSi.out, hf]; simp)
            go_wp2_with (first | (go_at_call 47; refine ((CS _).out).mono ?_; rintro e w2 ⟨rfl, rfl⟩) | (go_at_call 72; (with_reducible refine ((COk _).out).mono ?_); rintro e w3 ⟨rfl, hb⟩; have hbk := hb; have R3 := Lib.hid (H0.out.step hb); have HB3 := Lib.hid (below_nxt HB.out hb); have RW3 := Lib.hid (RW.out.below hb (Nat.le_refl _)); clear hb r1 r2 r3 r4; obtain ⟨r0', r1, r2, r3, r4⟩ := R3.out; have HLb := HB.out; replace c1 := (Below.cell hbk (p := ⟨g, i * 2, none⟩) (Nat.lt_of_lt_of_le hg HLb.size)).trans c1; replace c2 := (Below.cell hbk (p := ⟨g, i * 2 + 1, none⟩) (Nat.lt_of_lt_of_le hg HLb.size)).trans c2; clear hbk HLb) | (go_at_call 48; (with_reducible refine ((CIk _).out).mono ?_); rintro e w4 ⟨rfl, hb⟩; have R4 := Lib.hid (R3.out.step hb); have HB4 := Lib.hid (below_nxt HB3.out hb); have RW4 := Lib.hid (RW3.out.below hb (Nat.le_refl _)); clear hb r1 r2 r3 r4; obtain ⟨r0', r1, r2, r3, r4⟩ := R4.out) | (go_at_call 73; (with_reducible refine ((CWk _ (HS1.out.step HB4.out)).out).mono ?_); rintro e w5 ⟨sv, rfl, hr, hb⟩; obtain ⟨ao2, cap2, rfl, hc5, hc6⟩ := hr.sees.form; clear hr; have R5 := Lib.hid (R4.out.step hb); have HB5 := Lib.hid (below_nxt HB4.out hb); have RW5 := Lib.hid (RW4.out.below hb (Nat.le_refl _)); clear hb r1 r2 r3 r4; obtain ⟨r0', r1, r2, r3, r4⟩ := R5.out))
            exact ⟨⟨i + 1, by omega, rfl, by rw [HZ.out]; exact RW.out, H0.out, HB⟩, by simp [intOf]; omega⟩
          | true =>
            have HZ : Hid (Tt.pts (fun i => Ic.fnd on l i k) (i + 1) = q ++ [i]) := Lib.hid (by rw [HPSi.out, hf]; simp)
            go_wp2_with (first | (go_at_call 47; refine ((CS _).out).mono ?_; rintro e w2 ⟨rfl, rfl⟩) | (at_builtin; refine wpList_append_nat rfl _ _ 71 rfl 3 i0 .i64 8 Tryd.underlying71 hi0 hz0 hz1 hz2 (by omega) _ _ q [i] rfl rfl w1.heap.size (RW.out.below ((Below.refl _ _).alloc (Nat.le_refl _) _) (Nat.le_refl _)) ((Row.one 0 _ _ _ (Nat.zero_le _) i _ rfl).sees) (by simp; omega) (by simp; omega) ?_; intro v5 w5 hr5 hb5))
            exact ⟨⟨i + 1, by omega, rfl, by rw [HZ.out]; exact hr5, (H0.out.step ((Below.refl _ _).alloc (Nat.le_refl _) _)).below hw0 hb5, Lib.hid ((below_nxt HB.out ((Below.refl _ _).alloc (Nat.le_refl _) _)).trans hb5)⟩, by simp [intOf]; omega⟩
    · obtain rfl : i = l.length := by omega
      go_wp2
      exact bodyPost_ret (v := .tuple #[_, .int .i64 0]) (by simp [results, Tryd.results36, go_sem]; rfl) rfl ⟨_, rfl, by rw [HG.out]; exact hrow.sees, HB1.out.trans (HB.out.mono hw1)⟩
end Go.Proofs.YtabflijfbjdpgaaDoor
