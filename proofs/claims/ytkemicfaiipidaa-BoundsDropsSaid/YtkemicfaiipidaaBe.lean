/- The walk over all pairs of indices, for each closure. -/
import Derived.Test.YtkemicfaiipidaaBb
namespace Go.Proofs.Ytkemicfaiipidaa
open Go.RowKit

set_option maxHeartbeats 2000000 in
set_option maxRecDepth 100000 in
theorem each_free (c1 : Value) (g n : Nat) (I : Nat → Nat → World → Prop) (W : World) (hn : n ≤ 12) (h0 : I 0 0 W) (hc : ∀ i j X, I i j X → X.cell? ⟨g, 0, none⟩ = some (.int .i64 (n : Int)))
    (hs : ∀ i j X, i ≤ n → j ≤ n → I i j X → Calls Try.prog 63 #[.int .i64 (i : Int), .int .i64 (j : Int), c1] X fun e w' => e = .returned (.tuple #[]) ∧ I i (j + 1) w') (hr : ∀ i X, i ≤ n → I i (n + 1) X → I (i + 1) 0 X) :
    Calls Try.prog 45 #[.pointer (some ⟨g, 0, none⟩), .func (.func 63) #[] #[c1]] W fun e w' => e = .returned (.tuple #[]) ∧ I (n + 1) 0 w' := by
  have HS := Lib.hid hs
  have HR := Lib.hid hr
  have H0 := Lib.hid h0
  have HC := Lib.hid hc
  have z := hc _ _ _ h0
  clear hs hr h0 hc
  go_enter Try.func45, Try.ntmps45
  go_wp2
  go_loopw [11] (fun s11 wr => ∃ i : Nat, i ≤ n + 1 ∧ s11 = .int .i64 (i : Int) ∧ Hid (I i 0 wr)) (fun s11 _ => n + 1 - (intOf s11).toNat)
  case atStart => exact ⟨0, Nat.zero_le _, rfl, H0⟩
  case round =>
    clear z H0
    obtain ⟨i, hi, rfl, HI⟩ := hrel
    by_cases hil : i < n + 1
    · have z := HC.out _ _ _ HI.out
      have hq : (i : Int) < (n : Int) + 1 := by omega
      go_wp2
      obtain ⟨wo, hwo⟩ : ∃ wo, wo = wr := ⟨_, rfl⟩
      rw [← hwo] at HI z ⊢
      clear hwo
      go_loopw [19] (fun s19 wr => ∃ j : Nat, j ≤ n + 1 ∧ s19 = .int .i64 (j : Int) ∧ Hid (I i j wr)) (fun s19 _ => n + 1 - (intOf s19).toNat)
      case atStart => exact ⟨0, Nat.zero_le _, rfl, HI⟩
      case round =>
        clear z HI
        obtain ⟨j, hj, rfl, HI⟩ := hrel
        by_cases hjl : j < n + 1
        · have C := Lib.hid (HS.out i j _ (by omega) (by omega) HI.out)
          go_wp2_with (go_at_call 63; refine (C.out).mono ?_; rintro e w1 ⟨rfl, hI⟩; have HI1 := Lib.hid hI; clear hI C HI)
          exact ⟨⟨j + 1, by omega, rfl, HI1⟩, by simp [intOf]; omega⟩
        · obtain rfl : j = n + 1 := by omega
          go_wp2
          have HI2 := Lib.hid (HR.out i _ (by omega) HI.out)
          exact ⟨⟨i + 1, by omega, rfl, HI2⟩, by simp [intOf]; omega⟩
    · obtain rfl : i = n + 1 := by omega
      go_wp2
      go_end0
      exact ⟨rfl, HI.out⟩

set_option maxHeartbeats 2000000 in
set_option maxRecDepth 100000 in
theorem each_of (c1 c2 : Value) (g n : Nat) (I : Nat → Nat → World → Prop) (W : World) (hn : n ≤ 12) (h0 : I 0 0 W) (hc : ∀ i j X, I i j X → X.cell? ⟨g, 0, none⟩ = some (.int .i64 (n : Int)))
    (hs : ∀ i j X, i ≤ n → j ≤ n → I i j X → Calls Try.prog 66 #[.int .i64 (i : Int), .int .i64 (j : Int), c1, c2] X fun e w' => e = .returned (.tuple #[]) ∧ I i (j + 1) w') (hr : ∀ i X, i ≤ n → I i (n + 1) X → I (i + 1) 0 X) :
    Calls Try.prog 45 #[.pointer (some ⟨g, 0, none⟩), .func (.func 66) #[] #[c1, c2]] W fun e w' => e = .returned (.tuple #[]) ∧ I (n + 1) 0 w' := by
  have HS := Lib.hid hs
  have HR := Lib.hid hr
  have H0 := Lib.hid h0
  have HC := Lib.hid hc
  have z := hc _ _ _ h0
  clear hs hr h0 hc
  go_enter Try.func45, Try.ntmps45
  go_wp2
  go_loopw [11] (fun s11 wr => ∃ i : Nat, i ≤ n + 1 ∧ s11 = .int .i64 (i : Int) ∧ Hid (I i 0 wr)) (fun s11 _ => n + 1 - (intOf s11).toNat)
  case atStart => exact ⟨0, Nat.zero_le _, rfl, H0⟩
  case round =>
    clear z H0
    obtain ⟨i, hi, rfl, HI⟩ := hrel
    by_cases hil : i < n + 1
    · have z := HC.out _ _ _ HI.out
      have hq : (i : Int) < (n : Int) + 1 := by omega
      go_wp2
      obtain ⟨wo, hwo⟩ : ∃ wo, wo = wr := ⟨_, rfl⟩
      rw [← hwo] at HI z ⊢
      clear hwo
      go_loopw [19] (fun s19 wr => ∃ j : Nat, j ≤ n + 1 ∧ s19 = .int .i64 (j : Int) ∧ Hid (I i j wr)) (fun s19 _ => n + 1 - (intOf s19).toNat)
      case atStart => exact ⟨0, Nat.zero_le _, rfl, HI⟩
      case round =>
        clear z HI
        obtain ⟨j, hj, rfl, HI⟩ := hrel
        by_cases hjl : j < n + 1
        · have C := Lib.hid (HS.out i j _ (by omega) (by omega) HI.out)
          go_wp2_with (go_at_call 66; refine (C.out).mono ?_; rintro e w1 ⟨rfl, hI⟩; have HI1 := Lib.hid hI; clear hI C HI)
          exact ⟨⟨j + 1, by omega, rfl, HI1⟩, by simp [intOf]; omega⟩
        · obtain rfl : j = n + 1 := by omega
          go_wp2
          have HI2 := Lib.hid (HR.out i _ (by omega) HI.out)
          exact ⟨⟨i + 1, by omega, rfl, HI2⟩, by simp [intOf]; omega⟩
    · obtain rfl : i = n + 1 := by omega
      go_wp2
      go_end0
      exact ⟨rfl, HI.out⟩

set_option maxHeartbeats 2000000 in
set_option maxRecDepth 100000 in
theorem each_grow (c1 c2 : Value) (g n : Nat) (I : Nat → Nat → World → Prop) (W : World) (hn : n ≤ 12) (h0 : I 0 0 W) (hc : ∀ i j X, I i j X → X.cell? ⟨g, 0, none⟩ = some (.int .i64 (n : Int)))
    (hs : ∀ i j X, i ≤ n → j ≤ n → I i j X → Calls Try.prog 46 #[.int .i64 (i : Int), .int .i64 (j : Int), c1, c2] X fun e w' => e = .returned (.tuple #[]) ∧ I i (j + 1) w') (hr : ∀ i X, i ≤ n → I i (n + 1) X → I (i + 1) 0 X) :
    Calls Try.prog 45 #[.pointer (some ⟨g, 0, none⟩), .func (.func 46) #[] #[c1, c2]] W fun e w' => e = .returned (.tuple #[]) ∧ I (n + 1) 0 w' := by
  have HS := Lib.hid hs
  have HR := Lib.hid hr
  have H0 := Lib.hid h0
  have HC := Lib.hid hc
  have z := hc _ _ _ h0
  clear hs hr h0 hc
  go_enter Try.func45, Try.ntmps45
  go_wp2
  go_loopw [11] (fun s11 wr => ∃ i : Nat, i ≤ n + 1 ∧ s11 = .int .i64 (i : Int) ∧ Hid (I i 0 wr)) (fun s11 _ => n + 1 - (intOf s11).toNat)
  case atStart => exact ⟨0, Nat.zero_le _, rfl, H0⟩
  case round =>
    clear z H0
    obtain ⟨i, hi, rfl, HI⟩ := hrel
    by_cases hil : i < n + 1
    · have z := HC.out _ _ _ HI.out
      have hq : (i : Int) < (n : Int) + 1 := by omega
      go_wp2
      obtain ⟨wo, hwo⟩ : ∃ wo, wo = wr := ⟨_, rfl⟩
      rw [← hwo] at HI z ⊢
      clear hwo
      go_loopw [19] (fun s19 wr => ∃ j : Nat, j ≤ n + 1 ∧ s19 = .int .i64 (j : Int) ∧ Hid (I i j wr)) (fun s19 _ => n + 1 - (intOf s19).toNat)
      case atStart => exact ⟨0, Nat.zero_le _, rfl, HI⟩
      case round =>
        clear z HI
        obtain ⟨j, hj, rfl, HI⟩ := hrel
        by_cases hjl : j < n + 1
        · have C := Lib.hid (HS.out i j _ (by omega) (by omega) HI.out)
          go_wp2_with (go_at_call 46; refine (C.out).mono ?_; rintro e w1 ⟨rfl, hI⟩; have HI1 := Lib.hid hI; clear hI C HI)
          exact ⟨⟨j + 1, by omega, rfl, HI1⟩, by simp [intOf]; omega⟩
        · obtain rfl : j = n + 1 := by omega
          go_wp2
          have HI2 := Lib.hid (HR.out i _ (by omega) HI.out)
          exact ⟨⟨i + 1, by omega, rfl, HI2⟩, by simp [intOf]; omega⟩
    · obtain rfl : i = n + 1 := by omega
      go_wp2
      go_end0
      exact ⟨rfl, HI.out⟩

set_option maxHeartbeats 2000000 in
set_option maxRecDepth 100000 in
theorem each_meet (c1 c2 : Value) (g n : Nat) (I : Nat → Nat → World → Prop) (W : World) (hn : n ≤ 12) (h0 : I 0 0 W) (hc : ∀ i j X, I i j X → X.cell? ⟨g, 0, none⟩ = some (.int .i64 (n : Int)))
    (hs : ∀ i j X, i ≤ n → j ≤ n → I i j X → Calls Try.prog 59 #[.int .i64 (i : Int), .int .i64 (j : Int), c1, c2] X fun e w' => e = .returned (.tuple #[]) ∧ I i (j + 1) w') (hr : ∀ i X, i ≤ n → I i (n + 1) X → I (i + 1) 0 X) :
    Calls Try.prog 45 #[.pointer (some ⟨g, 0, none⟩), .func (.func 59) #[] #[c1, c2]] W fun e w' => e = .returned (.tuple #[]) ∧ I (n + 1) 0 w' := by
  have HS := Lib.hid hs
  have HR := Lib.hid hr
  have H0 := Lib.hid h0
  have HC := Lib.hid hc
  have z := hc _ _ _ h0
  clear hs hr h0 hc
  go_enter Try.func45, Try.ntmps45
  go_wp2
  go_loopw [11] (fun s11 wr => ∃ i : Nat, i ≤ n + 1 ∧ s11 = .int .i64 (i : Int) ∧ Hid (I i 0 wr)) (fun s11 _ => n + 1 - (intOf s11).toNat)
  case atStart => exact ⟨0, Nat.zero_le _, rfl, H0⟩
  case round =>
    clear z H0
    obtain ⟨i, hi, rfl, HI⟩ := hrel
    by_cases hil : i < n + 1
    · have z := HC.out _ _ _ HI.out
      have hq : (i : Int) < (n : Int) + 1 := by omega
      go_wp2
      obtain ⟨wo, hwo⟩ : ∃ wo, wo = wr := ⟨_, rfl⟩
      rw [← hwo] at HI z ⊢
      clear hwo
      go_loopw [19] (fun s19 wr => ∃ j : Nat, j ≤ n + 1 ∧ s19 = .int .i64 (j : Int) ∧ Hid (I i j wr)) (fun s19 _ => n + 1 - (intOf s19).toNat)
      case atStart => exact ⟨0, Nat.zero_le _, rfl, HI⟩
      case round =>
        clear z HI
        obtain ⟨j, hj, rfl, HI⟩ := hrel
        by_cases hjl : j < n + 1
        · have C := Lib.hid (HS.out i j _ (by omega) (by omega) HI.out)
          go_wp2_with (go_at_call 59; refine (C.out).mono ?_; rintro e w1 ⟨rfl, hI⟩; have HI1 := Lib.hid hI; clear hI C HI)
          exact ⟨⟨j + 1, by omega, rfl, HI1⟩, by simp [intOf]; omega⟩
        · obtain rfl : j = n + 1 := by omega
          go_wp2
          have HI2 := Lib.hid (HR.out i _ (by omega) HI.out)
          exact ⟨⟨i + 1, by omega, rfl, HI2⟩, by simp [intOf]; omega⟩
    · obtain rfl : i = n + 1 := by omega
      go_wp2
      go_end0
      exact ⟨rfl, HI.out⟩

set_option maxHeartbeats 2000000 in
set_option maxRecDepth 100000 in
theorem each_forget (c1 c2 : Value) (g n : Nat) (I : Nat → Nat → World → Prop) (W : World) (hn : n ≤ 12) (h0 : I 0 0 W) (hc : ∀ i j X, I i j X → X.cell? ⟨g, 0, none⟩ = some (.int .i64 (n : Int)))
    (hs : ∀ i j X, i ≤ n → j ≤ n → I i j X → Calls Try.prog 61 #[.int .i64 (i : Int), .int .i64 (j : Int), c1, c2] X fun e w' => e = .returned (.tuple #[]) ∧ I i (j + 1) w') (hr : ∀ i X, i ≤ n → I i (n + 1) X → I (i + 1) 0 X) :
    Calls Try.prog 45 #[.pointer (some ⟨g, 0, none⟩), .func (.func 61) #[] #[c1, c2]] W fun e w' => e = .returned (.tuple #[]) ∧ I (n + 1) 0 w' := by
  have HS := Lib.hid hs
  have HR := Lib.hid hr
  have H0 := Lib.hid h0
  have HC := Lib.hid hc
  have z := hc _ _ _ h0
  clear hs hr h0 hc
  go_enter Try.func45, Try.ntmps45
  go_wp2
  go_loopw [11] (fun s11 wr => ∃ i : Nat, i ≤ n + 1 ∧ s11 = .int .i64 (i : Int) ∧ Hid (I i 0 wr)) (fun s11 _ => n + 1 - (intOf s11).toNat)
  case atStart => exact ⟨0, Nat.zero_le _, rfl, H0⟩
  case round =>
    clear z H0
    obtain ⟨i, hi, rfl, HI⟩ := hrel
    by_cases hil : i < n + 1
    · have z := HC.out _ _ _ HI.out
      have hq : (i : Int) < (n : Int) + 1 := by omega
      go_wp2
      obtain ⟨wo, hwo⟩ : ∃ wo, wo = wr := ⟨_, rfl⟩
      rw [← hwo] at HI z ⊢
      clear hwo
      go_loopw [19] (fun s19 wr => ∃ j : Nat, j ≤ n + 1 ∧ s19 = .int .i64 (j : Int) ∧ Hid (I i j wr)) (fun s19 _ => n + 1 - (intOf s19).toNat)
      case atStart => exact ⟨0, Nat.zero_le _, rfl, HI⟩
      case round =>
        clear z HI
        obtain ⟨j, hj, rfl, HI⟩ := hrel
        by_cases hjl : j < n + 1
        · have C := Lib.hid (HS.out i j _ (by omega) (by omega) HI.out)
          go_wp2_with (go_at_call 61; refine (C.out).mono ?_; rintro e w1 ⟨rfl, hI⟩; have HI1 := Lib.hid hI; clear hI C HI)
          exact ⟨⟨j + 1, by omega, rfl, HI1⟩, by simp [intOf]; omega⟩
        · obtain rfl : j = n + 1 := by omega
          go_wp2
          have HI2 := Lib.hid (HR.out i _ (by omega) HI.out)
          exact ⟨⟨i + 1, by omega, rfl, HI2⟩, by simp [intOf]; omega⟩
    · obtain rfl : i = n + 1 := by omega
      go_wp2
      go_end0
      exact ⟨rfl, HI.out⟩

set_option maxHeartbeats 2000000 in
set_option maxRecDepth 100000 in
theorem each_holds (c1 c2 c3 : Value) (g n : Nat) (I : Nat → Nat → World → Prop) (W : World) (hn : n ≤ 12) (h0 : I 0 0 W) (hc : ∀ i j X, I i j X → X.cell? ⟨g, 0, none⟩ = some (.int .i64 (n : Int)))
    (hs : ∀ i j X, i ≤ n → j ≤ n → I i j X → Calls Try.prog 53 #[.int .i64 (i : Int), .int .i64 (j : Int), c1, c2, c3] X fun e w' => e = .returned (.tuple #[]) ∧ I i (j + 1) w') (hr : ∀ i X, i ≤ n → I i (n + 1) X → I (i + 1) 0 X) :
    Calls Try.prog 45 #[.pointer (some ⟨g, 0, none⟩), .func (.func 53) #[] #[c1, c2, c3]] W fun e w' => e = .returned (.tuple #[]) ∧ I (n + 1) 0 w' := by
  have HS := Lib.hid hs
  have HR := Lib.hid hr
  have H0 := Lib.hid h0
  have HC := Lib.hid hc
  have z := hc _ _ _ h0
  clear hs hr h0 hc
  go_enter Try.func45, Try.ntmps45
  go_wp2
  go_loopw [11] (fun s11 wr => ∃ i : Nat, i ≤ n + 1 ∧ s11 = .int .i64 (i : Int) ∧ Hid (I i 0 wr)) (fun s11 _ => n + 1 - (intOf s11).toNat)
  case atStart => exact ⟨0, Nat.zero_le _, rfl, H0⟩
  case round =>
    clear z H0
    obtain ⟨i, hi, rfl, HI⟩ := hrel
    by_cases hil : i < n + 1
    · have z := HC.out _ _ _ HI.out
      have hq : (i : Int) < (n : Int) + 1 := by omega
      go_wp2
      obtain ⟨wo, hwo⟩ : ∃ wo, wo = wr := ⟨_, rfl⟩
      rw [← hwo] at HI z ⊢
      clear hwo
      go_loopw [19] (fun s19 wr => ∃ j : Nat, j ≤ n + 1 ∧ s19 = .int .i64 (j : Int) ∧ Hid (I i j wr)) (fun s19 _ => n + 1 - (intOf s19).toNat)
      case atStart => exact ⟨0, Nat.zero_le _, rfl, HI⟩
      case round =>
        clear z HI
        obtain ⟨j, hj, rfl, HI⟩ := hrel
        by_cases hjl : j < n + 1
        · have C := Lib.hid (HS.out i j _ (by omega) (by omega) HI.out)
          go_wp2_with (go_at_call 53; refine (C.out).mono ?_; rintro e w1 ⟨rfl, hI⟩; have HI1 := Lib.hid hI; clear hI C HI)
          exact ⟨⟨j + 1, by omega, rfl, HI1⟩, by simp [intOf]; omega⟩
        · obtain rfl : j = n + 1 := by omega
          go_wp2
          have HI2 := Lib.hid (HR.out i _ (by omega) HI.out)
          exact ⟨⟨i + 1, by omega, rfl, HI2⟩, by simp [intOf]; omega⟩
    · obtain rfl : i = n + 1 := by omega
      go_wp2
      go_end0
      exact ⟨rfl, HI.out⟩

set_option maxHeartbeats 2000000 in
set_option maxRecDepth 100000 in
theorem each_leq (c1 c2 c3 : Value) (g n : Nat) (I : Nat → Nat → World → Prop) (W : World) (hn : n ≤ 12) (h0 : I 0 0 W) (hc : ∀ i j X, I i j X → X.cell? ⟨g, 0, none⟩ = some (.int .i64 (n : Int)))
    (hs : ∀ i j X, i ≤ n → j ≤ n → I i j X → Calls Try.prog 60 #[.int .i64 (i : Int), .int .i64 (j : Int), c1, c2, c3] X fun e w' => e = .returned (.tuple #[]) ∧ I i (j + 1) w') (hr : ∀ i X, i ≤ n → I i (n + 1) X → I (i + 1) 0 X) :
    Calls Try.prog 45 #[.pointer (some ⟨g, 0, none⟩), .func (.func 60) #[] #[c1, c2, c3]] W fun e w' => e = .returned (.tuple #[]) ∧ I (n + 1) 0 w' := by
  have HS := Lib.hid hs
  have HR := Lib.hid hr
  have H0 := Lib.hid h0
  have HC := Lib.hid hc
  have z := hc _ _ _ h0
  clear hs hr h0 hc
  go_enter Try.func45, Try.ntmps45
  go_wp2
  go_loopw [11] (fun s11 wr => ∃ i : Nat, i ≤ n + 1 ∧ s11 = .int .i64 (i : Int) ∧ Hid (I i 0 wr)) (fun s11 _ => n + 1 - (intOf s11).toNat)
  case atStart => exact ⟨0, Nat.zero_le _, rfl, H0⟩
  case round =>
    clear z H0
    obtain ⟨i, hi, rfl, HI⟩ := hrel
    by_cases hil : i < n + 1
    · have z := HC.out _ _ _ HI.out
      have hq : (i : Int) < (n : Int) + 1 := by omega
      go_wp2
      obtain ⟨wo, hwo⟩ : ∃ wo, wo = wr := ⟨_, rfl⟩
      rw [← hwo] at HI z ⊢
      clear hwo
      go_loopw [19] (fun s19 wr => ∃ j : Nat, j ≤ n + 1 ∧ s19 = .int .i64 (j : Int) ∧ Hid (I i j wr)) (fun s19 _ => n + 1 - (intOf s19).toNat)
      case atStart => exact ⟨0, Nat.zero_le _, rfl, HI⟩
      case round =>
        clear z HI
        obtain ⟨j, hj, rfl, HI⟩ := hrel
        by_cases hjl : j < n + 1
        · have C := Lib.hid (HS.out i j _ (by omega) (by omega) HI.out)
          go_wp2_with (go_at_call 60; refine (C.out).mono ?_; rintro e w1 ⟨rfl, hI⟩; have HI1 := Lib.hid hI; clear hI C HI)
          exact ⟨⟨j + 1, by omega, rfl, HI1⟩, by simp [intOf]; omega⟩
        · obtain rfl : j = n + 1 := by omega
          go_wp2
          have HI2 := Lib.hid (HR.out i _ (by omega) HI.out)
          exact ⟨⟨i + 1, by omega, rfl, HI2⟩, by simp [intOf]; omega⟩
    · obtain rfl : i = n + 1 := by omega
      go_wp2
      go_end0
      exact ⟨rfl, HI.out⟩

set_option maxHeartbeats 2000000 in
set_option maxRecDepth 100000 in
theorem each_bnds (c1 c2 c3 : Value) (g n : Nat) (I : Nat → Nat → World → Prop) (W : World) (hn : n ≤ 12) (h0 : I 0 0 W) (hc : ∀ i j X, I i j X → X.cell? ⟨g, 0, none⟩ = some (.int .i64 (n : Int)))
    (hs : ∀ i j X, i ≤ n → j ≤ n → I i j X → Calls Try.prog 64 #[.int .i64 (i : Int), .int .i64 (j : Int), c1, c2, c3] X fun e w' => e = .returned (.tuple #[]) ∧ I i (j + 1) w') (hr : ∀ i X, i ≤ n → I i (n + 1) X → I (i + 1) 0 X) :
    Calls Try.prog 45 #[.pointer (some ⟨g, 0, none⟩), .func (.func 64) #[] #[c1, c2, c3]] W fun e w' => e = .returned (.tuple #[]) ∧ I (n + 1) 0 w' := by
  have HS := Lib.hid hs
  have HR := Lib.hid hr
  have H0 := Lib.hid h0
  have HC := Lib.hid hc
  have z := hc _ _ _ h0
  clear hs hr h0 hc
  go_enter Try.func45, Try.ntmps45
  go_wp2
  go_loopw [11] (fun s11 wr => ∃ i : Nat, i ≤ n + 1 ∧ s11 = .int .i64 (i : Int) ∧ Hid (I i 0 wr)) (fun s11 _ => n + 1 - (intOf s11).toNat)
  case atStart => exact ⟨0, Nat.zero_le _, rfl, H0⟩
  case round =>
    clear z H0
    obtain ⟨i, hi, rfl, HI⟩ := hrel
    by_cases hil : i < n + 1
    · have z := HC.out _ _ _ HI.out
      have hq : (i : Int) < (n : Int) + 1 := by omega
      go_wp2
      obtain ⟨wo, hwo⟩ : ∃ wo, wo = wr := ⟨_, rfl⟩
      rw [← hwo] at HI z ⊢
      clear hwo
      go_loopw [19] (fun s19 wr => ∃ j : Nat, j ≤ n + 1 ∧ s19 = .int .i64 (j : Int) ∧ Hid (I i j wr)) (fun s19 _ => n + 1 - (intOf s19).toNat)
      case atStart => exact ⟨0, Nat.zero_le _, rfl, HI⟩
      case round =>
        clear z HI
        obtain ⟨j, hj, rfl, HI⟩ := hrel
        by_cases hjl : j < n + 1
        · have C := Lib.hid (HS.out i j _ (by omega) (by omega) HI.out)
          go_wp2_with (go_at_call 64; refine (C.out).mono ?_; rintro e w1 ⟨rfl, hI⟩; have HI1 := Lib.hid hI; clear hI C HI)
          exact ⟨⟨j + 1, by omega, rfl, HI1⟩, by simp [intOf]; omega⟩
        · obtain rfl : j = n + 1 := by omega
          go_wp2
          have HI2 := Lib.hid (HR.out i _ (by omega) HI.out)
          exact ⟨⟨i + 1, by omega, rfl, HI2⟩, by simp [intOf]; omega⟩
    · obtain rfl : i = n + 1 := by omega
      go_wp2
      go_end0
      exact ⟨rfl, HI.out⟩

set_option maxHeartbeats 2000000 in
set_option maxRecDepth 100000 in
theorem each_close (c1 c2 c3 : Value) (g n : Nat) (I : Nat → Nat → World → Prop) (W : World) (hn : n ≤ 12) (h0 : I 0 0 W) (hc : ∀ i j X, I i j X → X.cell? ⟨g, 0, none⟩ = some (.int .i64 (n : Int)))
    (hs : ∀ i j X, i ≤ n → j ≤ n → I i j X → Calls Try.prog 72 #[.int .i64 (i : Int), .int .i64 (j : Int), c1, c2, c3] X fun e w' => e = .returned (.tuple #[]) ∧ I i (j + 1) w') (hr : ∀ i X, i ≤ n → I i (n + 1) X → I (i + 1) 0 X) :
    Calls Try.prog 45 #[.pointer (some ⟨g, 0, none⟩), .func (.func 72) #[] #[c1, c2, c3]] W fun e w' => e = .returned (.tuple #[]) ∧ I (n + 1) 0 w' := by
  have HS := Lib.hid hs
  have HR := Lib.hid hr
  have H0 := Lib.hid h0
  have HC := Lib.hid hc
  have z := hc _ _ _ h0
  clear hs hr h0 hc
  go_enter Try.func45, Try.ntmps45
  go_wp2
  go_loopw [11] (fun s11 wr => ∃ i : Nat, i ≤ n + 1 ∧ s11 = .int .i64 (i : Int) ∧ Hid (I i 0 wr)) (fun s11 _ => n + 1 - (intOf s11).toNat)
  case atStart => exact ⟨0, Nat.zero_le _, rfl, H0⟩
  case round =>
    clear z H0
    obtain ⟨i, hi, rfl, HI⟩ := hrel
    by_cases hil : i < n + 1
    · have z := HC.out _ _ _ HI.out
      have hq : (i : Int) < (n : Int) + 1 := by omega
      go_wp2
      obtain ⟨wo, hwo⟩ : ∃ wo, wo = wr := ⟨_, rfl⟩
      rw [← hwo] at HI z ⊢
      clear hwo
      go_loopw [19] (fun s19 wr => ∃ j : Nat, j ≤ n + 1 ∧ s19 = .int .i64 (j : Int) ∧ Hid (I i j wr)) (fun s19 _ => n + 1 - (intOf s19).toNat)
      case atStart => exact ⟨0, Nat.zero_le _, rfl, HI⟩
      case round =>
        clear z HI
        obtain ⟨j, hj, rfl, HI⟩ := hrel
        by_cases hjl : j < n + 1
        · have C := Lib.hid (HS.out i j _ (by omega) (by omega) HI.out)
          go_wp2_with (go_at_call 72; refine (C.out).mono ?_; rintro e w1 ⟨rfl, hI⟩; have HI1 := Lib.hid hI; clear hI C HI)
          exact ⟨⟨j + 1, by omega, rfl, HI1⟩, by simp [intOf]; omega⟩
        · obtain rfl : j = n + 1 := by omega
          go_wp2
          have HI2 := Lib.hid (HR.out i _ (by omega) HI.out)
          exact ⟨⟨i + 1, by omega, rfl, HI2⟩, by simp [intOf]; omega⟩
    · obtain rfl : i = n + 1 := by omega
      go_wp2
      go_end0
      exact ⟨rfl, HI.out⟩

set_option maxHeartbeats 2000000 in
set_option maxRecDepth 100000 in
theorem each_picked (c1 c2 c3 : Value) (g n : Nat) (I : Nat → Nat → World → Prop) (W : World) (hn : n ≤ 12) (h0 : I 0 0 W) (hc : ∀ i j X, I i j X → X.cell? ⟨g, 0, none⟩ = some (.int .i64 (n : Int)))
    (hs : ∀ i j X, i ≤ n → j ≤ n → I i j X → Calls Try.prog 76 #[.int .i64 (i : Int), .int .i64 (j : Int), c1, c2, c3] X fun e w' => e = .returned (.tuple #[]) ∧ I i (j + 1) w') (hr : ∀ i X, i ≤ n → I i (n + 1) X → I (i + 1) 0 X) :
    Calls Try.prog 45 #[.pointer (some ⟨g, 0, none⟩), .func (.func 76) #[] #[c1, c2, c3]] W fun e w' => e = .returned (.tuple #[]) ∧ I (n + 1) 0 w' := by
  have HS := Lib.hid hs
  have HR := Lib.hid hr
  have H0 := Lib.hid h0
  have HC := Lib.hid hc
  have z := hc _ _ _ h0
  clear hs hr h0 hc
  go_enter Try.func45, Try.ntmps45
  go_wp2
  go_loopw [11] (fun s11 wr => ∃ i : Nat, i ≤ n + 1 ∧ s11 = .int .i64 (i : Int) ∧ Hid (I i 0 wr)) (fun s11 _ => n + 1 - (intOf s11).toNat)
  case atStart => exact ⟨0, Nat.zero_le _, rfl, H0⟩
  case round =>
    clear z H0
    obtain ⟨i, hi, rfl, HI⟩ := hrel
    by_cases hil : i < n + 1
    · have z := HC.out _ _ _ HI.out
      have hq : (i : Int) < (n : Int) + 1 := by omega
      go_wp2
      obtain ⟨wo, hwo⟩ : ∃ wo, wo = wr := ⟨_, rfl⟩
      rw [← hwo] at HI z ⊢
      clear hwo
      go_loopw [19] (fun s19 wr => ∃ j : Nat, j ≤ n + 1 ∧ s19 = .int .i64 (j : Int) ∧ Hid (I i j wr)) (fun s19 _ => n + 1 - (intOf s19).toNat)
      case atStart => exact ⟨0, Nat.zero_le _, rfl, HI⟩
      case round =>
        clear z HI
        obtain ⟨j, hj, rfl, HI⟩ := hrel
        by_cases hjl : j < n + 1
        · have C := Lib.hid (HS.out i j _ (by omega) (by omega) HI.out)
          go_wp2_with (go_at_call 76; refine (C.out).mono ?_; rintro e w1 ⟨rfl, hI⟩; have HI1 := Lib.hid hI; clear hI C HI)
          exact ⟨⟨j + 1, by omega, rfl, HI1⟩, by simp [intOf]; omega⟩
        · obtain rfl : j = n + 1 := by omega
          go_wp2
          have HI2 := Lib.hid (HR.out i _ (by omega) HI.out)
          exact ⟨⟨i + 1, by omega, rfl, HI2⟩, by simp [intOf]; omega⟩
    · obtain rfl : i = n + 1 := by omega
      go_wp2
      go_end0
      exact ⟨rfl, HI.out⟩

set_option maxHeartbeats 2000000 in
set_option maxRecDepth 100000 in
theorem each_cycle (c1 c2 c3 c4 : Value) (g n : Nat) (I : Nat → Nat → World → Prop) (W : World) (hn : n ≤ 12) (h0 : I 0 0 W) (hc : ∀ i j X, I i j X → X.cell? ⟨g, 0, none⟩ = some (.int .i64 (n : Int)))
    (hs : ∀ i j X, i ≤ n → j ≤ n → I i j X → Calls Try.prog 74 #[.int .i64 (i : Int), .int .i64 (j : Int), c1, c2, c3, c4] X fun e w' => e = .returned (.tuple #[]) ∧ I i (j + 1) w') (hr : ∀ i X, i ≤ n → I i (n + 1) X → I (i + 1) 0 X) :
    Calls Try.prog 45 #[.pointer (some ⟨g, 0, none⟩), .func (.func 74) #[] #[c1, c2, c3, c4]] W fun e w' => e = .returned (.tuple #[]) ∧ I (n + 1) 0 w' := by
  have HS := Lib.hid hs
  have HR := Lib.hid hr
  have H0 := Lib.hid h0
  have HC := Lib.hid hc
  have z := hc _ _ _ h0
  clear hs hr h0 hc
  go_enter Try.func45, Try.ntmps45
  go_wp2
  go_loopw [11] (fun s11 wr => ∃ i : Nat, i ≤ n + 1 ∧ s11 = .int .i64 (i : Int) ∧ Hid (I i 0 wr)) (fun s11 _ => n + 1 - (intOf s11).toNat)
  case atStart => exact ⟨0, Nat.zero_le _, rfl, H0⟩
  case round =>
    clear z H0
    obtain ⟨i, hi, rfl, HI⟩ := hrel
    by_cases hil : i < n + 1
    · have z := HC.out _ _ _ HI.out
      have hq : (i : Int) < (n : Int) + 1 := by omega
      go_wp2
      obtain ⟨wo, hwo⟩ : ∃ wo, wo = wr := ⟨_, rfl⟩
      rw [← hwo] at HI z ⊢
      clear hwo
      go_loopw [19] (fun s19 wr => ∃ j : Nat, j ≤ n + 1 ∧ s19 = .int .i64 (j : Int) ∧ Hid (I i j wr)) (fun s19 _ => n + 1 - (intOf s19).toNat)
      case atStart => exact ⟨0, Nat.zero_le _, rfl, HI⟩
      case round =>
        clear z HI
        obtain ⟨j, hj, rfl, HI⟩ := hrel
        by_cases hjl : j < n + 1
        · have C := Lib.hid (HS.out i j _ (by omega) (by omega) HI.out)
          go_wp2_with (go_at_call 74; refine (C.out).mono ?_; rintro e w1 ⟨rfl, hI⟩; have HI1 := Lib.hid hI; clear hI C HI)
          exact ⟨⟨j + 1, by omega, rfl, HI1⟩, by simp [intOf]; omega⟩
        · obtain rfl : j = n + 1 := by omega
          go_wp2
          have HI2 := Lib.hid (HR.out i _ (by omega) HI.out)
          exact ⟨⟨i + 1, by omega, rfl, HI2⟩, by simp [intOf]; omega⟩
    · obtain rfl : i = n + 1 := by omega
      go_wp2
      go_end0
      exact ⟨rfl, HI.out⟩
end Go.Proofs.Ytkemicfaiipidaa

