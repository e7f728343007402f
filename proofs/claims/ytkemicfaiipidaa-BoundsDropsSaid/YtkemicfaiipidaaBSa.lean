/- What law 11 asks of bounds and of times: that no number is great. -/
import Derived.Test.YtkemicfaiipidaaBI
namespace Bn
def grt (x : Int) : Bool := decide (x < -1000000) || decide (1000000 < x)
def big (x : Int) : Bool := decide (x ≠ -1099511627776) && grt x
theorem any_at {l : List Int} {f : Int → Bool} {i : Nat} (hi : i < l.length) (h : f (l.getD i 0) = true) : l.any f = true := by
  rw [List.any_eq_true]
  refine ⟨l[i], List.getElem_mem hi, ?_⟩
  simpa [List.getD, hi] using h
theorem any_no {l : List Int} {f : Int → Bool} (h : ∀ i, i < l.length → f (l.getD i 0) = false) : l.any f = false := by
  rw [List.any_eq_false]
  intro x hx
  obtain ⟨i, hi, rfl⟩ := List.getElem_of_mem hx
  have := h i hi
  simp only [List.getD, hi, List.getElem?_eq_getElem, Option.getD_some] at this
  simp [this]
theorem anyR_at {R : List (List Int)} {f : List Int → Bool} {i : Nat} (hi : i < R.length) (h : f (R.getD i []) = true) : R.any f = true := by
  rw [List.any_eq_true]
  refine ⟨R[i], List.getElem_mem hi, ?_⟩
  simpa [List.getD, hi] using h
theorem anyR_no {R : List (List Int)} {f : List Int → Bool} (h : ∀ i, i < R.length → f (R.getD i []) = false) : R.any f = false := by
  rw [List.any_eq_false]
  intro x hx
  obtain ⟨i, hi, rfl⟩ := List.getElem_of_mem hx
  have := h i hi
  simp only [List.getD, hi, List.getElem?_eq_getElem, Option.getD_some] at this
  simp [this]
/-- Right bounds, about few times, with small numbers. -/
def rgt (n : Int) (R : List (List Int)) : Bool := decide (n ≤ 6) && (decide (chk n R = 0) && !R.any fun l => l.any big)
end Bn
namespace Go.Proofs.Ytkemicfaiipidaa
open Go.RowKit
theorem big_any (x : Int) (w : World) : Calls Try.prog 51 #[.int .i64 x] w fun e w' => e = .returned (.bool (Bn.big x)) ∧ w' = w := by
  go_enter Try.func51, Try.ntmps51
  go_wp2
  all_goals (go_ret; refine ⟨ret_bool ?_, rfl⟩; unfold Bn.big Bn.grt; go_light; grind)
theorem wit1_any (x : Int) (w : World) : Calls Try.prog 18 #[.int .i64 x] w fun e w' => e = .returned (.bool (Bn.grt x)) ∧ w' = w := by
  go_enter Try.func18, Try.ntmps18
  go_wp2
  all_goals (go_ret; refine ⟨ret_bool ?_, rfl⟩; unfold Bn.grt; go_light; grind)
theorem keep1_any (x : Int) (w : World) : Calls Try.prog 23 #[.int .i64 x] w fun e w' => e = .returned (.bool (Bn.grt x)) ∧ w' = w := by
  go_enter Try.func23, Try.ntmps23
  go_wp2
  all_goals (go_ret; refine ⟨ret_bool ?_, rfl⟩; unfold Bn.grt; go_light; grind)
set_option maxHeartbeats 2000000 in
set_option maxRecDepth 100000 in
theorem idx_big (v : Value) (l : List Int) (w : World) (hs : SeeI w v l) : Calls Try.prog 52 #[v, .func (.func 51) #[] #[]] w fun e w' => ∃ r : Int, e = .returned (.int .i64 r) ∧ decide (0 ≤ r) = l.any Bn.big ∧ Below w.heap.size w w' := by
  obtain ⟨ao, cap, rfl, hcap1, hcap2, hC⟩ := hs
  have HC := Lib.hid hC
  clear hC
  have HAt := Lib.hid (fun i (hi : i < l.length) (h : Bn.big (l.getD i 0) = true) => Bn.any_at hi h)
  have HNo := Lib.hid (fun (h : ∀ i, i < l.length → Bn.big (l.getD i 0) = false) => Bn.any_no h)
  generalize l.any Bn.big = q at *
  go_enter Try.func52, Try.ntmps52
  go_wp2
  go_loopw [8] (fun s8 wr => ∃ i : Nat, i ≤ l.length ∧ s8 = .int .i64 (i : Int) ∧ Hid (∀ a, a < i → Bn.big (l.getD a 0) = false) ∧ Hid (Below w.heap.size w wr)) (fun s8 _ => l.length - (intOf s8).toNat)
  case atStart => exact ⟨0, Nat.zero_le _, rfl, Lib.hid (fun a h => by omega), Lib.hid (Below.refl _ _)⟩
  case round =>
    obtain ⟨i, hi, rfl, HJ, HBW⟩ := hrel
    by_cases hil : i < l.length
    · obtain ⟨b, off, rfl, hb, c1⟩ := HC.out.at HBW.out hil
      have HAi := Lib.hid (HAt.out i hil)
      have HJ2 : Hid (Bn.big (l.getD i 0) = false → ∀ a, a < i + 1 → Bn.big (l.getD a 0) = false) := Lib.hid (fun h a ha => by
        by_cases e : a = i
        · rw [e]; exact h
        · exact HJ.out a (by omega))
      clear HAt HNo HJ
      generalize l.getD i 0 = y at *
      have CF := fun W => Lib.hid (big_any y W)
      generalize Bn.big y = f at *
      cases f
      · have HJ3 := Lib.hid (HJ2.out rfl)
        clear HAi HJ2
        go_wp2_with fail
        refine ((CF _).out).mono ?_
        rintro e w1 ⟨rfl, h1⟩
        rw [h1]
        clear h1 CF c1
        go_wp2
        exact ⟨⟨i + 1, by omega, by first | rfl | go_num, HJ3, HBW⟩, by simp [intOf]; omega⟩
      · have hq := HAi.out rfl
        subst hq
        go_wp2_with fail
        refine ((CF _).out).mono ?_
        rintro e w1 ⟨rfl, h1⟩
        rw [h1]
        clear h1 CF c1
        go_wp2
        go_ret
        exact ⟨_, rfl, decide_eq_true (by omega), HBW.out⟩
    · obtain rfl : i = l.length := by omega
      have hq := HNo.out HJ.out
      subst hq
      go_wp2
      go_ret
      exact ⟨-1, rfl, by decide, HBW.out⟩
theorem con_big (v : Value) (l : List Int) (w : World) (hs : SeeI w v l) : Calls Try.prog 17 #[v, .func (.func 51) #[] #[]] w fun e w' => e = .returned (.bool (l.any Bn.big)) ∧ Below w.heap.size w w' := by
  have C := fun W (h : SeeI W v l) => Lib.hid (idx_big v l W h)
  have HS := Lib.hid hs
  obtain ⟨ao, cap, rfl, -⟩ := hs
  generalize l.any Bn.big = q at *
  go_enter Try.func17, Try.ntmps17
  go_wp2_with fail
  refine ((C _ HS.out).out).mono ?_
  rintro e w1 ⟨r, rfl, hr, hb1⟩
  have HB1 := Lib.hid hb1
  clear hb1
  subst hr
  go_wp2
  go_ret
  exact ⟨rfl, HB1.out⟩
set_option maxHeartbeats 2000000 in
set_option maxRecDepth 100000 in
theorem idx_wit (v : Value) (l : List Int) (w : World) (hs : SeeI w v l) : Calls Try.prog 52 #[v, .func (.func 18) #[] #[]] w fun e w' => ∃ r : Int, e = .returned (.int .i64 r) ∧ decide (0 ≤ r) = l.any Bn.grt ∧ Below w.heap.size w w' := by
  obtain ⟨ao, cap, rfl, hcap1, hcap2, hC⟩ := hs
  have HC := Lib.hid hC
  clear hC
  have HAt := Lib.hid (fun i (hi : i < l.length) (h : Bn.grt (l.getD i 0) = true) => Bn.any_at hi h)
  have HNo := Lib.hid (fun (h : ∀ i, i < l.length → Bn.grt (l.getD i 0) = false) => Bn.any_no h)
  generalize l.any Bn.grt = q at *
  go_enter Try.func52, Try.ntmps52
  go_wp2
  go_loopw [8] (fun s8 wr => ∃ i : Nat, i ≤ l.length ∧ s8 = .int .i64 (i : Int) ∧ Hid (∀ a, a < i → Bn.grt (l.getD a 0) = false) ∧ Hid (Below w.heap.size w wr)) (fun s8 _ => l.length - (intOf s8).toNat)
  case atStart => exact ⟨0, Nat.zero_le _, rfl, Lib.hid (fun a h => by omega), Lib.hid (Below.refl _ _)⟩
  case round =>
    obtain ⟨i, hi, rfl, HJ, HBW⟩ := hrel
    by_cases hil : i < l.length
    · obtain ⟨b, off, rfl, hb, c1⟩ := HC.out.at HBW.out hil
      have HAi := Lib.hid (HAt.out i hil)
      have HJ2 : Hid (Bn.grt (l.getD i 0) = false → ∀ a, a < i + 1 → Bn.grt (l.getD a 0) = false) := Lib.hid (fun h a ha => by
        by_cases e : a = i
        · rw [e]; exact h
        · exact HJ.out a (by omega))
      clear HAt HNo HJ
      generalize l.getD i 0 = y at *
      have CF := fun W => Lib.hid (wit1_any y W)
      generalize Bn.grt y = f at *
      cases f
      · have HJ3 := Lib.hid (HJ2.out rfl)
        clear HAi HJ2
        go_wp2_with fail
        refine ((CF _).out).mono ?_
        rintro e w1 ⟨rfl, h1⟩
        rw [h1]
        clear h1 CF c1
        go_wp2
        exact ⟨⟨i + 1, by omega, by first | rfl | go_num, HJ3, HBW⟩, by simp [intOf]; omega⟩
      · have hq := HAi.out rfl
        subst hq
        go_wp2_with fail
        refine ((CF _).out).mono ?_
        rintro e w1 ⟨rfl, h1⟩
        rw [h1]
        clear h1 CF c1
        go_wp2
        go_ret
        exact ⟨_, rfl, decide_eq_true (by omega), HBW.out⟩
    · obtain rfl : i = l.length := by omega
      have hq := HNo.out HJ.out
      subst hq
      go_wp2
      go_ret
      exact ⟨-1, rfl, by decide, HBW.out⟩
theorem con_wit (v : Value) (l : List Int) (w : World) (hs : SeeI w v l) : Calls Try.prog 17 #[v, .func (.func 18) #[] #[]] w fun e w' => e = .returned (.bool (l.any Bn.grt)) ∧ Below w.heap.size w w' := by
  have C := fun W (h : SeeI W v l) => Lib.hid (idx_wit v l W h)
  have HS := Lib.hid hs
  obtain ⟨ao, cap, rfl, -⟩ := hs
  generalize l.any Bn.grt = q at *
  go_enter Try.func17, Try.ntmps17
  go_wp2_with fail
  refine ((C _ HS.out).out).mono ?_
  rintro e w1 ⟨r, rfl, hr, hb1⟩
  have HB1 := Lib.hid hb1
  clear hb1
  subst hr
  go_wp2
  go_ret
  exact ⟨rfl, HB1.out⟩
set_option maxHeartbeats 2000000 in
set_option maxRecDepth 100000 in
theorem idx_keep (v : Value) (l : List Int) (w : World) (hs : SeeI w v l) : Calls Try.prog 52 #[v, .func (.func 23) #[] #[]] w fun e w' => ∃ r : Int, e = .returned (.int .i64 r) ∧ decide (0 ≤ r) = l.any Bn.grt ∧ Below w.heap.size w w' := by
  obtain ⟨ao, cap, rfl, hcap1, hcap2, hC⟩ := hs
  have HC := Lib.hid hC
  clear hC
  have HAt := Lib.hid (fun i (hi : i < l.length) (h : Bn.grt (l.getD i 0) = true) => Bn.any_at hi h)
  have HNo := Lib.hid (fun (h : ∀ i, i < l.length → Bn.grt (l.getD i 0) = false) => Bn.any_no h)
  generalize l.any Bn.grt = q at *
  go_enter Try.func52, Try.ntmps52
  go_wp2
  go_loopw [8] (fun s8 wr => ∃ i : Nat, i ≤ l.length ∧ s8 = .int .i64 (i : Int) ∧ Hid (∀ a, a < i → Bn.grt (l.getD a 0) = false) ∧ Hid (Below w.heap.size w wr)) (fun s8 _ => l.length - (intOf s8).toNat)
  case atStart => exact ⟨0, Nat.zero_le _, rfl, Lib.hid (fun a h => by omega), Lib.hid (Below.refl _ _)⟩
  case round =>
    obtain ⟨i, hi, rfl, HJ, HBW⟩ := hrel
    by_cases hil : i < l.length
    · obtain ⟨b, off, rfl, hb, c1⟩ := HC.out.at HBW.out hil
      have HAi := Lib.hid (HAt.out i hil)
      have HJ2 : Hid (Bn.grt (l.getD i 0) = false → ∀ a, a < i + 1 → Bn.grt (l.getD a 0) = false) := Lib.hid (fun h a ha => by
        by_cases e : a = i
        · rw [e]; exact h
        · exact HJ.out a (by omega))
      clear HAt HNo HJ
      generalize l.getD i 0 = y at *
      have CF := fun W => Lib.hid (keep1_any y W)
      generalize Bn.grt y = f at *
      cases f
      · have HJ3 := Lib.hid (HJ2.out rfl)
        clear HAi HJ2
        go_wp2_with fail
        refine ((CF _).out).mono ?_
        rintro e w1 ⟨rfl, h1⟩
        rw [h1]
        clear h1 CF c1
        go_wp2
        exact ⟨⟨i + 1, by omega, by first | rfl | go_num, HJ3, HBW⟩, by simp [intOf]; omega⟩
      · have hq := HAi.out rfl
        subst hq
        go_wp2_with fail
        refine ((CF _).out).mono ?_
        rintro e w1 ⟨rfl, h1⟩
        rw [h1]
        clear h1 CF c1
        go_wp2
        go_ret
        exact ⟨_, rfl, decide_eq_true (by omega), HBW.out⟩
    · obtain rfl : i = l.length := by omega
      have hq := HNo.out HJ.out
      subst hq
      go_wp2
      go_ret
      exact ⟨-1, rfl, by decide, HBW.out⟩
theorem con_keep (v : Value) (l : List Int) (w : World) (hs : SeeI w v l) : Calls Try.prog 17 #[v, .func (.func 23) #[] #[]] w fun e w' => e = .returned (.bool (l.any Bn.grt)) ∧ Below w.heap.size w w' := by
  have C := fun W (h : SeeI W v l) => Lib.hid (idx_keep v l W h)
  have HS := Lib.hid hs
  obtain ⟨ao, cap, rfl, -⟩ := hs
  generalize l.any Bn.grt = q at *
  go_enter Try.func17, Try.ntmps17
  go_wp2_with fail
  refine ((C _ HS.out).out).mono ?_
  rintro e w1 ⟨r, rfl, hr, hb1⟩
  have HB1 := Lib.hid hb1
  clear hb1
  subst hr
  go_wp2
  go_ret
  exact ⟨rfl, HB1.out⟩
end Go.Proofs.Ytkemicfaiipidaa

