/- The call of the statement TruthAlgebra. -/
import Derived.Test.YtmmcakeedejbnaaDoorVa
import Derived.Deep.DeepCutAuto
namespace Tt
/-- The complement, in n variables. -/
def nt (n x : Nat) : Nat := full n &&& (18446744073709551615 - x)
theorem nt_fits (n x : Nat) : nt n x < 2 ^ 2 ^ n := by
  have h2 : 0 < 2 ^ 2 ^ n := Nat.pow_pos (by omega)
  refine Nat.lt_of_le_of_lt Nat.and_le_left ?_
  unfold full; omega
theorem nt_bit {n x k : Nat} (hn : n ≤ 6) (hx : x < 2 ^ 2 ^ n) (hk : k < 2 ^ n) : (nt n x).testBit k = !x.testBit k := by
  have h64 := w64 hn hx
  have hs := size_le hn
  unfold nt
  rw [Nat.testBit_and, show (18446744073709551615 : Nat) - x = 2 ^ 64 - (x + 1) by omega, Nat.testBit_two_pow_sub_succ (by omega)]
  unfold full
  rw [Nat.testBit_two_pow_sub_one]
  simp [hk, show k < 64 by omega]
theorem alg1 (a b c : Nat) : (a &&& b) ||| (a &&& c) = a &&& (b ||| c) := (Nat.and_or_distrib_left ..).symm
theorem alg2 (a b c : Nat) : (a ||| b) &&& (a ||| c) = a ||| (b &&& c) := (Nat.or_and_distrib_left ..).symm
theorem alg3 {n a : Nat} (hn : n ≤ 6) (ha : a < 2 ^ 2 ^ n) : a &&& nt n a = 0 := by
  refine same (n := n) (Nat.lt_of_le_of_lt Nat.and_le_left ha) (Nat.pow_pos (by omega)) fun k hk => ?_
  rw [Nat.testBit_and, nt_bit hn ha hk, Nat.zero_testBit]; simp
theorem alg4 {n a : Nat} (hn : n ≤ 6) (ha : a < 2 ^ 2 ^ n) : a ||| nt n a = full n := by
  have h2 : 0 < 2 ^ 2 ^ n := Nat.pow_pos (by omega)
  refine same (n := n) (Nat.or_lt_two_pow ha (nt_fits n a)) (by unfold full; omega) fun k hk => ?_
  rw [Nat.testBit_or, nt_bit hn ha hk]
  unfold full
  rw [Nat.testBit_two_pow_sub_one]; simp [hk]
theorem alg5 {n a b : Nat} (hn : n ≤ 6) (ha : a < 2 ^ 2 ^ n) (hb : b < 2 ^ 2 ^ n) : nt n a ||| nt n b = nt n (a &&& b) := by
  refine same (n := n) (Nat.or_lt_two_pow (nt_fits n a) (nt_fits n b)) (nt_fits n _) fun k hk => ?_
  rw [Nat.testBit_or, nt_bit hn ha hk, nt_bit hn hb hk, nt_bit hn (Nat.lt_of_le_of_lt Nat.and_le_left ha) hk, Nat.testBit_and]
  cases a.testBit k <;> cases b.testBit k <;> rfl
theorem alg6 {n a : Nat} (hn : n ≤ 6) (ha : a < 2 ^ 2 ^ n) : nt n (nt n a) = a := by
  refine same (n := n) (nt_fits n _) ha fun k hk => ?_
  rw [nt_bit hn (nt_fits n a) hk, nt_bit hn ha hk]; simp
theorem alg7 {n a b : Nat} (hn : n ≤ 6) (ha : a < 2 ^ 2 ^ n) (hb : b < 2 ^ 2 ^ n) : (a &&& nt n b) ||| (nt n a &&& b) = a ^^^ b := by
  refine same (n := n) (Nat.or_lt_two_pow (Nat.lt_of_le_of_lt Nat.and_le_left ha) (Nat.lt_of_le_of_lt Nat.and_le_right hb)) (Nat.xor_lt_two_pow ha hb) fun k hk => ?_
  rw [Nat.testBit_or, Nat.testBit_and, Nat.testBit_and, nt_bit hn ha hk, nt_bit hn hb hk, Nat.testBit_xor]
  cases a.testBit k <;> cases b.testBit k <;> rfl
theorem alg8 (a b : Nat) : a ||| (a &&& b) = a := by
  apply Nat.eq_of_testBit_eq
  intro k
  rw [Nat.testBit_or, Nat.testBit_and]
  cases a.testBit k <;> simp
end Tt
namespace Go.Proofs.YtmmcakeedejbnaaDoor
open Go.RowKit

/-- What the closures return in this statement. -/
structure AlgD (n a b c z f v1 v2 v3 v4 v5 v6 v7 v8 v9 v10 v11 na nb nv : Nat) : Prop where
  d0 : ∀ S w, Fine S w → Calls Tryd.prog 43 #[.func (.func 25) #[] #[], .agg #[.int .i64 n, .int .u64 a], .agg #[.int .i64 n, .int .u64 b], .pointer (some ⟨S, 0, none⟩)] w fun e w' => e = .returned (.agg #[.int .i64 n, .int .u64 v1]) ∧ Below w.heap.size w w'
  d1 : ∀ S w, Fine S w → Calls Tryd.prog 43 #[.func (.func 25) #[] #[], .agg #[.int .i64 n, .int .u64 b], .agg #[.int .i64 n, .int .u64 a], .pointer (some ⟨S, 0, none⟩)] w fun e w' => e = .returned (.agg #[.int .i64 n, .int .u64 v1]) ∧ Below w.heap.size w w'
  d2 : ∀ S w, Fine S w → Calls Tryd.prog 43 #[.func (.func 27) #[] #[], .agg #[.int .i64 n, .int .u64 a], .agg #[.int .i64 n, .int .u64 b], .pointer (some ⟨S, 0, none⟩)] w fun e w' => e = .returned (.agg #[.int .i64 n, .int .u64 v2]) ∧ Below w.heap.size w w'
  d3 : ∀ S w, Fine S w → Calls Tryd.prog 43 #[.func (.func 27) #[] #[], .agg #[.int .i64 n, .int .u64 b], .agg #[.int .i64 n, .int .u64 a], .pointer (some ⟨S, 0, none⟩)] w fun e w' => e = .returned (.agg #[.int .i64 n, .int .u64 v2]) ∧ Below w.heap.size w w'
  d4 : ∀ S w, Fine S w → Calls Tryd.prog 43 #[.func (.func 27) #[] #[], .agg #[.int .i64 n, .int .u64 b], .agg #[.int .i64 n, .int .u64 c], .pointer (some ⟨S, 0, none⟩)] w fun e w' => e = .returned (.agg #[.int .i64 n, .int .u64 v3]) ∧ Below w.heap.size w w'
  d5 : ∀ S w, Fine S w → Calls Tryd.prog 43 #[.func (.func 25) #[] #[], .agg #[.int .i64 n, .int .u64 a], .agg #[.int .i64 n, .int .u64 v3], .pointer (some ⟨S, 0, none⟩)] w fun e w' => e = .returned (.agg #[.int .i64 n, .int .u64 v4]) ∧ Below w.heap.size w w'
  d6 : ∀ S w, Fine S w → Calls Tryd.prog 43 #[.func (.func 25) #[] #[], .agg #[.int .i64 n, .int .u64 a], .agg #[.int .i64 n, .int .u64 c], .pointer (some ⟨S, 0, none⟩)] w fun e w' => e = .returned (.agg #[.int .i64 n, .int .u64 v5]) ∧ Below w.heap.size w w'
  d7 : ∀ S w, Fine S w → Calls Tryd.prog 43 #[.func (.func 27) #[] #[], .agg #[.int .i64 n, .int .u64 v1], .agg #[.int .i64 n, .int .u64 v5], .pointer (some ⟨S, 0, none⟩)] w fun e w' => e = .returned (.agg #[.int .i64 n, .int .u64 v4]) ∧ Below w.heap.size w w'
  d8 : ∀ S w, Fine S w → Calls Tryd.prog 43 #[.func (.func 25) #[] #[], .agg #[.int .i64 n, .int .u64 b], .agg #[.int .i64 n, .int .u64 c], .pointer (some ⟨S, 0, none⟩)] w fun e w' => e = .returned (.agg #[.int .i64 n, .int .u64 v6]) ∧ Below w.heap.size w w'
  d9 : ∀ S w, Fine S w → Calls Tryd.prog 43 #[.func (.func 27) #[] #[], .agg #[.int .i64 n, .int .u64 a], .agg #[.int .i64 n, .int .u64 v6], .pointer (some ⟨S, 0, none⟩)] w fun e w' => e = .returned (.agg #[.int .i64 n, .int .u64 v7]) ∧ Below w.heap.size w w'
  d10 : ∀ S w, Fine S w → Calls Tryd.prog 43 #[.func (.func 27) #[] #[], .agg #[.int .i64 n, .int .u64 a], .agg #[.int .i64 n, .int .u64 c], .pointer (some ⟨S, 0, none⟩)] w fun e w' => e = .returned (.agg #[.int .i64 n, .int .u64 v8]) ∧ Below w.heap.size w w'
  d11 : ∀ S w, Fine S w → Calls Tryd.prog 43 #[.func (.func 25) #[] #[], .agg #[.int .i64 n, .int .u64 v2], .agg #[.int .i64 n, .int .u64 v8], .pointer (some ⟨S, 0, none⟩)] w fun e w' => e = .returned (.agg #[.int .i64 n, .int .u64 v7]) ∧ Below w.heap.size w w'
  d12 : ∀ S w, Fine S w → Calls Tryd.prog 44 #[.agg #[.int .i64 n, .int .u64 a], .pointer (some ⟨S, 0, none⟩)] w fun e w' => e = .returned (.agg #[.int .i64 n, .int .u64 na]) ∧ Below w.heap.size w w'
  d13 : ∀ S w, Fine S w → Calls Tryd.prog 43 #[.func (.func 25) #[] #[], .agg #[.int .i64 n, .int .u64 a], .agg #[.int .i64 n, .int .u64 na], .pointer (some ⟨S, 0, none⟩)] w fun e w' => e = .returned (.agg #[.int .i64 n, .int .u64 z]) ∧ Below w.heap.size w w'
  d14 : ∀ S w, Fine S w → Calls Tryd.prog 43 #[.func (.func 27) #[] #[], .agg #[.int .i64 n, .int .u64 a], .agg #[.int .i64 n, .int .u64 na], .pointer (some ⟨S, 0, none⟩)] w fun e w' => e = .returned (.agg #[.int .i64 n, .int .u64 f]) ∧ Below w.heap.size w w'
  d15 : ∀ S w, Fine S w → Calls Tryd.prog 44 #[.agg #[.int .i64 n, .int .u64 v1], .pointer (some ⟨S, 0, none⟩)] w fun e w' => e = .returned (.agg #[.int .i64 n, .int .u64 nv]) ∧ Below w.heap.size w w'
  d16 : ∀ S w, Fine S w → Calls Tryd.prog 44 #[.agg #[.int .i64 n, .int .u64 b], .pointer (some ⟨S, 0, none⟩)] w fun e w' => e = .returned (.agg #[.int .i64 n, .int .u64 nb]) ∧ Below w.heap.size w w'
  d17 : ∀ S w, Fine S w → Calls Tryd.prog 43 #[.func (.func 27) #[] #[], .agg #[.int .i64 n, .int .u64 na], .agg #[.int .i64 n, .int .u64 nb], .pointer (some ⟨S, 0, none⟩)] w fun e w' => e = .returned (.agg #[.int .i64 n, .int .u64 nv]) ∧ Below w.heap.size w w'
  d18 : ∀ S w, Fine S w → Calls Tryd.prog 44 #[.agg #[.int .i64 n, .int .u64 na], .pointer (some ⟨S, 0, none⟩)] w fun e w' => e = .returned (.agg #[.int .i64 n, .int .u64 a]) ∧ Below w.heap.size w w'
  d19 : ∀ S w, Fine S w → Calls Tryd.prog 43 #[.func (.func 29) #[] #[], .agg #[.int .i64 n, .int .u64 a], .agg #[.int .i64 n, .int .u64 b], .pointer (some ⟨S, 0, none⟩)] w fun e w' => e = .returned (.agg #[.int .i64 n, .int .u64 v9]) ∧ Below w.heap.size w w'
  d20 : ∀ S w, Fine S w → Calls Tryd.prog 43 #[.func (.func 25) #[] #[], .agg #[.int .i64 n, .int .u64 a], .agg #[.int .i64 n, .int .u64 nb], .pointer (some ⟨S, 0, none⟩)] w fun e w' => e = .returned (.agg #[.int .i64 n, .int .u64 v10]) ∧ Below w.heap.size w w'
  d21 : ∀ S w, Fine S w → Calls Tryd.prog 43 #[.func (.func 25) #[] #[], .agg #[.int .i64 n, .int .u64 na], .agg #[.int .i64 n, .int .u64 b], .pointer (some ⟨S, 0, none⟩)] w fun e w' => e = .returned (.agg #[.int .i64 n, .int .u64 v11]) ∧ Below w.heap.size w w'
  d22 : ∀ S w, Fine S w → Calls Tryd.prog 43 #[.func (.func 27) #[] #[], .agg #[.int .i64 n, .int .u64 v10], .agg #[.int .i64 n, .int .u64 v11], .pointer (some ⟨S, 0, none⟩)] w fun e w' => e = .returned (.agg #[.int .i64 n, .int .u64 v9]) ∧ Below w.heap.size w w'
  d23 : ∀ S w, Fine S w → Calls Tryd.prog 43 #[.func (.func 27) #[] #[], .agg #[.int .i64 n, .int .u64 a], .agg #[.int .i64 n, .int .u64 v1], .pointer (some ⟨S, 0, none⟩)] w fun e w' => e = .returned (.agg #[.int .i64 n, .int .u64 a]) ∧ Below w.heap.size w w'
theorem aAnd (n x y v : Nat) (hn : n ≤ 6) (hx : x < 2 ^ 2 ^ n) (hy : y < 2 ^ 2 ^ n) (h : x &&& y = v) (S : Nat) (w : World) (hm : Fine S w) :
    Calls Tryd.prog 43 #[.func (.func 25) #[] #[], .agg #[.int .i64 n, .int .u64 x], .agg #[.int .i64 n, .int .u64 y], .pointer (some ⟨S, 0, none⟩)] w fun e w' => e = .returned (.agg #[.int .i64 n, .int .u64 v]) ∧ Below w.heap.size w w' :=
  algAnd_any n x y v S w hm fun W => by
    have g := tAnd_ok n x y W (Tt.w64 hn hx) (Tt.w64 hn hy) (Tt.chk_ok hn hx) (Tt.chk_ok hn hy)
    rw [h] at g
    exact g
theorem aOr (n x y v : Nat) (hn : n ≤ 6) (hx : x < 2 ^ 2 ^ n) (hy : y < 2 ^ 2 ^ n) (h : x ||| y = v) (S : Nat) (w : World) (hm : Fine S w) :
    Calls Tryd.prog 43 #[.func (.func 27) #[] #[], .agg #[.int .i64 n, .int .u64 x], .agg #[.int .i64 n, .int .u64 y], .pointer (some ⟨S, 0, none⟩)] w fun e w' => e = .returned (.agg #[.int .i64 n, .int .u64 v]) ∧ Below w.heap.size w w' :=
  algOr_any n x y v S w hm fun W => by
    have g := tOr_ok n x y W (Tt.w64 hn hx) (Tt.w64 hn hy) (Tt.chk_ok hn hx) (Tt.chk_ok hn hy)
    rw [h] at g
    exact g
theorem aXor (n x y v : Nat) (hn : n ≤ 6) (hx : x < 2 ^ 2 ^ n) (hy : y < 2 ^ 2 ^ n) (h : x ^^^ y = v) (S : Nat) (w : World) (hm : Fine S w) :
    Calls Tryd.prog 43 #[.func (.func 29) #[] #[], .agg #[.int .i64 n, .int .u64 x], .agg #[.int .i64 n, .int .u64 y], .pointer (some ⟨S, 0, none⟩)] w fun e w' => e = .returned (.agg #[.int .i64 n, .int .u64 v]) ∧ Below w.heap.size w w' :=
  algXor_any n x y v S w hm fun W => by
    have g := tXor_ok n x y W (Tt.w64 hn hx) (Tt.w64 hn hy) (Tt.chk_ok hn hx) (Tt.chk_ok hn hy)
    rw [h] at g
    exact g
theorem aNot (n x v : Nat) (hn : n ≤ 6) (hx : x < 2 ^ 2 ^ n) (h : Tt.nt n x = v) (S : Nat) (w : World) (hm : Fine S w) :
    Calls Tryd.prog 44 #[.agg #[.int .i64 n, .int .u64 x], .pointer (some ⟨S, 0, none⟩)] w fun e w' => e = .returned (.agg #[.int .i64 n, .int .u64 v]) ∧ Below w.heap.size w w' :=
  algNot_any n x v S w hm fun W => by
    have g := tNot_ok n x W hn (Tt.w64 hn hx) (Tt.chk_ok hn hx)
    unfold Tt.nt at h
    rw [h] at g
    exact g

set_option maxRecDepth 100000 in
set_option maxHeartbeats 40000000 in
theorem algebra_main (n a b c : Nat) (w : World) (hst : St w) (hn : n ≤ 6) (ha : a < 2 ^ 2 ^ n) (hb : b < 2 ^ 2 ^ n) (hc : c < 2 ^ 2 ^ n) :
    Calls Tryd.prog 8 #[.agg #[.int .i64 n, .int .u64 a], .agg #[.int .i64 n, .int .u64 b], .agg #[.int .i64 n, .int .u64 c]] w fun e w' => e = .returned (.bool true) ∧ Below w.heap.size w w' := by
  have HST := Lib.hid hst
  clear hst
  obtain ⟨z, hz⟩ : ∃ z : Nat, z = 0 := ⟨0, rfl⟩
  have C1 := fun W => Lib.hid (rCheck_any n a W (Tt.w64 hn ha))
  have C2 := fun W => Lib.hid (rCheck_any n b W (Tt.w64 hn hb))
  have C3 := fun W => Lib.hid (rCheck_any n c W (Tt.w64 hn hc))
  rw [Tt.chk_ok hn ha] at C1
  rw [Tt.chk_ok hn hb] at C2
  rw [Tt.chk_ok hn hc] at C3
  have C4 := fun W => Lib.hid (tConst_ok n true W hn)
  have C5 := fun W => Lib.hid (tConst_ok n false W hn)
  simp only [cond_true, cond_false] at C4 C5
  rw [← hz] at C5
  have hf0 : ((Tt.full n : Nat) : Int) ≠ (z : Int) := by
    have : 2 ≤ 2 ^ 2 ^ n := by
      have h1 : 1 ≤ 2 ^ n := Nat.pow_pos (by omega)
      have := Nat.pow_le_pow_right (n := 2) (by omega) h1
      simpa using this
    unfold Tt.full
    omega
  have hf : (((Tt.full n : Nat) : Int) == (z : Int)) = false := by simpa using hf0
  clear hf0
  obtain ⟨P0, P1, P2, L0, z0⟩ := tab3_new w n a n b n c 24
  have nfa := Tt.nt_fits n a
  have nfb := Tt.nt_fits n b
  have f1 : a &&& b < 2 ^ 2 ^ n := Nat.lt_of_le_of_lt Nat.and_le_left ha
  have f2 : a ||| b < 2 ^ 2 ^ n := Nat.or_lt_two_pow ha hb
  have f3 : b ||| c < 2 ^ 2 ^ n := Nat.or_lt_two_pow hb hc
  have f5 : a &&& c < 2 ^ 2 ^ n := Nat.lt_of_le_of_lt Nat.and_le_left ha
  have f6 : b &&& c < 2 ^ 2 ^ n := Nat.lt_of_le_of_lt Nat.and_le_left hb
  have f8 : a ||| c < 2 ^ 2 ^ n := Nat.or_lt_two_pow ha hc
  have f10 : a &&& Tt.nt n b < 2 ^ 2 ^ n := Nat.lt_of_le_of_lt Nat.and_le_left ha
  have f11 : Tt.nt n a &&& b < 2 ^ 2 ^ n := Nat.lt_of_le_of_lt Nat.and_le_left nfa
  have HD : AlgD n (a) (b) (c) z (Tt.full n) (a &&& b) (a ||| b) (b ||| c) (a &&& (b ||| c)) (a &&& c) (b &&& c) (a ||| (b &&& c)) (a ||| c) (a ^^^ b) (a &&& Tt.nt n b) (Tt.nt n a &&& b) (Tt.nt n a) (Tt.nt n b) (Tt.nt n (a &&& b)) := by
    constructor
    · exact aAnd n _ _ _ hn ha hb (rfl)
    · exact aAnd n _ _ _ hn hb ha (Nat.and_comm b a)
    · exact aOr n _ _ _ hn ha hb (rfl)
    · exact aOr n _ _ _ hn hb ha (Nat.or_comm b a)
    · exact aOr n _ _ _ hn hb hc (rfl)
    · exact aAnd n _ _ _ hn ha f3 (rfl)
    · exact aAnd n _ _ _ hn ha hc (rfl)
    · exact aOr n _ _ _ hn f1 f5 (Tt.alg1 a b c)
    · exact aAnd n _ _ _ hn hb hc (rfl)
    · exact aOr n _ _ _ hn ha f6 (rfl)
    · exact aOr n _ _ _ hn ha hc (rfl)
    · exact aAnd n _ _ _ hn f2 f8 (Tt.alg2 a b c)
    · exact aNot n _ _ hn ha (rfl)
    · exact aAnd n _ _ _ hn ha nfa ((Tt.alg3 hn ha).trans hz.symm)
    · exact aOr n _ _ _ hn ha nfa (Tt.alg4 hn ha)
    · exact aNot n _ _ hn f1 (rfl)
    · exact aNot n _ _ hn hb (rfl)
    · exact aOr n _ _ _ hn nfa nfb (Tt.alg5 hn ha hb)
    · exact aNot n _ _ hn nfa (Tt.alg6 hn ha)
    · exact aXor n _ _ _ hn ha hb (rfl)
    · exact aAnd n _ _ _ hn ha nfb (rfl)
    · exact aAnd n _ _ _ hn nfa hb (rfl)
    · exact aOr n _ _ _ hn f10 f11 (Tt.alg7 hn ha hb)
    · exact aOr n _ _ _ hn ha f1 (Tt.alg8 a b)
  clear nfa nfb f1 f2 f3 f5 f6 f8 f10 f11 ha hb hc hz hn
  generalize a &&& (b ||| c) = v4 at *
  generalize a ||| (b &&& c) = v7 at *
  generalize a &&& Tt.nt n b = v10 at *
  generalize Tt.nt n a &&& b = v11 at *
  generalize Tt.nt n (a &&& b) = nv at *
  generalize a &&& b = v1 at *
  generalize a ||| b = v2 at *
  generalize b ||| c = v3 at *
  generalize a &&& c = v5 at *
  generalize b &&& c = v6 at *
  generalize a ||| c = v8 at *
  generalize a ^^^ b = v9 at *
  generalize Tt.nt n a = na at *
  generalize Tt.nt n b = nb at *
  generalize Tt.full n = f at *
  · go_enter Tryd.func8, Tryd.ntmps8
    go_wp2_with fail
    refine ((C1 _).out).mono ?_
    rintro e w1 ⟨rfl, hb⟩
    have hz := hb.size
    have V1 := P0.below (by simp <;> omega) hb
    have V2 := P1.below (by simp <;> omega) hb
    have V3 := P2.below (by simp <;> omega) hb
    have hB := L0.trans (hb.mono (by simp <;> omega))
    clear hb P0 P1 P2 L0
    obtain ⟨a10, a11, a12, a13, a14⟩ := id V1
    obtain ⟨a20, a21, a22, a23, a24⟩ := id V2
    obtain ⟨a30, a31, a32, a33, a34⟩ := id V3
    have H1 := Lib.hid V1
    have H2 := Lib.hid V2
    have H3 := Lib.hid V3
    clear V1 V2 V3
    go_wp2_with fail
    refine ((C2 _).out).mono ?_
    rintro e w2 ⟨rfl, hb⟩
    have V1 := H1.out.step hb
    have V2 := H2.out.step hb
    have V3 := H3.out.step hb
    have hB' := below_nxt hB hb
    clear hb hB a10 a11 a12 a13 a14 H1 a20 a21 a22 a23 a24 H2 a30 a31 a32 a33 a34 H3
    have hB := hB'
    clear hB'
    obtain ⟨a10, a11, a12, a13, a14⟩ := id V1
    obtain ⟨a20, a21, a22, a23, a24⟩ := id V2
    obtain ⟨a30, a31, a32, a33, a34⟩ := id V3
    have H1 := Lib.hid V1
    have H2 := Lib.hid V2
    have H3 := Lib.hid V3
    clear V1 V2 V3
    go_wp2_with fail
    refine ((C3 _).out).mono ?_
    rintro e w3 ⟨rfl, hb⟩
    have V1 := H1.out.step hb
    have V2 := H2.out.step hb
    have V3 := H3.out.step hb
    have hB' := below_nxt hB hb
    clear hb hB a10 a11 a12 a13 a14 H1 a20 a21 a22 a23 a24 H2 a30 a31 a32 a33 a34 H3
    have hB := hB'
    clear hB'
    obtain ⟨a10, a11, a12, a13, a14⟩ := id V1
    obtain ⟨a20, a21, a22, a23, a24⟩ := id V2
    obtain ⟨a30, a31, a32, a33, a34⟩ := id V3
    have H1 := Lib.hid V1
    have H2 := Lib.hid V2
    have H3 := Lib.hid V3
    clear V1 V2 V3
    go_wp2_with fail
    obtain ⟨X, hX⟩ : ∃ X, w3.alloc (.cells #[.bool false] 4) = X := ⟨_, rfl⟩
    rw [hX]
    have bX : Below w3.heap.size w3 X := by rw [← hX]; exact (Below.refl _ _).alloc (Nat.le_refl _) _
    have sX : X.heap.size = w3.heap.size + 1 := by rw [← hX]; simp
    have FS : Fine w3.heap.size X := by rw [← hX]; exact heap_alloc_new w3 _
    have V1 := H1.out.step bX
    have V2 := H2.out.step bX
    have V3 := H3.out.step bX
    have hB' := below_nxt hB bX
    clear bX hX hB a10 a11 a12 a13 a14 H1 a20 a21 a22 a23 a24 H2 a30 a31 a32 a33 a34 H3
    have hB := hB'
    clear hB'
    generalize hG : w3.heap.size = S at *
    clear hG
    obtain ⟨a10, a11, a12, a13, a14⟩ := id V1
    obtain ⟨a20, a21, a22, a23, a24⟩ := id V2
    obtain ⟨a30, a31, a32, a33, a34⟩ := id V3
    have H1 := Lib.hid V1
    have H2 := Lib.hid V2
    have H3 := Lib.hid V3
    clear V1 V2 V3
    go_wp2_with fail
    refine ((C4 _).out).mono ?_
    rintro e w4 ⟨rfl, hb⟩
    have V1 := H1.out.step hb
    have V2 := H2.out.step hb
    have V3 := H3.out.step hb
    have hB' := below_nxt hB hb
    have FS' := FS.next hb
    clear FS
    have FS := FS'
    clear FS'
    clear hb hB a10 a11 a12 a13 a14 H1 a20 a21 a22 a23 a24 H2 a30 a31 a32 a33 a34 H3
    have hB := hB'
    clear hB'
    have n4_1 : w.heap.size < w4.heap.size := V1.1
    have n4_2 : (w.heap.size + 1) < w4.heap.size := V2.1
    have n4_3 : (w.heap.size + 2) < w4.heap.size := V3.1
    obtain ⟨a10, a11, a12, a13, a14⟩ := id V1
    obtain ⟨a20, a21, a22, a23, a24⟩ := id V2
    obtain ⟨a30, a31, a32, a33, a34⟩ := id V3
    have H1 := Lib.hid V1
    have H2 := Lib.hid V2
    have H3 := Lib.hid V3
    clear V1 V2 V3
    go_wp2_with fail
    refine ((C5 _).out).mono ?_
    rintro e w5 ⟨rfl, hb⟩
    have V1 := H1.out.box hb
    have V2 := H2.out.box hb
    have V3 := H3.out.box hb
    have V4 := tabI_box hb
    have hB' := below_nxtb hB hb
    have FS' := FS.boxn hb
    clear FS
    have FS := FS'
    clear FS'
    clear hb hB a10 a11 a12 a13 a14 H1 a20 a21 a22 a23 a24 H2 a30 a31 a32 a33 a34 H3
    have hB := hB'
    clear hB'
    have n5_1 : w.heap.size < w5.heap.size := V1.1
    have n5_2 : (w.heap.size + 1) < w5.heap.size := V2.1
    have n5_3 : (w.heap.size + 2) < w5.heap.size := V3.1
    have n5_4 : w4.heap.size < w5.heap.size := V4.1
    obtain ⟨a10, a11, a12, a13, a14⟩ := id V1
    obtain ⟨a20, a21, a22, a23, a24⟩ := id V2
    obtain ⟨a30, a31, a32, a33, a34⟩ := id V3
    obtain ⟨a40, a41, a42, a43, a44⟩ := id V4
    have H1 := Lib.hid V1
    have H2 := Lib.hid V2
    have H3 := Lib.hid V3
    have H4 := Lib.hid V4
    clear V1 V2 V3 V4
    go_upto_region 11 with fail
    obtain ⟨Y, hY⟩ : ∃ Y, w5.alloc (.cells #[.int .i64 n, .int .u64 z] 24) = Y := ⟨_, rfl⟩
    rw [hY]
    have bY : Below w5.heap.size w5 Y := by rw [← hY]; exact (Below.refl _ _).alloc (Nat.le_refl _) _
    have sY : Y.heap.size = w5.heap.size + 1 := by rw [← hY]; simp
    have V5 : TabI Y w5.heap.size n z := by rw [← hY]; exact tabI_new w5 n z 24
    have V1 := H1.out.step bY
    have V2 := H2.out.step bY
    have V3 := H3.out.step bY
    have V4 := H4.out.step bY
    have hB' := below_nxt hB bY
    have FS' := FS.next bY
    clear FS
    have FS := FS'
    clear FS'
    clear bY hY hB a10 a11 a12 a13 a14 H1 a20 a21 a22 a23 a24 H2 a30 a31 a32 a33 a34 H3 a40 a41 a42 a43 a44 H4
    have hB := hB'
    clear hB'
    generalize hG : w5.heap.size = gY at *
    clear hG
    obtain ⟨a10, a11, a12, a13, a14⟩ := id V1
    obtain ⟨a20, a21, a22, a23, a24⟩ := id V2
    obtain ⟨a30, a31, a32, a33, a34⟩ := id V3
    obtain ⟨a40, a41, a42, a43, a44⟩ := id V4
    obtain ⟨a50, a51, a52, a53, a54⟩ := id V5
    have H1 := Lib.hid V1
    have H2 := Lib.hid V2
    have H3 := Lib.hid V3
    have H4 := Lib.hid V4
    have H5 := Lib.hid V5
    clear V1 V2 V3 V4 V5
    clear C1 C2 C3 C4 C5 hf z0 a13 a14 a23 a24 a33 a34 a43 a44 a53 a54
    have HFS := Lib.hid FS
    go_cut [17] (fun s17 wx => s17 = .bool true ∧ Fine S wx ∧ Below Y.heap.size Y wx)
    case first =>
      as_aux_lemma =>
        have hBx : Below Y.heap.size Y Y.drew := (Below.refl _ _).drew
        have FS' : Fine S Y.drew := FS.next hBx
        clear FS
        have FS := FS'
        clear FS'
        dsimp only [List.append]
        go_region_held3 (fun W => (((((((((W.cell? ⟨w.heap.size, 0, none⟩ = some (.int .i64 n)) ∧ W.cell? ⟨w.heap.size, 1, none⟩ = some (.int .u64 a)) ∧ W.cell? ⟨(w.heap.size + 1), 0, none⟩ = some (.int .i64 n)) ∧ W.cell? ⟨(w.heap.size + 1), 1, none⟩ = some (.int .u64 b)) ∧ W.cell? ⟨(w.heap.size + 2), 0, none⟩ = some (.int .i64 n)) ∧ W.cell? ⟨(w.heap.size + 2), 1, none⟩ = some (.int .u64 c)) ∧ W.cell? ⟨w4.heap.size, 0, none⟩ = some (.int .i64 n)) ∧ W.cell? ⟨w4.heap.size, 1, none⟩ = some (.int .u64 f)) ∧ W.cell? ⟨gY, 0, none⟩ = some (.int .i64 n)) ∧ W.cell? ⟨gY, 1, none⟩ = some (.int .u64 z))
          (first | (go_split_ands; refine ⟨⟨⟨⟨⟨⟨⟨⟨⟨?_, ?_⟩, ?_⟩, ?_⟩, ?_⟩, ?_⟩, ?_⟩, ?_⟩, ?_⟩, ?_⟩ <;> (exact (hBx.cell (by dsimp only <;> omega)).trans (by assumption))) | go_keep)
          (first
            | (go_at_call 43; (with_reducible refine (HD.d0 S _ FS).mono ?_); rintro e v ⟨rfl, hb⟩; have FS' := FS.next hb; have hBx' := below_nxt hBx hb; clear FS hBx hb; have FS := FS'; have hBx := hBx'; clear FS' hBx')
            | (go_at_call 43; (with_reducible refine (HD.d1 S _ FS).mono ?_); rintro e v ⟨rfl, hb⟩; have FS' := FS.next hb; have hBx' := below_nxt hBx hb; clear FS hBx hb; have FS := FS'; have hBx := hBx'; clear FS' hBx')
            | (go_at_call 43; (with_reducible refine (HD.d2 S _ FS).mono ?_); rintro e v ⟨rfl, hb⟩; have FS' := FS.next hb; have hBx' := below_nxt hBx hb; clear FS hBx hb; have FS := FS'; have hBx := hBx'; clear FS' hBx')
            | (go_at_call 43; (with_reducible refine (HD.d3 S _ FS).mono ?_); rintro e v ⟨rfl, hb⟩; have FS' := FS.next hb; have hBx' := below_nxt hBx hb; clear FS hBx hb; have FS := FS'; have hBx := hBx'; clear FS' hBx')
            | (go_at_call 43; (with_reducible refine (HD.d4 S _ FS).mono ?_); rintro e v ⟨rfl, hb⟩; have FS' := FS.next hb; have hBx' := below_nxt hBx hb; clear FS hBx hb; have FS := FS'; have hBx := hBx'; clear FS' hBx')
            | (go_at_call 43; (with_reducible refine (HD.d5 S _ FS).mono ?_); rintro e v ⟨rfl, hb⟩; have FS' := FS.next hb; have hBx' := below_nxt hBx hb; clear FS hBx hb; have FS := FS'; have hBx := hBx'; clear FS' hBx')
            | (go_at_call 43; (with_reducible refine (HD.d6 S _ FS).mono ?_); rintro e v ⟨rfl, hb⟩; have FS' := FS.next hb; have hBx' := below_nxt hBx hb; clear FS hBx hb; have FS := FS'; have hBx := hBx'; clear FS' hBx')
            | (go_at_call 43; (with_reducible refine (HD.d7 S _ FS).mono ?_); rintro e v ⟨rfl, hb⟩; have FS' := FS.next hb; have hBx' := below_nxt hBx hb; clear FS hBx hb; have FS := FS'; have hBx := hBx'; clear FS' hBx')
            | (go_at_call 43; (with_reducible refine (HD.d8 S _ FS).mono ?_); rintro e v ⟨rfl, hb⟩; have FS' := FS.next hb; have hBx' := below_nxt hBx hb; clear FS hBx hb; have FS := FS'; have hBx := hBx'; clear FS' hBx')
            | (go_at_call 43; (with_reducible refine (HD.d9 S _ FS).mono ?_); rintro e v ⟨rfl, hb⟩; have FS' := FS.next hb; have hBx' := below_nxt hBx hb; clear FS hBx hb; have FS := FS'; have hBx := hBx'; clear FS' hBx')
            | (go_at_call 43; (with_reducible refine (HD.d10 S _ FS).mono ?_); rintro e v ⟨rfl, hb⟩; have FS' := FS.next hb; have hBx' := below_nxt hBx hb; clear FS hBx hb; have FS := FS'; have hBx := hBx'; clear FS' hBx')
            | (go_at_call 43; (with_reducible refine (HD.d11 S _ FS).mono ?_); rintro e v ⟨rfl, hb⟩; have FS' := FS.next hb; have hBx' := below_nxt hBx hb; clear FS hBx hb; have FS := FS'; have hBx := hBx'; clear FS' hBx'))
        all_goals (go_wp2_with fail; go_meet; exact ⟨rfl, FS, hBx⟩)
    case rest =>
      obtain ⟨rfl, FS0, hBx0⟩ := hcut
      go_upto_region 12 with fail
      go_cut [17] (fun s17 wx => s17 = .bool true ∧ Fine S wx ∧ Below Y.heap.size Y wx)
      case first =>
        as_aux_lemma =>
          have FS := FS0
          have hBx := hBx0
          clear FS hBx
          have FS := FS0.next ((Below.refl wc.heap.size wc).drew)
          have hBx : Below Y.heap.size Y wc.drew := hBx0.drew
          go_region_held3 (fun W => (((((((((W.cell? ⟨w.heap.size, 0, none⟩ = some (.int .i64 n)) ∧ W.cell? ⟨w.heap.size, 1, none⟩ = some (.int .u64 a)) ∧ W.cell? ⟨(w.heap.size + 1), 0, none⟩ = some (.int .i64 n)) ∧ W.cell? ⟨(w.heap.size + 1), 1, none⟩ = some (.int .u64 b)) ∧ W.cell? ⟨(w.heap.size + 2), 0, none⟩ = some (.int .i64 n)) ∧ W.cell? ⟨(w.heap.size + 2), 1, none⟩ = some (.int .u64 c)) ∧ W.cell? ⟨w4.heap.size, 0, none⟩ = some (.int .i64 n)) ∧ W.cell? ⟨w4.heap.size, 1, none⟩ = some (.int .u64 f)) ∧ W.cell? ⟨gY, 0, none⟩ = some (.int .i64 n)) ∧ W.cell? ⟨gY, 1, none⟩ = some (.int .u64 z))
            (first | (go_split_ands; refine ⟨⟨⟨⟨⟨⟨⟨⟨⟨?_, ?_⟩, ?_⟩, ?_⟩, ?_⟩, ?_⟩, ?_⟩, ?_⟩, ?_⟩, ?_⟩ <;> (exact (hBx.cell (by dsimp only <;> omega)).trans (by assumption))) | go_keep)
            (first
              | (go_at_call 44; (with_reducible refine (HD.d12 S _ FS).mono ?_); rintro e v ⟨rfl, hb⟩; have FS' := FS.next hb; have hBx' := below_nxt hBx hb; clear FS hBx hb; have FS := FS'; have hBx := hBx'; clear FS' hBx')
              | (go_at_call 43; (with_reducible refine (HD.d13 S _ FS).mono ?_); rintro e v ⟨rfl, hb⟩; have FS' := FS.next hb; have hBx' := below_nxt hBx hb; clear FS hBx hb; have FS := FS'; have hBx := hBx'; clear FS' hBx')
              | (go_at_call 43; (with_reducible refine (HD.d14 S _ FS).mono ?_); rintro e v ⟨rfl, hb⟩; have FS' := FS.next hb; have hBx' := below_nxt hBx hb; clear FS hBx hb; have FS := FS'; have hBx := hBx'; clear FS' hBx')
              | (go_at_call 43; (with_reducible refine (HD.d0 S _ FS).mono ?_); rintro e v ⟨rfl, hb⟩; have FS' := FS.next hb; have hBx' := below_nxt hBx hb; clear FS hBx hb; have FS := FS'; have hBx := hBx'; clear FS' hBx')
              | (go_at_call 44; (with_reducible refine (HD.d15 S _ FS).mono ?_); rintro e v ⟨rfl, hb⟩; have FS' := FS.next hb; have hBx' := below_nxt hBx hb; clear FS hBx hb; have FS := FS'; have hBx := hBx'; clear FS' hBx')
              | (go_at_call 44; (with_reducible refine (HD.d16 S _ FS).mono ?_); rintro e v ⟨rfl, hb⟩; have FS' := FS.next hb; have hBx' := below_nxt hBx hb; clear FS hBx hb; have FS := FS'; have hBx := hBx'; clear FS' hBx')
              | (go_at_call 43; (with_reducible refine (HD.d17 S _ FS).mono ?_); rintro e v ⟨rfl, hb⟩; have FS' := FS.next hb; have hBx' := below_nxt hBx hb; clear FS hBx hb; have FS := FS'; have hBx := hBx'; clear FS' hBx')
              | (go_at_call 44; (with_reducible refine (HD.d18 S _ FS).mono ?_); rintro e v ⟨rfl, hb⟩; have FS' := FS.next hb; have hBx' := below_nxt hBx hb; clear FS hBx hb; have FS := FS'; have hBx := hBx'; clear FS' hBx'))
          all_goals (go_wp2_with fail; go_meet; exact ⟨rfl, FS, hBx⟩)
      case rest =>
        obtain ⟨rfl, FS0, hBx0⟩ := hcut
        go_upto_region 13 with fail
        go_cut [17] (fun s17 wx => s17 = .bool true ∧ Fine S wx ∧ Below Y.heap.size Y wx)
        case first =>
          as_aux_lemma =>
            have FS := FS0
            have hBx := hBx0
            clear FS hBx
            have FS := FS0.next ((Below.refl wc.heap.size wc).drew)
            have hBx : Below Y.heap.size Y wc.drew := hBx0.drew
            go_region_held3 (fun W => (((((((((W.cell? ⟨w.heap.size, 0, none⟩ = some (.int .i64 n)) ∧ W.cell? ⟨w.heap.size, 1, none⟩ = some (.int .u64 a)) ∧ W.cell? ⟨(w.heap.size + 1), 0, none⟩ = some (.int .i64 n)) ∧ W.cell? ⟨(w.heap.size + 1), 1, none⟩ = some (.int .u64 b)) ∧ W.cell? ⟨(w.heap.size + 2), 0, none⟩ = some (.int .i64 n)) ∧ W.cell? ⟨(w.heap.size + 2), 1, none⟩ = some (.int .u64 c)) ∧ W.cell? ⟨w4.heap.size, 0, none⟩ = some (.int .i64 n)) ∧ W.cell? ⟨w4.heap.size, 1, none⟩ = some (.int .u64 f)) ∧ W.cell? ⟨gY, 0, none⟩ = some (.int .i64 n)) ∧ W.cell? ⟨gY, 1, none⟩ = some (.int .u64 z))
              (first | (go_split_ands; refine ⟨⟨⟨⟨⟨⟨⟨⟨⟨?_, ?_⟩, ?_⟩, ?_⟩, ?_⟩, ?_⟩, ?_⟩, ?_⟩, ?_⟩, ?_⟩ <;> (exact (hBx.cell (by dsimp only <;> omega)).trans (by assumption))) | go_keep)
              (first
                | (go_at_call 43; (with_reducible refine (HD.d19 S _ FS).mono ?_); rintro e v ⟨rfl, hb⟩; have FS' := FS.next hb; have hBx' := below_nxt hBx hb; clear FS hBx hb; have FS := FS'; have hBx := hBx'; clear FS' hBx')
                | (go_at_call 44; (with_reducible refine (HD.d16 S _ FS).mono ?_); rintro e v ⟨rfl, hb⟩; have FS' := FS.next hb; have hBx' := below_nxt hBx hb; clear FS hBx hb; have FS := FS'; have hBx := hBx'; clear FS' hBx')
                | (go_at_call 43; (with_reducible refine (HD.d20 S _ FS).mono ?_); rintro e v ⟨rfl, hb⟩; have FS' := FS.next hb; have hBx' := below_nxt hBx hb; clear FS hBx hb; have FS := FS'; have hBx := hBx'; clear FS' hBx')
                | (go_at_call 44; (with_reducible refine (HD.d12 S _ FS).mono ?_); rintro e v ⟨rfl, hb⟩; have FS' := FS.next hb; have hBx' := below_nxt hBx hb; clear FS hBx hb; have FS := FS'; have hBx := hBx'; clear FS' hBx')
                | (go_at_call 43; (with_reducible refine (HD.d21 S _ FS).mono ?_); rintro e v ⟨rfl, hb⟩; have FS' := FS.next hb; have hBx' := below_nxt hBx hb; clear FS hBx hb; have FS := FS'; have hBx := hBx'; clear FS' hBx')
                | (go_at_call 43; (with_reducible refine (HD.d22 S _ FS).mono ?_); rintro e v ⟨rfl, hb⟩; have FS' := FS.next hb; have hBx' := below_nxt hBx hb; clear FS hBx hb; have FS := FS'; have hBx := hBx'; clear FS' hBx')
                | (go_at_call 43; (with_reducible refine (HD.d0 S _ FS).mono ?_); rintro e v ⟨rfl, hb⟩; have FS' := FS.next hb; have hBx' := below_nxt hBx hb; clear FS hBx hb; have FS := FS'; have hBx := hBx'; clear FS' hBx')
                | (go_at_call 43; (with_reducible refine (HD.d23 S _ FS).mono ?_); rintro e v ⟨rfl, hb⟩; have FS' := FS.next hb; have hBx' := below_nxt hBx hb; clear FS hBx hb; have FS := FS'; have hBx := hBx'; clear FS' hBx'))
            all_goals (go_wp2_with fail; go_meet; exact ⟨rfl, FS, hBx⟩)
        case rest =>
          obtain ⟨rfl, FS0, hBx0⟩ := hcut
          have c0 := cell_of_one FS0
          have hE := hB.trans (hBx0.mono hB.size)
          go_wp2_with fail
          refine (awake_any _ (HST.out.next hE)).mono ?_
          rintro e wz ⟨rfl, hb⟩
          have hF := below_nxt hE hb
          go_wp2
          go_ret
          exact ⟨rfl, hF⟩

end Go.Proofs.YtmmcakeedejbnaaDoor
