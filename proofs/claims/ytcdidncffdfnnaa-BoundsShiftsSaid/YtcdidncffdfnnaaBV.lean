/- timed and Forget of the reference. -/
import Derived.Test.YtcdidncffdfnnaaBU
import Derived.Test.YtcdidncffdfnnaaBP
namespace Bn
/-- A matrix behind the first k steps of Forget. -/
def fgS (P : Mx) (a k : Nat) : Mx := fun x y => if x ≠ y ∧ ((x = a ∧ y < k) ∨ (y = a ∧ x < k)) then -1099511627776 else P x y
theorem fgS_zero (P : Mx) (a x y : Nat) : fgS P a 0 x y = P x y := if_neg (by omega)
theorem fgS_same (P : Mx) (a x y : Nat) : fgS P a a x y = fgS P a (a + 1) x y := by unfold fgS; grind
theorem fgS_next {P : Mx} {a k : Nat} (h : k ≠ a) (x y : Nat) : up (up (fgS P a k) a k (-1099511627776)) k a (-1099511627776) x y = fgS P a (k + 1) x y := by unfold fgS up; grind
theorem fgS_end {P : Mx} {N a x y : Nat} (hx : x ≤ N) (hy : y ≤ N) : fgS P a (N + 1) x y = fgF N a P x y := by unfold fgS fgF; grind
end Bn
namespace Go.Proofs.Ytcdidncffdfnnaa
open Go.RowKit
set_option maxHeartbeats 4000000 in
set_option maxRecDepth 100000 in
theorem rTmd_any (n i : Int) (v : Value) (R : List (List Int)) (w : World) (hs : SeesR w v R) :
    Calls Try.prog 83 #[.agg #[.int .i64 n, v], .int .i64 i] w fun e w' => e = .returned (.int .i64 (Bn.cwE n R 1 [i])) ∧ Below w.heap.size w w' := by
  have CC := fun W (h : SeesR W v R) => Lib.hid (rChk_any n v R W h)
  have HS := Lib.hid hs
  obtain ⟨ao, cap, rfl, hcap1, hcap2, -⟩ := hs
  obtain ⟨B0, L0⟩ := boxB_new w n (.slice ao R.length cap) 24
  have HL := Lib.hid L0
  have HB := Lib.hid B0
  clear L0 B0
  by_cases h1 : Bn.chk n R = 0
  · obtain ⟨N, rfl, hN, hSh, hR⟩ := Bn.chk_ok h1
    rw [h1] at CC
    have hcix : Bn.cix N R 1 [i] = if Bn.idx 1 N i then 0 else 2 := by unfold Bn.cix; rw [if_pos h1]; simp
    have CPo := fun W (h : SeesR W (.slice ao R.length cap) R) => Lib.hid (rPoss_any N _ R W hSh hR h)
    cases hidx : Bn.idx 1 N i <;> rw [hidx] at hcix
    · have hr : Bn.cwE N R 1 [i] = 2 := by unfold Bn.cwE; rw [hcix]; rfl
      rw [hr]
      have hd : i < 1 ∨ (N : Int) < i := by
        by_cases g : i < 1
        · exact .inl g
        · right
          unfold Bn.idx at hidx
          simp at hidx
          omega
      clear hr hcix hidx h1 hSh hR CPo
      go_enter Try.func83, Try.ntmps83
      go_wp2_with fail
      refine ((CC _ (HS.out.step HL.out)).out).mono ?_
      rintro e w1 ⟨rfl, hb1⟩
      have HB1 := Lib.hid (below_nxt HL.out hb1)
      obtain ⟨x0, x1, x2⟩ := HB.out.step hb1
      clear hb1
      rcases hd with hd | hd
      · go_wp2
        go_ret
        exact ⟨rfl, HB1.out⟩
      · by_cases hd2 : i < 1
        · go_wp2
          go_ret
          exact ⟨rfl, HB1.out⟩
        · go_wp2
          go_ret
          exact ⟨rfl, HB1.out⟩
    · obtain ⟨h7, h8⟩ := Bn.idx_iff.1 hidx
      have hd1 : ¬ i < 1 := by omega
      have hd2 : ¬ (N : Int) < i := by omega
      cases hok : Bn.ok N (Bn.mx R) <;> rw [hok] at CPo
      · have hr : Bn.cwE N R 1 [i] = 16 := by unfold Bn.cwE; rw [hcix]; simp [hok]
        rw [hr]
        clear hr hcix hidx h1 hok hSh hR
        go_enter Try.func83, Try.ntmps83
        go_wp2_with (first
          | (go_at_call 19; refine ((CC _ (HS.out.step HL.out)).out).mono ?_; rintro e w1 ⟨rfl, hb1⟩; have HB1 := Lib.hid (below_nxt HL.out hb1); obtain ⟨x0, x1, x2⟩ := HB.out.step hb1; clear hb1)
          | (go_at_call 74; refine ((CPo _ (HS.out.step HB1.out)).out).mono ?_; rintro e w3 ⟨rfl, hb3⟩; have HB3 := Lib.hid (below_nxt HB1.out hb3); clear hb3))
        go_ret
        exact ⟨rfl, HB3.out⟩
      · have hr : Bn.cwE N R 1 [i] = 0 := by unfold Bn.cwE; rw [hcix]; simp [hok]
        rw [hr]
        clear hr hcix hidx h1 hok hSh hR
        go_enter Try.func83, Try.ntmps83
        go_wp2_with (first
          | (go_at_call 19; refine ((CC _ (HS.out.step HL.out)).out).mono ?_; rintro e w1 ⟨rfl, hb1⟩; have HB1 := Lib.hid (below_nxt HL.out hb1); obtain ⟨x0, x1, x2⟩ := HB.out.step hb1; clear hb1)
          | (go_at_call 74; refine ((CPo _ (HS.out.step HB1.out)).out).mono ?_; rintro e w3 ⟨rfl, hb3⟩; have HB3 := Lib.hid (below_nxt HB1.out hb3); clear hb3))
        go_ret
        exact ⟨rfl, HB3.out⟩
  · have hr : Bn.cwE n R 1 [i] = Bn.chk n R := by unfold Bn.cwE Bn.cix; rw [if_neg h1, if_neg h1]
    rw [hr]
    clear hr
    go_enter Try.func83, Try.ntmps83
    go_wp2_with (go_at_call 19; refine ((CC _ (HS.out.step HL.out)).out).mono ?_; rintro e w1 ⟨rfl, hb1⟩; have HB1 := Lib.hid (below_nxt HL.out hb1); clear hb1)
    go_ret
    exact ⟨rfl, HB1.out⟩
end Go.Proofs.Ytcdidncffdfnnaa
