/- Positions and pilots of the reference. -/
import Derived.Test.YthjkcncfppndkaaDoorGR
namespace Pt
theorem many_k : ∀ k, k < 14 → (cat k).pos = if rport k 2 = ⟨#[]⟩ ∨ k = 10 then 1 else 2 := by decide +kernel
end Pt
namespace Go.Proofs.YthjkcncfppndkaaDoor
open Go.RowKit
set_option maxHeartbeats 4000000 in
set_option maxRecDepth 100000 in
theorem rRight_any (k : Int) (w : World) : Calls Tryd.prog 39 #[.int .i64 k] w fun e w' => e = .returned (.int .i64 (if 0 ≤ k ∧ k < 14 then 0 else 1)) ∧ w' = w := by
  by_cases h0 : 0 ≤ k
  · by_cases h1 : k < 14
    · rw [if_pos ⟨h0, h1⟩]
      go_enter Tryd.func39, Tryd.ntmps39
      go_wp2
      go_ret
      exact ⟨rfl, rfl⟩
    · rw [if_neg (by omega)]
      go_enter Tryd.func39, Tryd.ntmps39
      go_wp2
      go_ret
      exact ⟨rfl, rfl⟩
  · rw [if_neg (by omega)]
    go_enter Tryd.func39, Tryd.ntmps39
    go_wp2
    go_ret
    exact ⟨rfl, rfl⟩
set_option maxHeartbeats 4000000 in
set_option maxRecDepth 100000 in
theorem rMany_any (k : Nat) (hk : k < 14) (w : World) : Calls Tryd.prog 48 #[.int .i64 (k : Int)] w fun e w' => e = .returned (.int .i64 (Pt.cat k).pos) ∧ Below w.heap.size w w' := by
  rw [Pt.many_k k hk]
  have zk : (k : Int) < 14 := by omega
  have HK := Lib.hid hk
  have a0 : k * 7 + 2 + 2 = 7 * k + 4 := by omega
  obtain ⟨s, hs'⟩ : ∃ s, Pt.rport k 2 = s := ⟨_, rfl⟩
  rw [hs']
  have HS := Lib.hid hs'
  clear hk hs'
  by_cases hs : s = ⟨#[]⟩
  · subst hs
    rw [if_pos (.inl rfl)]
    go_enter Tryd.func48, Tryd.ntmps48
    go_wp2_with fail
    refine (rRows_any w).mono ?_
    rintro e w1 ⟨g, rfl, ⟨hg, hc⟩, hb⟩
    have c0 := hc k HK.out 4 (by omega)
    rw [show (Pt.rowsL k)[4]? = some (.string (Pt.rport k 2)) from rfl, HS.out] at c0
    have HB := Lib.hid hb
    clear hb hc
    go_wp2
    go_ret
    exact ⟨rfl, HB.out⟩
  · have t8 := no_txt hs
    have u8 := no_txt2 hs
    by_cases h10 : k = 10
    · rw [if_pos (.inr h10)]
      have z10 : ((k : Int) == 10) = true := by rw [h10]; rfl
      clear h10 hs
      go_enter Tryd.func48, Tryd.ntmps48
      go_wp2_with fail
      refine (rRows_any w).mono ?_
      rintro e w1 ⟨g, rfl, ⟨hg, hc⟩, hb⟩
      have c0 := hc k HK.out 4 (by omega)
      rw [show (Pt.rowsL k)[4]? = some (.string (Pt.rport k 2)) from rfl, HS.out] at c0
      have HB := Lib.hid hb
      clear hb hc
      go_wp2
      go_ret
      exact ⟨rfl, HB.out⟩
    · rw [if_neg (fun h => h.elim hs h10)]
      have z10 : ¬ ((k : Int) = 10) := by omega
      clear hs
      go_enter Tryd.func48, Tryd.ntmps48
      go_wp2_with fail
      refine (rRows_any w).mono ?_
      rintro e w1 ⟨g, rfl, ⟨hg, hc⟩, hb⟩
      have c0 := hc k HK.out 4 (by omega)
      rw [show (Pt.rowsL k)[4]? = some (.string (Pt.rport k 2)) from rfl, HS.out] at c0
      have HB := Lib.hid hb
      clear hb hc
      go_wp2
      go_ret
      exact ⟨rfl, HB.out⟩
set_option maxHeartbeats 4000000 in
set_option maxRecDepth 100000 in
theorem rPiloted_any (k : Nat) (hk : k < 14) (w : World) : Calls Tryd.prog 54 #[.int .i64 (k : Int)] w fun e w' => e = .returned (.tuple #[.string (Pt.cat k).plus, .string (Pt.cat k).minus]) ∧ w' = w := by
  have h : k = 0 ∨ k = 1 ∨ k = 2 ∨ k = 3 ∨ k = 4 ∨ k = 5 ∨ k = 6 ∨ k = 7 ∨ k = 8 ∨ k = 9 ∨ k = 10 ∨ k = 11 ∨ k = 12 ∨ k = 13 := by omega
  clear hk
  rcases h with rfl | rfl | rfl | rfl | rfl | rfl | rfl | rfl | rfl | rfl | rfl | rfl | rfl | rfl
  all_goals
    simp only [Pt.cat]
    go_enter Tryd.func54, Tryd.ntmps54
    go_wp2
    refine bodyPost_ret (v := .tuple #[.string _, .string _]) ?_ rfl ⟨rfl, rfl⟩
    simp [results, Tryd.results54, go_sem]
set_option maxHeartbeats 4000000 in
set_option maxRecDepth 100000 in
theorem placed_any (k p : Int) (w : World) : Calls Tryd.prog 50 #[.int .i64 k, .int .i64 p] w fun e w' => e = .returned (.int .i64 (Pt.inE k p)) ∧ Below w.heap.size w w' := by
  have CR := fun W => Lib.hid (rRight_any k W)
  by_cases hk : 0 ≤ k ∧ k < 14
  · obtain ⟨c, rfl⟩ := Int.eq_ofNat_of_zero_le hk.1
    have hc : c < 14 := by omega
    have CM := fun W => Lib.hid (rMany_any c hc W)
    rw [if_pos hk] at CR
    have hE : Pt.inE (c : Int) p = if p < 0 ∨ (Pt.cat c).pos ≤ p then 2 else 0 := by unfold Pt.inE; rw [if_neg (by omega), Int.toNat_natCast]
    rw [hE]
    clear hE hk hc
    generalize (Pt.cat c).pos = q at *
    by_cases h0 : p < 0
    · rw [if_pos (.inl h0)]
      go_enter Tryd.func50, Tryd.ntmps50
      go_wp2_with fail
      refine (CR w).out.mono ?_
      rintro e w1 ⟨rfl, rfl⟩
      go_wp2
      go_ret
      exact ⟨rfl, Below.refl _ _⟩
    · by_cases h1 : q ≤ p
      · rw [if_pos (.inr h1)]
        go_enter Tryd.func50, Tryd.ntmps50
        go_wp2_with fail
        refine (CR w).out.mono ?_
        rintro e w1 ⟨rfl, rfl⟩
        go_wp2_with fail
        refine (CM w1).out.mono ?_
        rintro e w2 ⟨rfl, hb⟩
        have HB := Lib.hid hb
        clear hb
        go_wp2
        go_ret
        exact ⟨rfl, HB.out⟩
      · rw [if_neg (by omega)]
        go_enter Tryd.func50, Tryd.ntmps50
        go_wp2_with fail
        refine (CR w).out.mono ?_
        rintro e w1 ⟨rfl, rfl⟩
        go_wp2_with fail
        refine (CM w1).out.mono ?_
        rintro e w2 ⟨rfl, hb⟩
        have HB := Lib.hid hb
        clear hb
        go_wp2
        go_ret
        exact ⟨rfl, HB.out⟩
  · rw [if_neg hk] at CR
    have hE : Pt.inE k p = 1 := by unfold Pt.inE; rw [if_pos (by omega)]
    clear hk
    rw [hE]
    go_enter Tryd.func50, Tryd.ntmps50
    go_wp2_with fail
    refine (CR w).out.mono ?_
    rintro e w1 ⟨rfl, rfl⟩
    go_wp2
    go_ret
    exact ⟨rfl, Below.refl _ _⟩
end Go.Proofs.YthjkcncfppndkaaDoor
