/- Passes and vents of the reference. -/
import Derived.Test.YtnoaafhgapaicaaDoorGW
namespace Pt
def toV (o : Option (ByteArray × List ByteArray × Bool)) : ByteArray := match o with | none => ⟨#[]⟩ | some (t, _, _) => t
def vtV (l : List ByteArray) : ByteArray := match l with | [] => ⟨#[]⟩ | x :: _ => x
theorem pas_k (k : Nat) (hk : k < 14) (p : Int) : (effV (cat k).eff p).1 = none ∨ ∃ t : ByteArray, t ≠ ⟨#[]⟩ ∧ ((rport k 0 = ⟨#[49, 32]⟩ ∧ (effV (cat k).eff p).1 = some (t, [⟨#[49]⟩], false) ∧ k ≠ 9) ∨ (rport k 0 = ⟨#[49, 32, 49, 49, 32]⟩ ∧ (effV (cat k).eff p).1 = some (t, [⟨#[49]⟩, ⟨#[49, 49]⟩], decide (k = 9)))) := by
  have h : k = 0 ∨ k = 1 ∨ k = 2 ∨ k = 3 ∨ k = 4 ∨ k = 5 ∨ k = 6 ∨ k = 7 ∨ k = 8 ∨ k = 9 ∨ k = 10 ∨ k = 11 ∨ k = 12 ∨ k = 13 := by omega
  clear hk
  rcases h with rfl | rfl | rfl | rfl | rfl | rfl | rfl | rfl | rfl | rfl | rfl | rfl | rfl | rfl <;> by_cases hp : p = 1 <;> simp [cat, effV, rport, hp]
theorem ven_k (k : Nat) (hk : k < 14) (p : Int) : (effV (cat k).eff p).2 = [] ∨ ∃ t : ByteArray, t ≠ ⟨#[]⟩ ∧ (effV (cat k).eff p).2 = [t] := by
  have h : k = 0 ∨ k = 1 ∨ k = 2 ∨ k = 3 ∨ k = 4 ∨ k = 5 ∨ k = 6 ∨ k = 7 ∨ k = 8 ∨ k = 9 ∨ k = 10 ∨ k = 11 ∨ k = 12 ∨ k = 13 := by omega
  clear hk
  rcases h with rfl | rfl | rfl | rfl | rfl | rfl | rfl | rfl | rfl | rfl | rfl | rfl | rfl | rfl <;> by_cases hp : p = 1 <;> simp [cat, effV, hp]
def pasAll (k p : Int) : Option (ByteArray × List ByteArray × Bool) := if inE k p = 0 then (effV (cat k.toNat).eff p).1 else none
def venAll (k p : Int) : List ByteArray := if inE k p = 0 then (effV (cat k.toNat).eff p).2 else []
end Pt
namespace Go.Proofs.YtnoaafhgapaicaaDoor
open Go.RowKit
set_option maxHeartbeats 4000000 in
set_option maxRecDepth 100000 in
theorem rOpen_any (k : Nat) (hk : k < 14) (p : Int) (w : World) : Calls Tryd.prog 52 #[.int .i64 (k : Int), .int .i64 p] w fun e w' => e = .returned (.tuple #[.string (Pt.toV (Pt.effV (Pt.cat k).eff p).1), .string (Pt.vtV (Pt.effV (Pt.cat k).eff p).2)]) ∧ w' = w := by
  have h : k = 0 ∨ k = 1 ∨ k = 2 ∨ k = 3 ∨ k = 4 ∨ k = 5 ∨ k = 6 ∨ k = 7 ∨ k = 8 ∨ k = 9 ∨ k = 10 ∨ k = 11 ∨ k = 12 ∨ k = 13 := by omega
  clear hk
  by_cases hp : p = 1
  · subst hp
    rcases h with rfl | rfl | rfl | rfl | rfl | rfl | rfl | rfl | rfl | rfl | rfl | rfl | rfl | rfl
    all_goals
      simp only [Pt.cat, Pt.effV, if_true, Pt.toV, Pt.vtV]
      go_enter Tryd.func52, Tryd.ntmps52
      go_wp2
      refine bodyPost_ret (v := .tuple #[.string _, .string _]) ?_ rfl ⟨rfl, rfl⟩
      simp [results, Tryd.results52, go_sem]
  · rcases h with rfl | rfl | rfl | rfl | rfl | rfl | rfl | rfl | rfl | rfl | rfl | rfl | rfl | rfl
    all_goals
      simp only [Pt.cat, Pt.effV, if_neg hp, Pt.toV, Pt.vtV]
      go_enter Tryd.func52, Tryd.ntmps52
      go_wp2
      refine bodyPost_ret (v := .tuple #[.string _, .string _]) ?_ rfl ⟨rfl, rfl⟩
      simp [results, Tryd.results52, go_sem]
set_option maxHeartbeats 4000000 in
set_option maxRecDepth 100000 in
theorem rPassed_any (k : Nat) (hk : k < 14) (p : Int) (w : World) : Calls Tryd.prog 51 #[.int .i64 (k : Int), .int .i64 p] w fun e w' => ∃ v, e = .returned v ∧ SeeQ w' v (Pt.effV (Pt.cat k).eff p).1 ∧ Below w.heap.size w w' := by
  have CO := fun W => Lib.hid (rOpen_any k hk p W)
  generalize (Pt.effV (Pt.cat k).eff p).2 = vs at *
  have zk : (k : Int) < 14 := by omega
  rcases Pt.pas_k k hk p with h | ⟨t, ht, ⟨h1, h2, h3⟩ | ⟨h1, h2⟩⟩
  · rw [h] at CO ⊢
    simp only [Pt.toV] at CO
    clear h hk
    go_enter Tryd.func51, Tryd.ntmps51
    go_wp2_with fail
    refine (CO w).out.mono ?_
    rintro e w1 ⟨rfl, rfl⟩
    go_wp2
    go_ret
    exact ⟨_, rfl, rfl, Below.refl _ _⟩
  · rw [h2] at CO ⊢
    simp only [Pt.toV] at CO
    have HS := Lib.hid h1
    have z9 : ((k : Int) == 9) = false := by
      have : ¬ ((k : Int) = 9) := by omega
      simp [this]
    clear h1 h2 h3
    have HK := Lib.hid hk
    have t8 := no_txt ht
    have u8 := no_txt2 ht
    have b0 : 7 * k + 2 = k * 7 + 2 := by omega
    clear ht hk
    go_enter Tryd.func51, Tryd.ntmps51
    go_wp2_with fail
    refine (CO w).out.mono ?_
    rintro e w1 ⟨rfl, rfl⟩
    go_wp2_with fail
    refine (rRows_any w1).mono ?_
    rintro e w2 ⟨g, rfl, ⟨hg, hc⟩, hb⟩
    have c0 := hc k HK.out 2 (by omega)
    rw [show (Pt.rowsL k)[2]? = some (.string (Pt.rport k 0)) from rfl, HS.out, b0] at c0
    have HB := Lib.hid hb
    clear hb hc b0
    go_wp2_with fail
    refine (names_1 w2).mono ?_
    rintro e w3 ⟨v, rfl, hs, hb3⟩
    obtain ⟨va, vn, vc, rfl⟩ := hs.form
    have HS3 := Lib.hid hs
    have HB3 := Lib.hid (below_nxt HB.out hb3)
    clear hs hb3 HB
    go_wp2
    refine bodyPost_ret (v := .slice (some ⟨w3.heap.size, 0, none⟩) 1 1) ?_ rfl ?_
    · simp [results, Tryd.results51, go_sem]
    · exact ⟨_, rfl, ⟨w3.heap.size, .slice va vn vc, 1, rfl, by simp, cell_new rfl rfl, cell_new rfl rfl, cell_new rfl rfl, HS3.out.step ((Below.refl _ _).alloc (Nat.le_refl _) _)⟩, HB3.out.alloc HB3.out.size _⟩
  · rw [h2] at CO ⊢
    simp only [Pt.toV] at CO
    have HS := Lib.hid h1
    have z9 : ((k : Int) == 9) = decide (k = 9) := by
      by_cases e : k = 9
      · subst e; rfl
      · have : ¬ ((k : Int) = 9) := by omega
        simp [e, this]
    clear h1 h2
    generalize decide (k = 9) = tw at *
    have HK := Lib.hid hk
    have t8 := no_txt ht
    have u8 := no_txt2 ht
    have b0 : 7 * k + 2 = k * 7 + 2 := by omega
    clear ht hk
    go_enter Tryd.func51, Tryd.ntmps51
    go_wp2_with fail
    refine (CO w).out.mono ?_
    rintro e w1 ⟨rfl, rfl⟩
    go_wp2_with fail
    refine (rRows_any w1).mono ?_
    rintro e w2 ⟨g, rfl, ⟨hg, hc⟩, hb⟩
    have c0 := hc k HK.out 2 (by omega)
    rw [show (Pt.rowsL k)[2]? = some (.string (Pt.rport k 0)) from rfl, HS.out, b0] at c0
    have HB := Lib.hid hb
    clear hb hc b0
    go_wp2_with fail
    refine (names_11 w2).mono ?_
    rintro e w3 ⟨v, rfl, hs, hb3⟩
    obtain ⟨va, vn, vc, rfl⟩ := hs.form
    have HS3 := Lib.hid hs
    have HB3 := Lib.hid (below_nxt HB.out hb3)
    clear hs hb3 HB
    go_wp2
    refine bodyPost_ret (v := .slice (some ⟨w3.heap.size, 0, none⟩) 1 1) ?_ rfl ?_
    · simp [results, Tryd.results51, go_sem]
    · exact ⟨_, rfl, ⟨w3.heap.size, .slice va vn vc, 1, rfl, by simp, cell_new rfl rfl, cell_new rfl rfl, cell_new rfl rfl, HS3.out.step ((Below.refl _ _).alloc (Nat.le_refl _) _)⟩, HB3.out.alloc HB3.out.size _⟩
set_option maxHeartbeats 4000000 in
set_option maxRecDepth 100000 in
theorem rPasses_any (k p : Int) (w : World) : Calls Tryd.prog 27 #[.int .i64 k, .int .i64 p] w fun e w' => ∃ v, e = .returned (.tuple #[v, .int .i64 (Pt.inE k p)]) ∧ SeeQ w' v (Pt.pasAll k p) ∧ Below w.heap.size w w' := by
  have CR := fun W => Lib.hid (placed_any k p W)
  unfold Pt.pasAll
  by_cases hE : Pt.inE k p = 0
  · obtain ⟨c, rfl, hc, -, -⟩ := Pt.inE_zero hE
    have CM := fun W => Lib.hid (rPassed_any c hc p W)
    rw [if_pos hE, Int.toNat_natCast]
    rw [hE] at CR ⊢
    clear hE hc
    generalize (Pt.effV (Pt.cat c).eff p).1 = z at *
    go_enter Tryd.func27, Tryd.ntmps27
    go_wp2_with fail
    refine (CR w).out.mono ?_
    rintro e w1 ⟨rfl, hb⟩
    have HB := Lib.hid hb
    clear hb
    go_wp2_with fail
    refine (CM w1).out.mono ?_
    rintro e w2 ⟨v, rfl, hs, hb⟩
    have HB2 := Lib.hid (below_nxt HB.out hb)
    have HS := Lib.hid hs
    clear hb hs HB
    go_wp2
    refine bodyPost_ret (v := .tuple #[v, .int .i64 0]) ?_ rfl ?_
    · simp [results, Tryd.results27, go_sem]
    · exact ⟨_, rfl, HS.out, HB2.out⟩
  · rw [if_neg hE]
    generalize Pt.inE k p = z at *
    go_enter Tryd.func27, Tryd.ntmps27
    go_wp2_with fail
    refine (CR w).out.mono ?_
    rintro e w1 ⟨rfl, hb⟩
    have HB := Lib.hid hb
    clear hb
    go_wp2
    refine bodyPost_ret (v := .tuple #[.slice none 0 0, .int .i64 z]) ?_ rfl ?_
    · simp [results, Tryd.results27, go_sem]
    · exact ⟨_, rfl, rfl, HB.out⟩
set_option maxHeartbeats 4000000 in
set_option maxRecDepth 100000 in
theorem rVents_any (k p : Int) (w : World) : Calls Tryd.prog 29 #[.int .i64 k, .int .i64 p] w fun e w' => ∃ v, e = .returned (.tuple #[v, .int .i64 (Pt.inE k p)]) ∧ SeeS w' v (Pt.venAll k p) ∧ Below w.heap.size w w' := by
  have CR := fun W => Lib.hid (placed_any k p W)
  unfold Pt.venAll
  by_cases hE : Pt.inE k p = 0
  · obtain ⟨c, rfl, hc, -, -⟩ := Pt.inE_zero hE
    have CM := fun W => Lib.hid (rOpen_any c hc p W)
    have hv := Pt.ven_k c hc p
    rw [if_pos hE, Int.toNat_natCast]
    rw [hE] at CR ⊢
    clear hE hc
    generalize (Pt.effV (Pt.cat c).eff p).1 = z at *
    generalize (Pt.effV (Pt.cat c).eff p).2 = y at *
    rcases hv with rfl | ⟨t, ht, rfl⟩
    · simp only [Pt.vtV] at CM
      go_enter Tryd.func29, Tryd.ntmps29
      go_wp2_with fail
      refine (CR w).out.mono ?_
      rintro e w1 ⟨rfl, hb⟩
      have HB := Lib.hid hb
      clear hb
      go_wp2_with fail
      refine (CM w1).out.mono ?_
      rintro e w2 ⟨rfl, rfl⟩
      go_wp2
      refine bodyPost_ret (v := .tuple #[.slice none 0 0, .int .i64 0]) ?_ rfl ?_
      · simp [results, Tryd.results29, go_sem]
      · exact ⟨_, rfl, SeeS.nil _, HB.out⟩
    · simp only [Pt.vtV] at CM
      have t8 := no_txt ht
      have u8 := no_txt2 ht
      clear ht
      go_enter Tryd.func29, Tryd.ntmps29
      go_wp2_with fail
      refine (CR w).out.mono ?_
      rintro e w1 ⟨rfl, hb⟩
      have HB := Lib.hid hb
      clear hb
      go_wp2_with fail
      refine (CM w1).out.mono ?_
      rintro e w2 ⟨rfl, rfl⟩
      go_wp2
      refine bodyPost_ret (v := .tuple #[.slice (some ⟨w2.heap.size, 0, none⟩) 1 1, .int .i64 0]) ?_ rfl ?_
      · simp [results, Tryd.results29, go_sem]
      · exact ⟨_, rfl, .one (by simp) (cell_new rfl rfl), HB.out.alloc HB.out.size _⟩
  · rw [if_neg hE]
    generalize Pt.inE k p = z at *
    go_enter Tryd.func29, Tryd.ntmps29
    go_wp2_with fail
    refine (CR w).out.mono ?_
    rintro e w1 ⟨rfl, hb⟩
    have HB := Lib.hid hb
    clear hb
    go_wp2
    refine bodyPost_ret (v := .tuple #[.slice none 0 0, .int .i64 z]) ?_ rfl ?_
    · simp [results, Tryd.results29, go_sem]
    · exact ⟨_, rfl, SeeS.nil _, HB.out⟩
theorem pPasses_any (k p : Int) (w : World) : Calls Tryd.prog 26 #[.int .i64 k, .int .i64 p] w fun e w' => ∃ v, e = .returned (.tuple #[v, .int .i64 (Pt.inE k p)]) ∧ SeeP w' v (Pt.pasAll k p) ∧ Below w.heap.size w w' := by
  unfold Pt.pasAll
  by_cases hE : Pt.inE k p = 0
  · obtain ⟨c, rfl, hc, h0, h1⟩ := Pt.inE_zero hE
    rw [if_pos hE, Int.toNat_natCast, hE]
    exact passes_any c p hc h0 h1 w
  · rw [if_neg hE]
    have he := (Pt.inE_cases k p).resolve_left hE
    refine (passes_no k p _ he w (fun W => rowIn_err rfl he W)).mono ?_
    rintro e w' ⟨rfl, hb⟩
    exact ⟨_, rfl, rfl, hb⟩
theorem pVents_any (k p : Int) (w : World) : Calls Tryd.prog 28 #[.int .i64 k, .int .i64 p] w fun e w' => ∃ v, e = .returned (.tuple #[v, .int .i64 (Pt.inE k p)]) ∧ SeeS w' v (Pt.venAll k p) ∧ Below w.heap.size w w' := by
  unfold Pt.venAll
  by_cases hE : Pt.inE k p = 0
  · obtain ⟨c, rfl, hc, h0, h1⟩ := Pt.inE_zero hE
    rw [if_pos hE, Int.toNat_natCast, hE]
    exact vents_any c p hc h0 h1 w
  · rw [if_neg hE]
    have he := (Pt.inE_cases k p).resolve_left hE
    refine (vents_no k p _ he w (fun W => rowIn_err rfl he W)).mono ?_
    rintro e w' ⟨rfl, hb⟩
    exact ⟨_, rfl, SeeS.nil _, hb⟩
end Go.Proofs.YtnoaafhgapaicaaDoor
