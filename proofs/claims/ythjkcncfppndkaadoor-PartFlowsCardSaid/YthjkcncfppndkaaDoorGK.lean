/- Passes: Same of the reference, own of the statements; equal lists of texts by slices.Equal. -/
import Derived.Test.YthjkcncfppndkaaDoorGJ
namespace Go.Proofs.YthjkcncfppndkaaDoor
open Go.RowKit
/-- A slice that reads as a list of at most one pass, of whatever capacity. -/
def SeeQ (w : World) (v : Value) (o : Option (ByteArray × List ByteArray × Bool)) : Prop :=
  match o with
  | none => v = .slice none 0 0
  | some (t, f, a) => ∃ g u c, v = .slice (some ⟨g, 0, none⟩) 1 c ∧ g < w.heap.size ∧ w.cell? ⟨g, 0, none⟩ = some (.string t) ∧ w.cell? ⟨g, 1, none⟩ = some u ∧ w.cell? ⟨g, 2, none⟩ = some (.bool a) ∧ SeeS w u f
theorem SeeQ.step {w w' : World} {v : Value} {o : Option (ByteArray × List ByteArray × Bool)} (h : SeeQ w v o) (hb : Below w.heap.size w w') : SeeQ w' v o := by
  match o, h with
  | none, h => exact h
  | some (t, f, a), ⟨g, u, c, h1, h2, h3, h4, h5, h6⟩ =>
    exact ⟨g, u, c, h1, Nat.lt_of_lt_of_le h2 hb.size, (hb.cell (p := ⟨g, 0, none⟩) h2).trans h3, (hb.cell (p := ⟨g, 1, none⟩) h2).trans h4, (hb.cell (p := ⟨g, 2, none⟩) h2).trans h5, h6.step hb⟩
set_option maxHeartbeats 2000000 in
set_option maxRecDepth 100000 in
theorem same_yes (v u : Value) (o : Option (ByteArray × List ByteArray × Bool)) (w : World) (h1 : SeeQ w v o) (h2 : SeeQ w u o) : Calls Tryd.prog 30 #[v, u] w fun e w' => e = .returned (.bool true) ∧ Below w.heap.size w w' := by
  match o, h1, h2 with
  | none, h1, h2 =>
    obtain rfl := h1
    obtain rfl := h2
    go_enter Tryd.func30, Tryd.ntmps30
    go_wp2
    go_loopw [5] (fun s5 wr => s5 = .int .i64 0 ∧ wr = w) (fun _ _ => 0)
    case atStart => exact ⟨rfl, rfl⟩
    case round =>
      obtain ⟨rfl, rfl⟩ := hrel
      go_wp2
      go_ret
      exact ⟨rfl, Below.refl _ _⟩
  | some (t, f, a), h1, h2 =>
    obtain ⟨g, x, c, rfl, hg, p1, p2, p3, p4⟩ := h1
    obtain ⟨g2, x2, c2, rfl, hg2, q1, q2, q3, q4⟩ := h2
    have CT := fun n => Lib.hid (sameT_yes x x2 f (w.drewN n) (p4.step (below_drewN w n)) (q4.step (below_drewN w n)))
    obtain ⟨xa, xn, xc, rfl⟩ := p4.form
    obtain ⟨ya, yn, yc, rfl⟩ := q4.form
    clear p4 q4
    go_enter Tryd.func30, Tryd.ntmps30
    go_wp2
    go_loopw [5] (fun s5 wr => (s5 = .int .i64 0 ∧ wr = w) ∨ (s5 = .int .i64 1 ∧ Hid (∃ q, wr = w.drewN q))) (fun s5 _ => 1 - (intOf s5).toNat)
    case atStart => exact .inl ⟨rfl, rfl⟩
    case round =>
      rcases hrel with ⟨rfl, rfl⟩ | ⟨rfl, HQ⟩
      · go_wp2
        go_quiet (first | (go_at_call 53; exact Calls.quiet_of (CT _).out))
        go_wp2
        exact ⟨.inr ⟨rfl, Lib.hid ⟨_, rfl⟩⟩, by simp [intOf]⟩
      · obtain ⟨q, rfl⟩ := HQ.out
        go_wp2
        go_ret
        exact ⟨rfl, below_drewN _ _⟩
theorem eqS_any (v u : Value) (l m : List ByteArray) (w : World) (h1 : SeeS w v l) (h2 : SeeS w u m) (hlm : l = m) : Calls Tryd.prog 25 #[v, u] w fun e w' => e = .returned (.bool true) ∧ Below w.heap.size w w' := by
  subst hlm
  rcases h1 with ⟨rfl, rfl⟩ | ⟨g, off, cap, rfl, k1, k2, k3, k4⟩
  · obtain ⟨b, d, rfl, -⟩ := h2.at
    refine (Tryd.slices_Equal_string_empty none b 0 _ d w (Nat.zero_le _)).mono ?_
    rintro e w' ⟨rfl, rfl⟩
    exact ⟨rfl, Below.refl _ _⟩
  · rcases h2 with ⟨rfl, rfl⟩ | ⟨g2, off2, cap2, rfl, j1, j2, j3, j4⟩
    · refine (Tryd.slices_Equal_string_empty _ none cap 0 0 w (Nat.zero_le _)).mono ?_
      rintro e w' ⟨rfl, rfl⟩
      exact ⟨rfl, Below.refl _ _⟩
    · refine (Tryd.slices_Equal_string g off l.length cap g2 off2 l.length cap2 l l w (Nat.le_refl _) (Nat.le_refl _) (by omega) (by omega) k4 j4).mono ?_
      rintro e w' ⟨rfl, q, rfl⟩
      exact ⟨by simp, below_drewN _ _⟩
theorem info_pass : ∃ i : TypeInfo, Tryd.prog.info? 78 = some i ∧ i.zero = some (.agg #[.string ⟨#[]⟩, .slice none 0 0, .bool false]) ∧ i.size = 3 ∧ i.bytes = 48 := by
  have h : (Tryd.prog.info? 78).map (fun i => (i.zero, i.size, i.bytes)) = some (some (.agg #[.string ⟨#[]⟩, .slice none 0 0, .bool false]), 3, 48) := by kernel_rfl
  obtain ⟨i, h1, h2⟩ := Option.map_eq_some_iff.1 h
  simp only [Prod.mk.injEq] at h2
  exact ⟨i, h1, h2⟩
end Go.Proofs.YthjkcncfppndkaaDoor
