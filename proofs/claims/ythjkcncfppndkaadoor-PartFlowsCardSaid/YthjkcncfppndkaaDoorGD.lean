/- What kinds do in their positions: passes and vents. -/
import Derived.Test.YthjkcncfppndkaaDoorGC
namespace Pt
/-- The passes (at most one) and the vents. -/
def effV (x : Eff) (p : Int) : Option (ByteArray × List ByteArray × Bool) × List ByteArray :=
  match x with
  | .nothing => (none, [])
  | .pass => (some (⟨#[50]⟩, [⟨#[49]⟩], false), [])
  | .either => (some (⟨#[50]⟩, [⟨#[49]⟩, ⟨#[49, 49]⟩], false), [])
  | .both => (some (⟨#[50]⟩, [⟨#[49]⟩, ⟨#[49, 49]⟩], true), [])
  | .changeOver => if p = 1 then (some (⟨#[52]⟩, [⟨#[49]⟩], false), [⟨#[50]⟩]) else (some (⟨#[50]⟩, [⟨#[49]⟩], false), [⟨#[52]⟩])
  | .opn => if p = 1 then (some (⟨#[50]⟩, [⟨#[49]⟩], false), []) else (none, [⟨#[50]⟩])
  | .shut => if p = 1 then (none, [⟨#[50]⟩]) else (some (⟨#[50]⟩, [⟨#[49]⟩], false), [])
end Pt
namespace Go.Proofs.YthjkcncfppndkaaDoor
open Go.RowKit
/-- A slice that reads as a list of texts. -/
def SeeS (w : World) (v : Value) (l : List ByteArray) : Prop := (v = .slice none 0 0 ∧ l = []) ∨
  ∃ g off cap, v = .slice (some ⟨g, off, none⟩) l.length cap ∧ g < w.heap.size ∧ l.length ≤ cap ∧ cap ≤ 9223372036854775807 ∧ ∀ i, i < l.length → w.cell? ⟨g, off + i, none⟩ = some (.string (l.getD i ⟨#[]⟩))
theorem SeeS.step {w w' : World} {v : Value} {l : List ByteArray} (h : SeeS w v l) (hb : Below w.heap.size w w') : SeeS w' v l := by
  rcases h with h | ⟨g, off, cap, h1, h2, h3, h4, h5⟩
  · exact .inl h
  · exact .inr ⟨g, off, cap, h1, Nat.lt_of_lt_of_le h2 hb.size, h3, h4, fun i hi => (hb.cell (p := ⟨g, off + i, none⟩) h2).trans (h5 i hi)⟩
theorem SeeS.nil (w : World) : SeeS w (.slice none 0 0) [] := .inl ⟨rfl, rfl⟩
theorem SeeS.one {w : World} {g : Nat} {s : ByteArray} (hg : g < w.heap.size) (h : w.cell? ⟨g, 0, none⟩ = some (.string s)) : SeeS w (.slice (some ⟨g, 0, none⟩) 1 1) [s] :=
  .inr ⟨g, 0, 1, rfl, hg, Nat.le_refl _, by omega, fun i hi => by
    obtain rfl : i = 0 := by simp at hi; omega
    exact h⟩
theorem SeeS.two {w : World} {g : Nat} {s t : ByteArray} (hg : g < w.heap.size) (h : w.cell? ⟨g, 0, none⟩ = some (.string s)) (h2 : w.cell? ⟨g, 1, none⟩ = some (.string t)) : SeeS w (.slice (some ⟨g, 0, none⟩) 2 2) [s, t] :=
  .inr ⟨g, 0, 2, rfl, hg, Nat.le_refl _, by omega, fun i hi => by
    have h : i = 0 ∨ i = 1 := by simp at hi; omega
    rcases h with rfl | rfl
    · exact h
    · exact h2⟩
/-- A slice that reads as a list of at most one pass. -/
def SeeP (w : World) (v : Value) (o : Option (ByteArray × List ByteArray × Bool)) : Prop :=
  match o with
  | none => v = .slice none 0 0
  | some (t, f, a) => ∃ g u, v = .slice (some ⟨g, 0, none⟩) 1 1 ∧ g < w.heap.size ∧ w.cell? ⟨g, 0, none⟩ = some (.string t) ∧ w.cell? ⟨g, 1, none⟩ = some u ∧ w.cell? ⟨g, 2, none⟩ = some (.bool a) ∧ SeeS w u f
theorem SeeP.step {w w' : World} {v : Value} {o : Option (ByteArray × List ByteArray × Bool)} (h : SeeP w v o) (hb : Below w.heap.size w w') : SeeP w' v o := by
  match o, h with
  | none, h => exact h
  | some (t, f, a), ⟨g, u, h1, h2, h3, h4, h5, h6⟩ =>
    exact ⟨g, u, h1, Nat.lt_of_lt_of_le h2 hb.size, (hb.cell (p := ⟨g, 0, none⟩) h2).trans h3, (hb.cell (p := ⟨g, 1, none⟩) h2).trans h4, (hb.cell (p := ⟨g, 2, none⟩) h2).trans h5, h6.step hb⟩
theorem cell_new {w : World} {cs : Array Value} {T : TypeId} {k i : Nat} {u : Value} (hk : k = w.heap.size) (h : cs[i]? = some u) : (w.alloc (.cells cs T)).cell? ⟨k, i, none⟩ = some u := by
  subst hk
  obtain ⟨hi, rfl⟩ := Array.getElem?_eq_some_iff.1 h
  simp [hi]
theorem cell_old {w : World} {o : Obj} {k i : Nat} (hk : k < w.heap.size) : (w.alloc o).cell? ⟨k, i, none⟩ = w.cell? ⟨k, i, none⟩ :=
  (((Below.refl _ w).alloc (Nat.le_refl _) o).cell (p := ⟨k, i, none⟩) hk)
theorem cell_set2 {w : World} {g k i o1 o2 : Nat} {u v : Value} (hk : k ≠ g) : ((w.setCell ⟨g, o1, none⟩ u).setCell ⟨g, o2, none⟩ v).cell? ⟨k, i, none⟩ = w.cell? ⟨k, i, none⟩ := by
  exact (World.cell?_setCell_other (w := w.setCell ⟨g, o1, none⟩ u) (v := v) (a := ⟨g, o2, none⟩) (b := ⟨k, i, none⟩) (fun e => hk (congrArg Addr.block e).symm)).trans
    (World.cell?_setCell_other (w := w) (v := u) (a := ⟨g, o1, none⟩) (b := ⟨k, i, none⟩) (fun e => hk (congrArg Addr.block e).symm))
/-- What a function of a row returns. -/
def EffP (x : Pt.Eff) (p : Int) (w : World) (e : Ending) (w' : World) : Prop := ∃ ps vs, e = .returned (.agg #[ps, vs]) ∧ SeeP w' ps (Pt.effV x p).1 ∧ SeeS w' vs (Pt.effV x p).2 ∧ Below w.heap.size w w'
set_option maxHeartbeats 4000000 in
set_option maxRecDepth 100000 in
theorem eff_nothing (p : Int) (w : World) : Calls Tryd.prog 58 #[.int .i64 p] w (EffP .nothing p w) := by
  go_enter Tryd.func58, Tryd.ntmps58
  go_wp2
  exact bodyPost_ret (v := .agg #[.slice none 0 0, .slice none 0 0]) (by simp [results, Tryd.results58, go_sem]) rfl ⟨_, _, rfl, rfl, SeeS.nil _, (Below.refl _ _).alloc (Nat.le_refl _) _⟩
set_option maxHeartbeats 4000000 in
set_option maxRecDepth 100000 in
theorem eff_pass (p : Int) (w : World) : Calls Tryd.prog 64 #[.int .i64 p] w (EffP .pass p w) := by
  go_enter Tryd.func64, Tryd.ntmps64
  go_wp2
  refine bodyPost_ret (v := .agg #[.slice (some ⟨w.heap.size + 1 + 1, 0, none⟩) 1 1, .slice none 0 0]) (by simp [results, Tryd.results64, go_sem]) rfl ⟨_, _, rfl, ?_, SeeS.nil _, ((((Below.refl _ _).alloc (Nat.le_refl _) _).alloc (by simp) _).alloc (by simp <;> omega) _)⟩
  show SeeP _ _ (some (⟨#[50]⟩, [⟨#[49]⟩], false))
  exact ⟨w.heap.size + 1 + 1, .slice (some ⟨w.heap.size + 1, 0, none⟩) 1 1, rfl, by simp <;> omega, cell_new (by simp) rfl, cell_new (by simp) rfl, cell_new (by simp) rfl, .one (by simp <;> omega) ((cell_old (by simp <;> omega)).trans <| cell_new (by simp) rfl)⟩
set_option maxHeartbeats 4000000 in
set_option maxRecDepth 100000 in
theorem eff_either (p : Int) (w : World) : Calls Tryd.prog 62 #[.int .i64 p] w (EffP .either p w) := by
  go_enter Tryd.func62, Tryd.ntmps62
  go_wp2
  refine bodyPost_ret (v := .agg #[.slice (some ⟨w.heap.size + 1 + 1, 0, none⟩) 1 1, .slice none 0 0]) (by simp [results, Tryd.results62, go_sem]) rfl ⟨_, _, rfl, ?_, SeeS.nil _, ((((Below.refl _ _).alloc (Nat.le_refl _) _).alloc (by simp) _).alloc (by simp <;> omega) _)⟩
  show SeeP _ _ (some (⟨#[50]⟩, [⟨#[49]⟩, ⟨#[49, 49]⟩], false))
  exact ⟨w.heap.size + 1 + 1, .slice (some ⟨w.heap.size + 1, 0, none⟩) 2 2, rfl, by simp <;> omega, cell_new (by simp) rfl, cell_new (by simp) rfl, cell_new (by simp) rfl, .two (by simp <;> omega) ((cell_old (by simp <;> omega)).trans <| cell_new (by simp) rfl) ((cell_old (by simp <;> omega)).trans <| cell_new (by simp) rfl)⟩
set_option maxHeartbeats 4000000 in
set_option maxRecDepth 100000 in
theorem eff_both (p : Int) (w : World) : Calls Tryd.prog 63 #[.int .i64 p] w (EffP .both p w) := by
  go_enter Tryd.func63, Tryd.ntmps63
  go_wp2
  refine bodyPost_ret (v := .agg #[.slice (some ⟨w.heap.size + 1 + 1, 0, none⟩) 1 1, .slice none 0 0]) (by simp [results, Tryd.results63, go_sem]) rfl ⟨_, _, rfl, ?_, SeeS.nil _, ((((Below.refl _ _).alloc (Nat.le_refl _) _).alloc (by simp) _).alloc (by simp <;> omega) _)⟩
  show SeeP _ _ (some (⟨#[50]⟩, [⟨#[49]⟩, ⟨#[49, 49]⟩], true))
  exact ⟨w.heap.size + 1 + 1, .slice (some ⟨w.heap.size + 1, 0, none⟩) 2 2, rfl, by simp <;> omega, cell_new (by simp) rfl, cell_new (by simp) rfl, cell_new (by simp) rfl, .two (by simp <;> omega) ((cell_old (by simp <;> omega)).trans <| cell_new (by simp) rfl) ((cell_old (by simp <;> omega)).trans <| cell_new (by simp) rfl)⟩
set_option maxHeartbeats 4000000 in
set_option maxRecDepth 100000 in
theorem pass_exact (p : Int) (w : World) : Calls Tryd.prog 64 #[.int .i64 p] w fun e w' => e = .returned (.agg #[.slice (some ⟨w.heap.size + 1 + 1, 0, none⟩) 1 1, .slice none 0 0]) ∧
    w' = ((w.alloc (.cells #[.slice (some ⟨w.heap.size + 1 + 1, 0, none⟩) 1 1, .slice none 0 0] 100)).alloc (.cells #[.string ⟨#[49]⟩] 9)).alloc (.cells #[.string ⟨#[50]⟩, .slice (some ⟨w.heap.size + 1, 0, none⟩) 1 1, .bool false] 75) := by
  go_enter Tryd.func64, Tryd.ntmps64
  go_wp2
  exact bodyPost_ret (v := .agg #[.slice (some ⟨w.heap.size + 1 + 1, 0, none⟩) 1 1, .slice none 0 0]) (by simp [results, Tryd.results64, go_sem]) rfl ⟨rfl, rfl⟩
set_option maxHeartbeats 4000000 in
set_option maxRecDepth 100000 in
theorem eff_changeOver (p : Int) (w : World) : Calls Tryd.prog 59 #[.int .i64 p] w (EffP .changeOver p w) := by
  by_cases hp : p = 1
  · go_enter Tryd.func59, Tryd.ntmps59
    go_wp2
    refine bodyPost_ret (v := .agg #[.slice (some ⟨w.heap.size + 1 + 1, 0, none⟩) 1 1, .slice (some ⟨w.heap.size + 1 + 1 + 1, 0, none⟩) 1 1]) (by simp [results, Tryd.results59, go_sem]) rfl ⟨_, _, rfl, ?_, ?_, (((((Below.refl _ _).alloc (Nat.le_refl _) _).alloc (by simp) _).alloc (by simp <;> omega) _).alloc (by simp <;> omega) _)⟩
    · rw [show (Pt.effV .changeOver p).1 = _ from congrArg Prod.fst (if_pos hp)]
      show SeeP _ _ (some (⟨#[52]⟩, [⟨#[49]⟩], false))
      exact ⟨w.heap.size + 1 + 1, .slice (some ⟨w.heap.size + 1, 0, none⟩) 1 1, rfl, by simp <;> omega, (cell_old (by simp <;> omega)).trans <| cell_new (by simp) rfl, (cell_old (by simp <;> omega)).trans <| cell_new (by simp) rfl, (cell_old (by simp <;> omega)).trans <| cell_new (by simp) rfl, .one (by simp <;> omega) ((cell_old (by simp <;> omega)).trans <| (cell_old (by simp <;> omega)).trans <| cell_new (by simp) rfl)⟩
    · rw [show (Pt.effV .changeOver p).2 = _ from congrArg Prod.snd (if_pos hp)]
      exact .one (by simp <;> omega) (cell_new (by simp) rfl)
  · go_enter Tryd.func59, Tryd.ntmps59
    go_wp2
    refine bodyPost_ret (v := .agg #[.slice (some ⟨w.heap.size + 1 + 1, 0, none⟩) 1 1, .slice (some ⟨w.heap.size + 1 + 1 + 1, 0, none⟩) 1 1]) (by simp [results, Tryd.results59, go_sem]) rfl ⟨_, _, rfl, ?_, ?_, (((((Below.refl _ _).alloc (Nat.le_refl _) _).alloc (by simp) _).alloc (by simp <;> omega) _).alloc (by simp <;> omega) _)⟩
    · rw [show (Pt.effV .changeOver p).1 = _ from congrArg Prod.fst (if_neg hp)]
      show SeeP _ _ (some (⟨#[50]⟩, [⟨#[49]⟩], false))
      exact ⟨w.heap.size + 1 + 1, .slice (some ⟨w.heap.size + 1, 0, none⟩) 1 1, rfl, by simp <;> omega, (cell_old (by simp <;> omega)).trans <| cell_new (by simp) rfl, (cell_old (by simp <;> omega)).trans <| cell_new (by simp) rfl, (cell_old (by simp <;> omega)).trans <| cell_new (by simp) rfl, .one (by simp <;> omega) ((cell_old (by simp <;> omega)).trans <| (cell_old (by simp <;> omega)).trans <| cell_new (by simp) rfl)⟩
    · rw [show (Pt.effV .changeOver p).2 = _ from congrArg Prod.snd (if_neg hp)]
      exact .one (by simp <;> omega) (cell_new (by simp) rfl)
set_option maxHeartbeats 4000000 in
set_option maxRecDepth 100000 in
theorem eff_opn (p : Int) (w : World) : Calls Tryd.prog 60 #[.int .i64 p] w (EffP .opn p w) := by
  by_cases hp : p = 1
  · subst hp
    go_enter Tryd.func60, Tryd.ntmps60
    go_wp2_with fail
    refine (pass_exact _ _).mono ?_
    rintro e w1 ⟨rfl, hw1⟩
    obtain ⟨w0, hw0⟩ : ∃ w0, w0 = w.alloc (.cells #[.slice none 0 0, .slice none 0 0] 100) := ⟨_, rfl⟩
    rw [← hw0] at hw1 ⊢
    have hs : w0.heap.size = w.heap.size + 1 := by rw [hw0]; simp
    have hL : Below w.heap.size w w0 := by rw [hw0]; exact (Below.refl _ _).alloc (Nat.le_refl _) _
    have hb1 : Below w0.heap.size w0 w1 := by rw [hw1]; exact ((((Below.refl _ _).alloc (Nat.le_refl _) _).alloc (by simp) _).alloc (by simp <;> omega) _)
    have c0 := (hb1.cell (p := ⟨w.heap.size, 0, none⟩) (by rw [hs]; exact Nat.lt_succ_self _)).trans (show _ = some (.slice none 0 0) by rw [hw0]; simp)
    have c1 := (hb1.cell (p := ⟨w.heap.size, 1, none⟩) (by rw [hs]; exact Nat.lt_succ_self _)).trans (show _ = some (.slice none 0 0) by rw [hw0]; simp)
    have f0 := (hb1.frozen (p := ⟨w.heap.size, 0, none⟩) (by rw [hs]; exact Nat.lt_succ_self _)).trans (show _ = false by rw [hw0]; simp)
    have f1 := (hb1.frozen (p := ⟨w.heap.size, 1, none⟩) (by rw [hs]; exact Nat.lt_succ_self _)).trans (show _ = false by rw [hw0]; simp)
    have t0 : w1.cell? ⟨w0.heap.size + 1 + 1, 0, none⟩ = some (.string ⟨#[50]⟩) := by rw [hw1]; exact cell_new (by simp) rfl
    have t1 : w1.cell? ⟨w0.heap.size + 1 + 1, 1, none⟩ = some (.slice (some ⟨w0.heap.size + 1, 0, none⟩) 1 1) := by rw [hw1]; exact cell_new (by simp) rfl
    have t2 : w1.cell? ⟨w0.heap.size + 1 + 1, 2, none⟩ = some (.bool false) := by rw [hw1]; exact cell_new (by simp) rfl
    have k0 : w1.cell? ⟨w0.heap.size + 1, 0, none⟩ = some (.string ⟨#[49]⟩) := by rw [hw1]; exact (cell_old (by simp <;> omega)).trans <| cell_new (by simp) rfl
    rw [hs] at t0 t1 t2 k0
    have hz1 : w1.heap.size = w.heap.size + 4 := by rw [hw1]; simp [hs]
    have HB := Lib.hid (hL.trans (hb1.mono (by omega)))
    have T0 := Lib.hid t0
    have T1 := Lib.hid t1
    have T2 := Lib.hid t2
    have K0 := Lib.hid k0
    have HZ := Lib.hid hz1
    clear hw1 hw0 hb1 hL t0 t1 t2 k0 hz1
    go_wp2
    refine bodyPost_ret (v := .agg #[.slice (some ⟨w.heap.size + 1 + 1 + 1, 0, none⟩) 1 1, .slice none 0 0]) (by simp [results, Tryd.results60, go_sem, c0, c1]) rfl ⟨_, _, rfl, ?_, ?_, (HB.out.setCell (Nat.le_refl _) _).setCell (Nat.le_refl _) _⟩
    · show SeeP _ _ (some (⟨#[50]⟩, [⟨#[49]⟩], false))
      have hz1 := HZ.out
      exact ⟨w.heap.size + 1 + 1 + 1, .slice (some ⟨w.heap.size + 1 + 1, 0, none⟩) 1 1, rfl, by simp [World.setCell, hz1], (cell_set2 (by omega)).trans T0.out, (cell_set2 (by omega)).trans T1.out, (cell_set2 (by omega)).trans T2.out, .one (by simp [World.setCell, hz1]) ((cell_set2 (by omega)).trans K0.out)⟩
    · show SeeS _ _ []
      exact SeeS.nil _
  · go_enter Tryd.func60, Tryd.ntmps60
    go_wp2
    refine bodyPost_ret (v := .agg #[.slice none 0 0, .slice (some ⟨w.heap.size + 1, 0, none⟩) 1 1]) (by simp [results, Tryd.results60, go_sem]) rfl ⟨_, _, rfl, ?_, ?_, (((Below.refl _ _).alloc (Nat.le_refl _) _).alloc (by simp) _)⟩
    · rw [show (Pt.effV .opn p).1 = _ from congrArg Prod.fst (if_neg hp)]
      rfl
    · rw [show (Pt.effV .opn p).2 = _ from congrArg Prod.snd (if_neg hp)]
      exact .one (by simp <;> omega) (cell_new (by simp) rfl)
set_option maxHeartbeats 4000000 in
set_option maxRecDepth 100000 in
theorem eff_shut (p : Int) (w : World) : Calls Tryd.prog 61 #[.int .i64 p] w (EffP .shut p w) := by
  by_cases hp : p = 1
  · go_enter Tryd.func61, Tryd.ntmps61
    go_wp2
    refine bodyPost_ret (v := .agg #[.slice none 0 0, .slice (some ⟨w.heap.size + 1, 0, none⟩) 1 1]) (by simp [results, Tryd.results61, go_sem]) rfl ⟨_, _, rfl, ?_, ?_, (((Below.refl _ _).alloc (Nat.le_refl _) _).alloc (by simp) _)⟩
    · rw [show (Pt.effV .shut p).1 = _ from congrArg Prod.fst (if_pos hp)]
      rfl
    · rw [show (Pt.effV .shut p).2 = _ from congrArg Prod.snd (if_pos hp)]
      exact .one (by simp <;> omega) (cell_new (by simp) rfl)
  · go_enter Tryd.func61, Tryd.ntmps61
    go_wp2_with fail
    refine (pass_exact _ _).mono ?_
    rintro e w1 ⟨rfl, hw1⟩
    obtain ⟨w0, hw0⟩ : ∃ w0, w0 = w.alloc (.cells #[.slice none 0 0, .slice none 0 0] 100) := ⟨_, rfl⟩
    rw [← hw0] at hw1 ⊢
    have hs : w0.heap.size = w.heap.size + 1 := by rw [hw0]; simp
    have hL : Below w.heap.size w w0 := by rw [hw0]; exact (Below.refl _ _).alloc (Nat.le_refl _) _
    have hb1 : Below w0.heap.size w0 w1 := by rw [hw1]; exact ((((Below.refl _ _).alloc (Nat.le_refl _) _).alloc (by simp) _).alloc (by simp <;> omega) _)
    have c0 := (hb1.cell (p := ⟨w.heap.size, 0, none⟩) (by rw [hs]; exact Nat.lt_succ_self _)).trans (show _ = some (.slice none 0 0) by rw [hw0]; simp)
    have c1 := (hb1.cell (p := ⟨w.heap.size, 1, none⟩) (by rw [hs]; exact Nat.lt_succ_self _)).trans (show _ = some (.slice none 0 0) by rw [hw0]; simp)
    have f0 := (hb1.frozen (p := ⟨w.heap.size, 0, none⟩) (by rw [hs]; exact Nat.lt_succ_self _)).trans (show _ = false by rw [hw0]; simp)
    have f1 := (hb1.frozen (p := ⟨w.heap.size, 1, none⟩) (by rw [hs]; exact Nat.lt_succ_self _)).trans (show _ = false by rw [hw0]; simp)
    have t0 : w1.cell? ⟨w0.heap.size + 1 + 1, 0, none⟩ = some (.string ⟨#[50]⟩) := by rw [hw1]; exact cell_new (by simp) rfl
    have t1 : w1.cell? ⟨w0.heap.size + 1 + 1, 1, none⟩ = some (.slice (some ⟨w0.heap.size + 1, 0, none⟩) 1 1) := by rw [hw1]; exact cell_new (by simp) rfl
    have t2 : w1.cell? ⟨w0.heap.size + 1 + 1, 2, none⟩ = some (.bool false) := by rw [hw1]; exact cell_new (by simp) rfl
    have k0 : w1.cell? ⟨w0.heap.size + 1, 0, none⟩ = some (.string ⟨#[49]⟩) := by rw [hw1]; exact (cell_old (by simp <;> omega)).trans <| cell_new (by simp) rfl
    rw [hs] at t0 t1 t2 k0
    have hz1 : w1.heap.size = w.heap.size + 4 := by rw [hw1]; simp [hs]
    have HB := Lib.hid (hL.trans (hb1.mono (by omega)))
    have T0 := Lib.hid t0
    have T1 := Lib.hid t1
    have T2 := Lib.hid t2
    have K0 := Lib.hid k0
    have HZ := Lib.hid hz1
    clear hw1 hw0 hb1 hL t0 t1 t2 k0 hz1
    go_wp2
    refine bodyPost_ret (v := .agg #[.slice (some ⟨w.heap.size + 1 + 1 + 1, 0, none⟩) 1 1, .slice none 0 0]) (by simp [results, Tryd.results61, go_sem, c0, c1]) rfl ⟨_, _, rfl, ?_, ?_, (HB.out.setCell (Nat.le_refl _) _).setCell (Nat.le_refl _) _⟩
    · rw [show (Pt.effV .shut p).1 = _ from congrArg Prod.fst (if_neg hp)]
      have hz1 := HZ.out
      exact ⟨w.heap.size + 1 + 1 + 1, .slice (some ⟨w.heap.size + 1 + 1, 0, none⟩) 1 1, rfl, by simp [World.setCell, hz1], (cell_set2 (by omega)).trans T0.out, (cell_set2 (by omega)).trans T1.out, (cell_set2 (by omega)).trans T2.out, .one (by simp [World.setCell, hz1]) ((cell_set2 (by omega)).trans K0.out)⟩
    · rw [show (Pt.effV .shut p).2 = _ from congrArg Prod.snd (if_neg hp)]
      exact SeeS.nil _
end Go.Proofs.YthjkcncfppndkaaDoor
