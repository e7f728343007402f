/- The contracts of checkAll, limit, the functions of ends, of package timespan; of both, Plus, limited, Of of the reference. -/
import Derived.Test.YtgblodnggeabjabDoorTa
import Derived.Deep.LoopGhost
namespace Tm
/-- The first error of a list of spans. -/
def firstE : List (Int × Int) → Int
  | [] => 0
  | a :: r => if chk a.1 a.2 = 0 then firstE r else chk a.1 a.2
def chk2 (l h m k : Int) : Int := if chk l h = 0 then chk m k else chk l h
theorem firstE_two (l h m k : Int) : firstE [(l, h), (m, k)] = chk2 l h m k := by
  unfold chk2 firstE firstE firstE
  split
  · split
    · rename_i h1; exact h1.symm
    · rfl
  · rfl
theorem firstE_drop {xs : List (Int × Int)} {j : Nat} (hj : j < xs.length) : firstE (xs.drop j) = if chk (xs.getD j (0, 0)).1 (xs.getD j (0, 0)).2 = 0 then firstE (xs.drop (j + 1)) else chk (xs.getD j (0, 0)).1 (xs.getD j (0, 0)).2 := by
  rw [List.drop_eq_getElem_cons hj]
  have e : xs.getD j (0, 0) = xs[j] := by simp [hj]
  rw [e]
  rfl
end Tm
namespace Go.Proofs.YtgblodnggeabjabDoor
open Go.RowKit

/-- A list of spans in memory. -/
def SpansAt (W : World) (ao : Option Addr) (xs : List (Int × Int)) : Prop :=
  0 < xs.length → ∃ b off, ao = some ⟨b, off, none⟩ ∧ b < W.heap.size ∧ ∀ i, i < xs.length → W.cell? ⟨b, off + i * 2, none⟩ = some (.int .i64 (xs.getD i (0, 0)).1) ∧ W.cell? ⟨b, off + i * 2 + 1, none⟩ = some (.int .i64 (xs.getD i (0, 0)).2)
theorem SpansAt.below {W W' : World} {ao : Option Addr} {xs : List (Int × Int)} (h : SpansAt W ao xs) {B : Nat} (hb : Below B W W') (hB : W.heap.size ≤ B) : SpansAt W' ao xs := fun hp => by
  obtain ⟨b, off, rfl, h1, h2⟩ := h hp
  refine ⟨b, off, rfl, Nat.lt_of_lt_of_le h1 hb.size, fun i hi => ?_⟩
  rw [hb.cell (p := ⟨b, off + i * 2, none⟩) (Nat.lt_of_lt_of_le h1 hB), hb.cell (p := ⟨b, off + i * 2 + 1, none⟩) (Nat.lt_of_lt_of_le h1 hB)]
  exact h2 i hi

theorem below_box {B : Nat} {w w1 : World} {o : Obj} (hB : B ≤ w.heap.size) (h : Below (w.alloc o).heap.size (w.alloc o) w1) : Below B w w1 :=
  ((Below.refl B w).alloc hB _).trans (h.mono (by simp; omega))

set_option maxRecDepth 100000 in
theorem tCheckAll_any (xs : List (Int × Int)) (ao : Option Addr) (cap : Nat) (w : World) (hv : SpansAt w ao xs) (hn : xs.length ≤ 9223372036854775807) :
    Calls Tryd.prog 52 #[.slice ao xs.length cap] w fun e w' => e = .returned (.int .i64 (Tm.firstE xs)) ∧ Below w.heap.size w w' := by
  have HV := Lib.hid hv
  clear hv
  obtain ⟨n, en⟩ : ∃ n, xs.length = n := ⟨_, rfl⟩
  have HN := Lib.hid en
  rw [en] at hn ⊢
  clear en
  by_cases hp : 0 < n
  · obtain ⟨b, off, rfl, hbs, hcell⟩ := HV.out (by rw [HN.out]; exact hp)
    rw [HN.out] at hcell
    have hE := Lib.hid (show Tm.firstE xs = Tm.firstE (xs.drop 0) from by rw [List.drop_zero])
    have HC := fun (W : World) (hW : Below w.heap.size w W) (j : Nat) (hj : j < n) => Lib.hid (show W.cell? ⟨b, off + j * 2, none⟩ = some (.int .i64 (xs.getD j (0, 0)).1) ∧ W.cell? ⟨b, off + j * 2 + 1, none⟩ = some (.int .i64 (xs.getD j (0, 0)).2) from by
      rw [hW.cell (p := ⟨b, off + j * 2, none⟩) hbs, hW.cell (p := ⟨b, off + j * 2 + 1, none⟩) hbs]; exact hcell j hj)
    clear hcell
    go_enter Tryd.func52, Tryd.ntmps52
    go_wp2
    go_loopw [8] (fun u8 wr => ∃ j : Nat, j ≤ n ∧ u8 = .int .i64 j ∧ Below w.heap.size w wr ∧ Tm.firstE xs = Tm.firstE (xs.drop j)) (fun u8 _ => n - (intOf u8).toNat)
    case atStart => exact ⟨0, by omega, rfl, Below.refl _ _, hE.out⟩
    case round =>
      obtain ⟨j, hj, rfl, hbel, hf⟩ := hrel
      have HF := Lib.hid hf
      clear hf
      by_cases hlt : j < n
      · obtain ⟨g0, g1⟩ := (HC _ hbel j hlt).out
        have hd := Tm.firstE_drop (xs := xs) (j := j) (by rw [HN.out]; exact hlt)
        have HD := Lib.hid hd
        clear hd
        generalize (xs.getD j (0, 0)).1 = x at *
        generalize (xs.getD j (0, 0)).2 = y at *
        go_wp2_with (go_at_call 13; refine (tCheck_any _ _ _).mono ?_; rintro e w1 ⟨rfl, hb1⟩; have HB1 := Lib.hid hb1; clear hb1)
        · rename_i hne
          go_ret
          have hc : ¬ Tm.chk x y = 0 := by simpa using hne
          refine ⟨ret_int ?_, hbel.trans ((below_box (Nat.le_refl _) HB1.out).mono hbel.size)⟩
          rw [HF.out, HD.out, if_neg hc]
        · rename_i hne
          have hc : Tm.chk x y = 0 := by simpa using hne
          exact ⟨⟨j + 1, by omega, by go_num, hbel.trans ((below_box (Nat.le_refl _) HB1.out).mono hbel.size), by rw [HF.out, HD.out, if_pos hc]⟩, by simp [intOf]; omega⟩
      · go_wp2
        go_ret
        have hj2 : j = n := by omega
        refine ⟨ret_int ?_, hbel⟩
        rw [HF.out, hj2, ← HN.out, List.drop_length]
        rfl
  · have h0 : xs = [] := List.eq_nil_of_length_eq_zero (by rw [HN.out]; omega)
    have hn0 : n = 0 := by omega
    subst h0 hn0
    go_enter Tryd.func52, Tryd.ntmps52
    go_wp2
    go_loopw [8] (fun u8 wr => u8 = .int .i64 0 ∧ wr = w) (fun _ _ => 1)
    case atStart => exact ⟨rfl, rfl⟩
    case round =>
      obtain ⟨rfl, rfl⟩ := hrel
      go_wp2
      go_ret
      exact ⟨rfl, Below.refl _ _⟩

end Go.Proofs.YtgblodnggeabjabDoor
