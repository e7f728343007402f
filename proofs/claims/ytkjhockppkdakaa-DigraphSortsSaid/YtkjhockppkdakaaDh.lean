/- slices.Repeat of one integer. -/
import Derived.Test.YtkjhockppkdakaaDg
import Derived.Lib.SlBuf
import Derived.StillTailTactics
namespace Go.Proofs.Ytkjhockppkdakaa
open Go.RowKit Go.Shelf

/-- A row of N integers of its own at the block h, whose first m are -1. -/
structure Zs (W : World) (h N m : Nat) : Prop where
  there : ∀ j, j < N → (W.cell? ⟨h, j, none⟩).isSome = true
  free : ∀ j, j < N → W.frozen? ⟨h, j, none⟩ = false
  holds : ∀ j, j < m → W.cell? ⟨h, j, none⟩ = some (.int .i64 (-1))
  fits : m ≤ N
theorem Zs.drewN {W : World} {h N m : Nat} (H : Zs W h N m) (q : Nat) : Zs (W.drewN q) h N m :=
  ⟨fun j hj => by rw [World.cell?_drewN]; exact H.there j hj, fun j hj => by rw [World.frozen?_drewN]; exact H.free j hj, fun j hj => by rw [World.cell?_drewN]; exact H.holds j hj, H.fits⟩
theorem zs_start (w : World) (n : Nat) (e : TypeId) : Zs (w.alloc (.cells (madeCells #[.int .i64 0] n) e)) w.heap.size n 0 :=
  ⟨fun j hj => by simp [madeCells, hj], fun j hj => by simp, fun j hj => by omega, Nat.zero_le _⟩
/-- 'copy' of c integers behind m ones. -/
theorem zs_copy {W : World} {h N m : Nat} (H : Zs W h N m) (t ty e : TypeId) (hu : Try.prog.underlying t = some (.slice e)) (hs : (Try.prog.info? e).map (·.size) = some 1) (a : Addr) (c cap : Nat)
    (ha : ∀ j, j < c → W.cell? (a.add j) = some (.int .i64 (-1))) :
    ∃ W', (Builtin.copy_ #[t, t] ty #[.slice (some ⟨h, m, none⟩) (N - m) (N - m), .slice (some a) c cap]).run Try.prog W = .ok (.int .i64 ((Nat.min c (N - m) : Nat) : Int)) W' ∧ Zs W' h N (m + Nat.min c (N - m)) ∧ ∀ B, B ≤ h → ∀ W0, Below B W0 W → Below B W0 W' := by
  have hle : Nat.min c (N - m) ≤ c := Nat.min_le_left _ _
  have hle2 : Nat.min c (N - m) ≤ N - m := Nat.min_le_right _ _
  have hf := H.fits
  have hr := run_copy_cells (P := Try.prog) W t t ty e h m (N - m) (N - m) a c cap (List.replicate (Nat.min c (N - m)) (.int .i64 (-1))) hu hs (by rw [List.length_replicate])
    (fun j v hj => by
      have hj' := List.getElem?_eq_some_iff.1 hj
      obtain ⟨h1, h2⟩ := hj'
      rw [List.length_replicate] at h1
      rw [List.getElem_replicate] at h2
      subst h2
      exact ha j (by omega))
    (fun j hj => by rw [List.length_replicate] at hj; exact H.there _ (by omega)) (fun j hj => by rw [List.length_replicate] at hj; exact H.free _ (by omega))
    (fun u hu' => by rw [List.eq_of_mem_replicate hu']; rfl)
  rw [List.length_replicate] at hr
  have hin := World.cell?_setCells_in h (List.replicate (Nat.min c (N - m)) (Value.int .i64 (-1))) m W (fun j hj => by rw [List.length_replicate] at hj; exact H.there _ (by omega))
  have hout := World.cell?_setCells_out h (List.replicate (Nat.min c (N - m)) (Value.int .i64 (-1))) m W
  refine ⟨_, hr, ⟨?_, ?_, ?_, by omega⟩, fun B hB W0 hW => Lib.below_setCells h hB _ _ hW⟩
  · intro j hj
    by_cases h1 : m ≤ j ∧ j < m + Nat.min c (N - m)
    · obtain ⟨d, rfl⟩ : ∃ d, j = m + d := ⟨j - m, by omega⟩
      rw [hin d (by rw [List.length_replicate]; omega)]
      rfl
    · rw [hout ⟨h, j, none⟩ (fun _ _ => by rw [List.length_replicate]; show j < _ ∨ _ ≤ j; omega)]
      exact H.there j hj
  · intro j hj
    rw [World.frozen?_setCells]
    exact H.free j hj
  · intro j hj
    by_cases h1 : j < m
    · rw [hout ⟨h, j, none⟩ (fun _ _ => Or.inl h1)]
      exact H.holds j h1
    · obtain ⟨d, rfl⟩ : ∃ d, j = m + d := ⟨j - m, by omega⟩
      rw [hin d (by rw [List.length_replicate]; omega), List.getElem_replicate]

set_option maxRecDepth 100000 in
theorem sRepeat_any (g n : Nat) (w : World) (h0 : 1 ≤ n) (h1 : n ≤ 256) (hg : g < w.heap.size) (hc : w.cell? ⟨g, 0, none⟩ = some (.int .i64 (-1))) :
    Calls Try.prog 66 #[.slice (some ⟨g, 0, none⟩) 1 1, .int .i64 n] w fun e w' => e = .returned (.slice (some ⟨w.heap.size, 0, none⟩) n n) ∧ Zs w' w.heap.size n n ∧ Below w.heap.size w w' := by
  have CM := fun W => Lib.hid (Try.bits_Mul 1 n (by omega) (by omega) W)
  rw [Nat.one_mul, Nat.div_eq_of_lt (by omega), Nat.mod_eq_of_lt (by omega)] at CM
  have hmk := run_make_row' (P := Try.prog) 27 3 (.int .i64 0) 8 Try.underlying27 (by kernel_rfl) rfl .i64 .i64 n (by omega) (by omega)
  have Z0 := zs_start w n 3
  have L0 : Below w.heap.size w (w.alloc (.cells (madeCells #[.int .i64 0] n) 3)) := (Below.refl _ _).alloc (Nat.le_refl _) _
  have hg0 := (L0.cell (p := ⟨g, 0, none⟩) hg).trans hc
  have hs5 : (Try.prog.info? 3).map (·.size) = some 1 := by kernel_rfl
  have hone : ∀ j, j < 1 → (w.alloc (.cells (madeCells #[.int .i64 0] n) 3)).cell? ((⟨g, 0, none⟩ : Addr).add j) = some (.int .i64 (-1)) := by
    intro j hj
    obtain rfl : j = 0 := by omega
    exact hg0
  obtain ⟨W1, hr1, Z1, B1⟩ := zs_copy Z0 27 3 3 Try.underlying27 hs5 ⟨g, 0, none⟩ 1 1 hone
  have em : Nat.min 1 (n - 0) = 1 := Nat.min_eq_left (by omega)
  rw [em, Nat.sub_zero] at hr1
  rw [em, Nat.zero_add] at Z1
  have BB := B1 w.heap.size (Nat.le_refl _) w L0
  have HZ : Hid (Zs W1 w.heap.size n 1 ∧ Below w.heap.size w W1) := Lib.hid ⟨Z1, BB⟩
  clear Z0 L0 hg0 hone Z1 BB B1 hc
  go_enter Try.func66, Try.ntmps66
  go_wp2_with (first
    | (go_at_call 75; refine ((CM _).out).mono ?_; rintro e w1 ⟨rfl, hw1⟩; rw [hw1])
    | (at_builtin; refine Lib.wpList_copy_run _ rfl _ _ 27 27 rfl _ _ rfl rfl hr1 ?_))
  go_loopw [8] (fun s8 wr => ∃ m : Nat, 1 ≤ m ∧ m ≤ n ∧ s8 = .int .i64 m ∧ Hid (Zs wr w.heap.size n m ∧ Below w.heap.size w wr)) (fun s8 _ => n - (RowKit.intOf s8).toNat)
  case atStart => exact ⟨1, Nat.le_refl _, h0, rfl, HZ⟩
  case round =>
    obtain ⟨m, hm1, hmn, rfl, HW⟩ := hrel
    by_cases hlt : m < n
    · have hsl : ∀ W, (Instr.slice 27 (.slice (some ⟨w.heap.size, 0, none⟩) n n) (some (.int .i64 (m : Int))) none none).run Try.prog W = .ok (.slice (some ⟨w.heap.size, m, none⟩) (n - m) (n - m)) W := fun W => by
        have := Lib.run_slice_tailV (P := Try.prog) W 27 3 Try.underlying27 Try.sizeOf3 w.heap.size n m hmn
        rw [this]
        unfold Lib.tailV
        rw [if_neg (by omega)]
      obtain ⟨W2, hr2, Z2, B2⟩ := zs_copy (HW.out.1.drewN 1) 27 3 3 Try.underlying27 hs5 ⟨w.heap.size, 0, none⟩ m n (fun j hj => by
        have := HW.out.1.holds j hj
        by_cases hj0 : j = 0
        · subst hj0; simpa [Addr.add] using this
        · simpa [Addr.add, hj0] using this)
      have BB := B2 w.heap.size (Nat.le_refl _) w HW.out.2.drew
      have HZ2 : Hid (Zs W2 w.heap.size n (m + Nat.min m (n - m)) ∧ Below w.heap.size w W2) := Lib.hid ⟨Z2, BB⟩
      have hpos : 1 ≤ Nat.min m (n - m) := by have : 1 ≤ n - m := by omega
                                              exact Nat.le_min.2 ⟨hm1, this⟩
      have hle2 : Nat.min m (n - m) ≤ n - m := Nat.min_le_right _ _
      clear Z2 BB B2
      generalize Nat.min m (n - m) = d at *
      change Sem.run _ _ wr.drew = _ at hr2
      have hr3 := hr2
      have hmi : (m : Int) < (n : Int) := by omega
      go_wp2
      have hsum : IntKind.i64.wrap ((m : Int) + (d : Int)) = ((m + d : Nat) : Int) := by (first | (rw [IntKind.wrap_i64]; unfold wrap64; omega) | (simp [IntKind.wrap, IntKind.signed, IntKind.bits]; omega) | go_num)
      go_region_held3 (fun W => True) (first | trivial) (first | (rw [hr3]; simp only [Result.andThen, Oper.upon_value]))
      go_wp2
      go_roundw
      case rel => exact ⟨m + d, by omega, by omega, by first | rw [hsum] | (rw [Int.natCast_add]), HZ2⟩
      case measure => first | omega | (rw [hsum]; simp only [RowKit.intOf]; omega) | (simp only [RowKit.intOf]; omega)
    · obtain rfl : m = n := by omega
      have hmi : ¬ (m : Int) < (m : Int) := by omega
      go_wp2
      go_ret
      exact ⟨rfl, HW.out.1, HW.out.2⟩
end Go.Proofs.Ytkjhockppkdakaa
