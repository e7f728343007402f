/- Pilots and Next of the reference, for all kinds and positions. -/
import Derived.Test.YthjkcncfppndkaaDoorGS
namespace Pt
def pilV (k : Int) : ByteArray × ByteArray × Int := if 0 ≤ k ∧ k < 14 then ((cat k.toNat).plus, (cat k.toNat).minus, 0) else (⟨#[]⟩, ⟨#[]⟩, 1)
def nxtV (k p : Int) (x y : Bool) : Int × Bool × Int := if inE k p = 0 then ((nextV (cat k.toNat) p x y).1, (nextV (cat k.toNat) p x y).2, 0) else (0, false, inE k p)
theorem inE_zero {k p : Int} (h : inE k p = 0) : ∃ c : Nat, k = c ∧ c < 14 ∧ 0 ≤ p ∧ p < (cat c).pos := by
  unfold inE at h
  by_cases h0 : k < 0 ∨ 14 ≤ k
  · rw [if_pos h0] at h; omega
  · rw [if_neg h0] at h
    obtain ⟨c, rfl⟩ := Int.eq_ofNat_of_zero_le (show 0 ≤ k by omega)
    rw [Int.toNat_natCast] at h
    by_cases h1 : p < 0 ∨ (cat c).pos ≤ p
    · rw [if_pos h1] at h; omega
    · exact ⟨c, rfl, by omega, by omega, by omega⟩
theorem inE_cases (k p : Int) : inE k p = 0 ∨ inE k p = 1 ∨ inE k p = 2 := by unfold inE; split <;> (try split) <;> simp
end Pt
namespace Go.Proofs.YthjkcncfppndkaaDoor
open Go.RowKit
set_option maxHeartbeats 4000000 in
set_option maxRecDepth 100000 in
theorem rMoved_any (k : Nat) (p : Int) (x y : Bool) (hk : k < 14) (w : World) : Calls Tryd.prog 55 #[.int .i64 (k : Int), .int .i64 p, .bool x, .bool y] w fun e w' => e = .returned (.tuple #[.int .i64 (Pt.nextV (Pt.cat k) p x y).1, .bool (Pt.nextV (Pt.cat k) p x y).2]) ∧ w' = w := by
  have CP := fun W => Lib.hid (rPiloted_any k hk W)
  clear hk
  generalize Pt.cat k = r at *
  obtain ⟨r0, r1, r2, r3, r4, r5, r6, r7, r8, r9, r10⟩ := r
  simp only [Pt.nextV] at CP ⊢
  by_cases e8 : r8 = ⟨#[]⟩
  · subst e8
    go_enter Tryd.func55, Tryd.ntmps55
    go_wp2_with fail
    refine (CP w).out.mono ?_
    rintro e w1 ⟨rfl, rfl⟩
    go_wp2
    exact bodyPost_ret (v := .tuple #[.int .i64 p, .bool false]) (by simp [results, Tryd.results55, go_sem]) rfl ⟨by simp, rfl⟩
  · have t8 := no_txt e8
    have u8 := no_txt2 e8
    by_cases e9 : r9 = ⟨#[]⟩
    · subst e9
      cases x
      · go_enter Tryd.func55, Tryd.ntmps55
        go_wp2_with fail
        refine (CP w).out.mono ?_
        rintro e w1 ⟨rfl, rfl⟩
        go_wp2
        exact bodyPost_ret (v := .tuple #[.int .i64 0, .bool false]) (by simp [results, Tryd.results55, go_sem]) rfl ⟨by first | simp | simp [e8] | simp [e8] | simp [e9], rfl⟩
      · go_enter Tryd.func55, Tryd.ntmps55
        go_wp2_with fail
        refine (CP w).out.mono ?_
        rintro e w1 ⟨rfl, rfl⟩
        go_wp2
        exact bodyPost_ret (v := .tuple #[.int .i64 1, .bool false]) (by simp [results, Tryd.results55, go_sem]) rfl ⟨by first | simp | simp [e8] | simp [e8] | simp [e9], rfl⟩
    · have t9 := no_txt e9
      have u9 := no_txt2 e9
      cases x <;> cases y
      · go_enter Tryd.func55, Tryd.ntmps55
        go_wp2_with fail
        refine (CP w).out.mono ?_
        rintro e w1 ⟨rfl, rfl⟩
        go_wp2
        exact bodyPost_ret (v := .tuple #[.int .i64 p, .bool false]) (by simp [results, Tryd.results55, go_sem]) rfl ⟨by first | simp | simp [e8, e9] | simp [e8] | simp [e9], rfl⟩
      · go_enter Tryd.func55, Tryd.ntmps55
        go_wp2_with fail
        refine (CP w).out.mono ?_
        rintro e w1 ⟨rfl, rfl⟩
        go_wp2
        exact bodyPost_ret (v := .tuple #[.int .i64 0, .bool false]) (by simp [results, Tryd.results55, go_sem]) rfl ⟨by first | simp | simp [e8, e9] | simp [e8] | simp [e9], rfl⟩
      · go_enter Tryd.func55, Tryd.ntmps55
        go_wp2_with fail
        refine (CP w).out.mono ?_
        rintro e w1 ⟨rfl, rfl⟩
        go_wp2
        exact bodyPost_ret (v := .tuple #[.int .i64 1, .bool false]) (by simp [results, Tryd.results55, go_sem]) rfl ⟨by first | simp | simp [e8, e9] | simp [e8] | simp [e9], rfl⟩
      · go_enter Tryd.func55, Tryd.ntmps55
        go_wp2_with fail
        refine (CP w).out.mono ?_
        rintro e w1 ⟨rfl, rfl⟩
        go_wp2
        exact bodyPost_ret (v := .tuple #[.int .i64 p, .bool true]) (by simp [results, Tryd.results55, go_sem]) rfl ⟨by first | simp | simp [e8, e9] | simp [e8] | simp [e9], rfl⟩
set_option maxHeartbeats 4000000 in
set_option maxRecDepth 100000 in
theorem rPilots_any (k : Int) (w : World) : Calls Tryd.prog 33 #[.int .i64 k] w fun e w' => e = .returned (.tuple #[.string (Pt.pilV k).1, .string (Pt.pilV k).2.1, .int .i64 (Pt.pilV k).2.2]) ∧ w' = w := by
  have CR := fun W => Lib.hid (rRight_any k W)
  unfold Pt.pilV
  by_cases hk : 0 ≤ k ∧ k < 14
  · obtain ⟨c, rfl⟩ := Int.eq_ofNat_of_zero_le hk.1
    have CP := fun W => Lib.hid (rPiloted_any c (by omega) W)
    rw [if_pos hk] at CR ⊢
    rw [Int.toNat_natCast]
    clear hk
    generalize (Pt.cat c).plus = a at *
    generalize (Pt.cat c).minus = b at *
    go_enter Tryd.func33, Tryd.ntmps33
    go_wp2_with fail
    refine (CR w).out.mono ?_
    rintro e w1 ⟨rfl, rfl⟩
    go_wp2_with fail
    refine (CP w1).out.mono ?_
    rintro e w2 ⟨rfl, rfl⟩
    go_wp2
    exact bodyPost_ret (v := .tuple #[.string a, .string b, .int .i64 0]) (by simp [results, Tryd.results33, go_sem]) rfl ⟨rfl, rfl⟩
  · rw [if_neg hk] at CR ⊢
    go_enter Tryd.func33, Tryd.ntmps33
    go_wp2_with fail
    refine (CR w).out.mono ?_
    rintro e w1 ⟨rfl, rfl⟩
    go_wp2
    exact bodyPost_ret (v := .tuple #[.string ⟨#[]⟩, .string ⟨#[]⟩, .int .i64 1]) (by simp [results, Tryd.results33, go_sem]) rfl ⟨rfl, rfl⟩
theorem pPilots_any (k : Int) (w : World) : Calls Tryd.prog 32 #[.int .i64 k] w fun e w' => e = .returned (.tuple #[.string (Pt.pilV k).1, .string (Pt.pilV k).2.1, .int .i64 (Pt.pilV k).2.2]) ∧ Below w.heap.size w w' := by
  unfold Pt.pilV
  by_cases hk : 0 ≤ k ∧ k < 14
  · obtain ⟨c, rfl⟩ := Int.eq_ofNat_of_zero_le hk.1
    rw [if_pos hk, Int.toNat_natCast]
    exact pil_any c (by omega) w
  · rw [if_neg hk]
    exact pil_no k (by omega) w
set_option maxHeartbeats 4000000 in
set_option maxRecDepth 100000 in
theorem rNext_any (k p : Int) (x y : Bool) (w : World) : Calls Tryd.prog 35 #[.int .i64 k, .int .i64 p, .bool x, .bool y] w fun e w' => e = .returned (.tuple #[.int .i64 (Pt.nxtV k p x y).1, .bool (Pt.nxtV k p x y).2.1, .int .i64 (Pt.nxtV k p x y).2.2]) ∧ Below w.heap.size w w' := by
  have CR := fun W => Lib.hid (placed_any k p W)
  unfold Pt.nxtV
  by_cases hE : Pt.inE k p = 0
  · obtain ⟨c, rfl, hc, -, -⟩ := Pt.inE_zero hE
    have CM := fun W => Lib.hid (rMoved_any c p x y hc W)
    rw [if_pos hE, Int.toNat_natCast]
    rw [hE] at CR
    clear hE hc
    generalize Pt.nextV (Pt.cat c) p x y = z at *
    obtain ⟨z1, z2⟩ := z
    go_enter Tryd.func35, Tryd.ntmps35
    go_wp2_with fail
    refine (CR w).out.mono ?_
    rintro e w1 ⟨rfl, hb⟩
    have HB := Lib.hid hb
    clear hb
    go_wp2_with fail
    refine (CM w1).out.mono ?_
    rintro e w2 ⟨rfl, rfl⟩
    go_wp2
    exact bodyPost_ret (v := .tuple #[.int .i64 z1, .bool z2, .int .i64 0]) (by simp [results, Tryd.results35, go_sem]) rfl ⟨rfl, HB.out⟩
  · rw [if_neg hE]
    generalize Pt.inE k p = z at *
    go_enter Tryd.func35, Tryd.ntmps35
    go_wp2_with fail
    refine (CR w).out.mono ?_
    rintro e w1 ⟨rfl, hb⟩
    have HB := Lib.hid hb
    clear hb
    go_wp2
    exact bodyPost_ret (v := .tuple #[.int .i64 0, .bool false, .int .i64 z]) (by simp [results, Tryd.results35, go_sem]) rfl ⟨rfl, HB.out⟩
theorem rowIn_err {k p e : Int} (h : Pt.inE k p = e) (he : e = 1 ∨ e = 2) (W : World) : Calls Tryd.prog 49 #[.int .i64 k, .int .i64 p] W fun r w' => r = .returned (.tuple #[noV, .int .i64 e]) ∧ Below W.heap.size W w' := by
  unfold Pt.inE at h
  by_cases h0 : k < 0 ∨ 14 ≤ k
  · rw [if_pos h0] at h
    subst h
    exact rowIn_no k p h0 W
  · rw [if_neg h0] at h
    obtain ⟨c, rfl⟩ := Int.eq_ofNat_of_zero_le (show 0 ≤ k by omega)
    rw [Int.toNat_natCast] at h
    by_cases h1 : p < 0 ∨ (Pt.cat c).pos ≤ p
    · rw [if_pos h1] at h
      subst h
      exact rowIn_pos c p (by omega) h1 W
    · rw [if_neg h1] at h; omega
theorem pNext_any (k p : Int) (x y : Bool) (w : World) : Calls Tryd.prog 34 #[.int .i64 k, .int .i64 p, .bool x, .bool y] w fun e w' => e = .returned (.tuple #[.int .i64 (Pt.nxtV k p x y).1, .bool (Pt.nxtV k p x y).2.1, .int .i64 (Pt.nxtV k p x y).2.2]) ∧ Below w.heap.size w w' := by
  unfold Pt.nxtV
  by_cases hE : Pt.inE k p = 0
  · obtain ⟨c, rfl, hc, h0, h1⟩ := Pt.inE_zero hE
    rw [if_pos hE, Int.toNat_natCast]
    exact next_any c p x y hc h0 h1 w
  · rw [if_neg hE]
    have he := (Pt.inE_cases k p).resolve_left hE
    exact next_no k p _ x y he w (fun W => rowIn_err rfl he W)
end Go.Proofs.YthjkcncfppndkaaDoor
