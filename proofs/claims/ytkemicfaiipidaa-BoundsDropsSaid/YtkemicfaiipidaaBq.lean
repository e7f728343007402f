/- Free and copied of the reference: squares of the call's own. -/
import Derived.Test.YtkemicfaiipidaaBo
import Derived.Test.YtkemicfaiipidaaBg
namespace Bn
def rowL (m : Mx) (i j : Nat) : List Int := (List.range j).map fun b => m i b
theorem rowL_len (m : Mx) (i j : Nat) : (rowL m i j).length = j := by simp [rowL]
theorem rowL_succ (m : Mx) (i j : Nat) : rowL m i (j + 1) = rowL m i j ++ [m i j] := by simp [rowL, List.range_succ]
theorem rowL_at (m : Mx) (i : Nat) {j b : Nat} (hb : b < j) : (rowL m i j).getD b 0 = m i b := by simp [rowL, hb]
end Bn
namespace Go.Proofs.Ytkemicfaiipidaa
open Go.RowKit

theorem ResI.put1 {W : World} {q : Nat} {n : Int} {v : Value} (h : ResI W q n v) (v' : Value) : ResI (W.setCell ⟨q, 1, none⟩ v') q n v' := by
  obtain ⟨h0, h1, h2, h3, h4⟩ := h
  refine ⟨by simpa [World.setCell] using h0, ?_, World.cell?_setCell_same' _ _ _ (by rw [h2]; rfl), by rw [World.frozen?_setCell]; exact h3, by rw [World.frozen?_setCell]; exact h4⟩
  rw [World.cell?_setCell_other (w := W) (v := v') (a := ⟨q, 1, none⟩) (b := ⟨q, 0, none⟩) (fun e' => by have := congrArg Addr.off e'; simp at this)]
  exact h1
theorem ResI.below {W W' : World} {q : Nat} {n : Int} {v : Value} (h : ResI W q n v) {B : Nat} (hB : q < B) (hb : Below B W W') : ResI W' q n v :=
  ⟨Nat.lt_of_lt_of_le h.1 hb.size, (hb.cell (p := ⟨q, 0, none⟩) hB).trans h.2.1, (hb.cell (p := ⟨q, 1, none⟩) hB).trans h.2.2.1, (hb.frozen (p := ⟨q, 0, none⟩) hB).trans h.2.2.2.1, (hb.frozen (p := ⟨q, 1, none⟩) hB).trans h.2.2.2.2⟩
theorem Gro.lt {T : TypeId} {B : Nat} {W : World} {v : Value} {k r : Nat} {f c : Nat → Nat} {m : Bn.Mx} (h : Gro T B W v k r f c m) : ∀ g, v.ownBlock = some g → B ≤ g ∧ g < W.heap.size := World.ownsRow.lt h.out
/-- A store into a block below the square. -/
theorem Gro.put0 {T : TypeId} {B : Nat} {W : World} {v : Value} {k r q i : Nat} {f c : Nat → Nat} {m : Bn.Mx} (h : Gro T B W v k r f c m) (hq : q < B) (u : Value) : Gro T B (W.setCell ⟨q, i, none⟩ u) v k r f c m :=
  h.kept (grown_set (grown_refl W (some q))) (by
    cases hv : v.ownBlock with
    | none => left; rfl
    | some g => right; have := (h.lt g hv).1; simp; omega) (fun j hj => by have := (h.blk j hj).2.1; simp; omega)
theorem RowI.block {B : Nat} {e : TypeId} {w : World} {ao : Option Addr} {cap k : Nat} {l : List Int} (h : RowI B e w (.slice ao k cap) l) (h0 : 0 < l.length) : ∃ g, ao = some ⟨g, 0, none⟩ ∧ B ≤ g ∧ g < w.heap.size ∧ k = l.length := by
  rcases h.2 with ⟨_, h1⟩ | ⟨g, c, cur, h1, h2, h3, _⟩
  · omega
  · simp only [Value.slice.injEq] at h1
    exact ⟨g, h1.1, h2, (Array.getElem?_eq_some_iff.1 h3).1, h1.2.1⟩
theorem resI_new (w : World) (n : Int) (v : Value) (T : TypeId) : ResI (w.alloc (.cells #[.int .i64 n, v] T)) w.heap.size n v := by unfold ResI; simp
/-- A value is bounds whose square may be written, all from block B on. -/
def OwnB (B : Nat) (W : World) (v : Value) (n : Nat) (m : Bn.Mx) : Prop := ∃ A cap f c, v = .agg #[.int .i64 (n : Int), .slice (some ⟨A, 0, none⟩) (n + 1) cap] ∧ n + 1 ≤ cap ∧ cap ≤ 9223372036854775807 ∧ Grd B W A (n + 1) (n + 1) f c m
theorem OwnB.val {B : Nat} {W : World} {v : Value} {n : Nat} {m : Bn.Mx} (h : OwnB B W v n m) : ValB W v n (Bn.rws n m) := by
  obtain ⟨A, cap, f, c, rfl, h1, h2, hG⟩ := h
  exact ⟨_, rfl, hG.sees h1 h2⟩

theorem Grd.mono {B B' A k r : Nat} {W : World} {f c : Nat → Nat} {m : Bn.Mx} (h : Grd B W A k r f c m) (hB : B' ≤ B) : Grd B' W A k r f c m :=
  ⟨h.lt, Nat.le_trans hB h.ge, h.rk, h.cell, h.cap, fun i hi => ⟨(h.blk i hi).1, Nat.le_trans hB (h.blk i hi).2.1, (h.blk i hi).2.2⟩, h.row, h.apart⟩
set_option maxHeartbeats 4000000 in
set_option maxRecDepth 100000 in
theorem rFree_any (N : Nat) (w : World) (hN : N ≤ 12) :
    Calls Try.prog 35 #[.int .i64 (N : Int)] w fun e w' => ∃ v, e = .returned v ∧ OwnB w.heap.size w' v N Bn.fre ∧ Below w.heap.size w w' := by
  obtain ⟨i0, hi0, hz0, hz1, hz2⟩ := info_int
  obtain ⟨i1, hi1, hy0, hy1, hy2⟩ := info_row
  have R0 := resI_new w 0 (.slice none 0 0) 24
  have L0 : Below w.heap.size w (w.alloc (.cells #[.int .i64 0, .slice none 0 0] 24)) := (Below.refl _ _).alloc (Nat.le_refl _) _
  have e0 : (w.alloc (.cells #[.int .i64 0, .slice none 0 0] 24)).heap.size = w.heap.size + 1 := by simp
  have HX : Hid (ResI ((w.alloc (.cells #[.int .i64 0, .slice none 0 0] 24)).alloc (.cells #[.int .i64 (N : Int), .slice none 0 0] 24)) w.heap.size 0 (.slice none 0 0) ∧ ResI ((w.alloc (.cells #[.int .i64 0, .slice none 0 0] 24)).alloc (.cells #[.int .i64 (N : Int), .slice none 0 0] 24)) (w.heap.size + 1) N (.slice none 0 0) ∧
      Below w.heap.size w ((w.alloc (.cells #[.int .i64 0, .slice none 0 0] 24)).alloc (.cells #[.int .i64 (N : Int), .slice none 0 0] 24)) ∧ w.heap.size + 1 + 1 ≤ ((w.alloc (.cells #[.int .i64 0, .slice none 0 0] 24)).alloc (.cells #[.int .i64 (N : Int), .slice none 0 0] 24)).heap.size) := Lib.hid (by
    generalize w.alloc (.cells #[.int .i64 0, .slice none 0 0] 24) = Y at *
    have R1 := resI_new Y (N : Int) (.slice none 0 0) 24
    rw [e0] at R1
    have L1 : Below Y.heap.size Y (Y.alloc (.cells #[.int .i64 (N : Int), .slice none 0 0] 24)) := (Below.refl _ _).alloc (Nat.le_refl _) _
    exact ⟨R0.step L1, R1, below_nxt L0 L1, by simp [e0]⟩)
  clear R0 L0 e0
  go_enter Try.func35, Try.ntmps35
  go_wp2
  obtain ⟨X, hX⟩ : ∃ X, X = ((w.alloc (.cells #[.int .i64 0, .slice none 0 0] 24)).alloc (.cells #[.int .i64 (N : Int), .slice none 0 0] 24)) := ⟨_, rfl⟩
  rw [← hX] at HX ⊢
  clear hX
  go_loopw [4] (fun s4 wr => ∃ (i : Nat) (v : Value) (f c : Nat → Nat) (m : Bn.Mx), i ≤ N + 1 ∧ s4 = .int .i64 (i : Int) ∧ Hid (Gro 42 (w.heap.size + 1 + 1) wr v (N + 1) i f c m) ∧ Hid (∀ a b, a < i → b < N + 1 → m a b = Bn.fre a b) ∧ ResI wr (w.heap.size + 1) N v ∧ Hid (ResI wr w.heap.size 0 (.slice none 0 0)) ∧ Hid (Below w.heap.size w wr) ∧ Hid (w.heap.size + 1 + 1 ≤ wr.heap.size)) (fun s4 _ => N + 1 - (intOf s4).toNat)
  case atStart => exact ⟨0, _, (fun _ => 0), (fun _ => 0), Bn.zer, Nat.zero_le _, rfl, Lib.hid (Gro.nil _ _ _ _ _ _ _), Lib.hid (fun a b h => by omega), HX.out.2.1, Lib.hid HX.out.1, Lib.hid HX.out.2.2.1, Lib.hid HX.out.2.2.2⟩
  case round =>
    clear HX
    obtain ⟨i, v, f, c, m, hi, rfl, HG, HV, hO, HR, HB, HS⟩ := hrel
    have HO := Lib.hid hO
    obtain ⟨o0, o1, o2, o3, o4⟩ := hO
    by_cases hil : i < N + 1
    · have hq : i ≤ N := by omega
      obtain ⟨wo, rfl⟩ : ∃ wo, wo = wr := ⟨_, rfl⟩
      go_wp2
      go_loopw [5, 6] (fun s5 s6 wr => ∃ j : Nat, j ≤ N + 1 ∧ s6 = .int .i64 (j : Int) ∧ Hid (RowI wo.heap.size 3 wr s5 (Bn.rowL Bn.fre i j)) ∧ Hid (Below wo.heap.size wo wr)) (fun _ s6 _ => N + 1 - (intOf s6).toNat)
      case atStart => exact ⟨0, Nat.zero_le _, rfl, Lib.hid (RowI.nil _ _ _), Lib.hid (Below.refl _ _)⟩
      case round =>
        obtain ⟨j, hj, rfl, HW, HBW⟩ := hrel
        have hbz := HBW.out.size
        obtain ⟨ra, rc, hrv⟩ := HW.out.form
        rw [Bn.rowL_len] at hrv
        subst hrv
        by_cases hjl : j < N + 1
        · have hq2 : j ≤ N := by omega
          have HS2 := Lib.hid (Bn.rowL_succ Bn.fre i j)
          have hlen : (Bn.rowL Bn.fre i j).length + [Bn.fre i j].length ≤ 1048576 := by rw [Bn.rowL_len]; simp; omega
          have HWT := Lib.hid (fun (o : Obj) => (HW.out.step ((Below.refl _ _).alloc (Nat.le_refl _) o)))
          have hll := Bn.rowL_len Bn.fre i j
          have HLN := Lib.hid hll
          clear hll
          by_cases hij : i = j
          · have hx : Bn.fre i j = 0 := if_pos hij
            have hij' : (i : Int) = (j : Int) := by omega
            rw [hx] at hlen HS2
            have HN1 := Lib.hid (SeesI.one wr 0 3)
            clear hx
            subst hij
            generalize Bn.rowL Bn.fre i i = l at *
            go_wp2_with (at_builtin; refine wpList_append_int rfl _ _ 42 rfl 3 i0 Try.underlying42 hi0 hz0 hz1 hz2 _ _ l [0] rfl rfl wo.heap.size (HWT.out _) HN1.out hlen (by simp; omega) ?_; intro a5 p5 w5 hr5 hg5 ho5; have hb5 := RowI.belowOwn (C := wo.heap.size) (HWT.out _) hg5 (by simp; omega) (Nat.le_refl _); have HR5 := Lib.hid hr5; have HB5 := Lib.hid ((HBW.out.alloc hbz _).trans hb5); clear hr5 hg5 ho5 hb5)
            exact ⟨⟨i + 1, by omega, by first | rfl | go_num, by rw [HS2.out, ← HLN.out] at *; exact HR5, HB5⟩, by simp [intOf]; omega⟩
          · have hx : Bn.fre i j = -1099511627776 := if_neg hij
            have hij' : ¬ ((i : Int) = (j : Int)) := by omega
            rw [hx] at hlen HS2
            have HN1 := Lib.hid (SeesI.one wr (-1099511627776) 3)
            clear hx
            generalize Bn.rowL Bn.fre i j = l at *
            go_wp2_with (at_builtin; refine wpList_append_int rfl _ _ 42 rfl 3 i0 Try.underlying42 hi0 hz0 hz1 hz2 _ _ l [-1099511627776] rfl rfl wo.heap.size (HWT.out _) HN1.out hlen (by simp; omega) ?_; intro a5 p5 w5 hr5 hg5 ho5; have hb5 := RowI.belowOwn (C := wo.heap.size) (HWT.out _) hg5 (by simp; omega) (Nat.le_refl _); have HR5 := Lib.hid hr5; have HB5 := Lib.hid ((HBW.out.alloc hbz _).trans hb5); clear hr5 hg5 ho5 hb5)
            exact ⟨⟨j + 1, by omega, by first | rfl | go_num, by rw [HS2.out, ← HLN.out] at *; exact HR5, HB5⟩, by simp [intOf]; omega⟩
        · obtain rfl : j = N + 1 := by omega
          obtain ⟨g, rfl, hg1, hg2, -⟩ := HW.out.block (by rw [Bn.rowL_len]; omega)
          have HGW := Lib.hid (HG.out.step HBW.out)
          have HO2 := Lib.hid (HO.out.step HBW.out)
          have HR2 := Lib.hid (HR.out.step HBW.out)
          have HB2 := Lib.hid (below_nxt HB.out HBW.out)
          have hs := HS.out
          have HRW := Lib.hid (HW.out.mono hs)
          have hgf : ∀ q, q < i → f q ≠ g := fun q hq => by have := (HG.out.blk q hq).1; omega
          have hgv : v.ownBlock ≠ some g := fun e => by have := (HG.out.lt g e).2; omega
          have HGF := Lib.hid hgf
          have HGV := Lib.hid hgv
          obtain ⟨q0, q1, q2, q3, q4⟩ := HO2.out
          have HM := Lib.hid (fun a b (ha : a < i + 1) (hb : b < N + 1) => show Bn.rowS m i (Bn.rowL Bn.fre i (N + 1)) a b = Bn.fre a b by
            unfold Bn.rowS
            by_cases e : a = i
            · rw [if_pos e, Bn.rowL_at _ _ hb, e]
            · rw [if_neg e]; exact HV.out a b (by omega) hb)
          have hrl := Bn.rowL_len Bn.fre i (N + 1)
          have HRL := Lib.hid hrl
          have BX := fun (W : World) (o : Obj) => (Below.refl W.heap.size W).alloc (Nat.le_refl _) o
          clear hgf hgv hrl HG HO HR HB HV HW o0 o1 o2 o3 o4
          generalize Bn.rowL Bn.fre i (N + 1) = l at *
          go_wp2_with (at_builtin; refine wpList_append_row rfl _ _ 22 rfl 42 3 i1 Try.underlying22 hi1 hy0 hy1 hy2 v (N + 1) i f c m _ g rc l rfl rfl (w.heap.size + 1 + 1) (HGW.out.step (BX _ _)) (by simp) (HRW.out.step (BX _ _)) HRL.out HGF.out HGV.out (by omega) (by simp; omega) ?_; intro a5 p5 w5 hG5 hg5 hb5; have HO5 := Lib.hid ((HO2.out.step (BX _ _)).below (B := w.heap.size + 1 + 1) (by omega) hb5); have HR5 := Lib.hid (((HR2.out.step (BX _ _)).below (B := w.heap.size + 1 + 1) (by omega) hb5)); have HB5 := Lib.hid ((HB2.out.alloc HB2.out.size _).trans (hb5.mono (by omega))); have hz5 : w.heap.size + 1 + 1 ≤ w5.heap.size := Nat.le_trans (by simp; omega) hb5.size; have HG5 := Lib.hid hG5; clear hG5 hg5 hb5; obtain ⟨t0, t1, t2, t3, t4⟩ := HO5.out)
          exact ⟨⟨i + 1, _, _, _, _, by omega, by first | rfl | go_num, Lib.hid (HG5.out.put0 (by omega) _), HM, HO5.out.put1 _, Lib.hid (HR5.out.grown (grown_set (grown_refl _ (some (w.heap.size + 1)))) (by omega)), Lib.hid (HB5.out.setCell (p := ⟨w.heap.size + 1, 1, none⟩) (by simp) _), Lib.hid (by simpa [World.setCell] using hz5)⟩, by simp [intOf]; omega⟩
    · obtain rfl : i = N + 1 := by omega
      obtain ⟨A, cap, rfl, h1, h2, hG⟩ := HG.out.grd (by omega)
      have HGD := Lib.hid (hG.congr (fun a b ha hb => HV.out a b ha hb))
      obtain ⟨r0, r1, r2, r3, r4⟩ := HR.out
      clear hG HG HV HS
      go_wp2
      have RW : ResI ((wr.setCell ⟨w.heap.size, 0, none⟩ (.int .i64 (N : Int))).setCell ⟨w.heap.size, 1, none⟩ (.slice (some ⟨A, 0, none⟩) (N + 1) cap)) w.heap.size N (.slice (some ⟨A, 0, none⟩) (N + 1) cap) := HR.out.put N _
      have BW : Below w.heap.size w ((wr.setCell ⟨w.heap.size, 0, none⟩ (.int .i64 (N : Int))).setCell ⟨w.heap.size, 1, none⟩ (.slice (some ⟨A, 0, none⟩) (N + 1) cap)) := (HB.out.setCell (p := ⟨w.heap.size, 0, none⟩) (Nat.le_refl _) _).setCell (p := ⟨w.heap.size, 1, none⟩) (Nat.le_refl _) _
      have hA := HGD.out.ge
      have GW := HGD.out.other (grown_set (i := 1) (v := .slice (some ⟨A, 0, none⟩) (N + 1) cap) (grown_set (A := w.heap.size) (i := 0) (v := .int .i64 (N : Int)) (grown_refl _ _))) (by omega) (fun q hq => by have := (HGD.out.blk q hq).2.1; omega)
      generalize ((wr.setCell ⟨w.heap.size, 0, none⟩ (.int .i64 (N : Int))).setCell ⟨w.heap.size, 1, none⟩ (.slice (some ⟨A, 0, none⟩) (N + 1) cap)) = W2 at *
      obtain ⟨-, t1, t2, -, -⟩ := RW
      exact bodyPost_ret (v := .agg #[.int .i64 (N : Int), .slice (some ⟨A, 0, none⟩) (N + 1) cap]) (by simp [results, Try.results35, go_sem, t1, t2]) rfl ⟨_, rfl, ⟨A, cap, f, c, rfl, h1, h2, GW.mono (by omega)⟩, BW⟩
end Go.Proofs.Ytkemicfaiipidaa

