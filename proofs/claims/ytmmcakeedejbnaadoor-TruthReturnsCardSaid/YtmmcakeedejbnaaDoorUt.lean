/- truth.points and truth.Text. -/
import Derived.Test.YtmmcakeedejbnaaDoorUs
import Derived.Test.YtmmcakeedejbnaaDoorUr
import Derived.Laws.IdiomStrings
namespace Go.Proofs.YtmmcakeedejbnaaDoor
open Go.RowKit Go.Shelf
attribute [local go_sem] Oper.semAt_some

theorem tPoints_any (x : Nat) (w : World) : Calls Tryd.prog 54 #[.int .u64 (x : Int)] w fun e w' => e = .returned (.func (.func 79) #[] #[.pointer (some ⟨w.heap.size, 0, none⟩)]) ∧ w' = w.alloc (.cells #[.int .u64 (x : Int)] 22) := by
  go_enter Tryd.func54, Tryd.ntmps54
  go_wp2
  go_ret
  exact ⟨rfl, rfl⟩

theorem Cor.other {B x h k : Nat} {W : World} {v : Value} (H : Cor B x W) (h1 : h ≠ B) (h2 : h ≠ 1) : Cor B x (W.setCell ⟨h, k, none⟩ v) := by
  obtain ⟨c1, c2, c3, c4⟩ := H
  exact ⟨(World.cell?_setCell_other (w := W) (v := v) (a := ⟨h, k, none⟩) (b := ⟨B, 0, none⟩) (fun e => h1 (congrArg Addr.block e))).trans c1, by rw [World.frozen?_setCell]; exact c2,
    fun j hj => (World.cell?_setCell_other (w := W) (v := v) (a := ⟨h, k, none⟩) (b := ⟨1, j, none⟩) (fun e => h2 (congrArg Addr.block e))).trans (c3 j hj), c4⟩
theorem nxt_bit {x : Nat} (h0 : x ≠ 0) (h : x < 18446744073709551616) (j : Nat) : (nxt x).testBit j = (x.testBit j && !decide (j = Lib.ctz 64 x)) := Tt.pred_bit h0 h j

/-- The text under way: the points of b that are not in x are written. -/
structure Rounds (T h N b x : Nat) (W : World) : Prop where
  var : W.cell? ⟨T, 0, none⟩ = some (.slice (some ⟨h, 0, none⟩) N N)
  row : ∀ j, j < N → W.cell? ⟨h, j, none⟩ = some (.int .u8 ((Tt.chr (b.testBit j && !x.testBit j)).toNat : Int))
  free : ∀ j, j < N → W.frozen? ⟨h, j, none⟩ = false
  sub : ∀ j, x.testBit j = true → b.testBit j = true
  lt : x < 2 ^ N
theorem Rounds.kept {T h N b x : Nat} {W W' : World} {row : Option Nat} (H : Rounds T h N b x W) (hg : W.grownBy W' row) (hr : ∀ r, row = some r → ∃ o : Obj, W.heap[r]? = some o ∧ o.isCells = false) : Rounds T h N b x W' :=
  ⟨cell_kept H.var hg hr, fun j hj => cell_kept (H.row j hj) hg hr, fun j hj => (frozen_kept (H.row j hj) hg hr).trans (H.free j hj), H.sub, H.lt⟩
theorem Rounds.other {T h N b x B : Nat} {W : World} (v : Value) (H : Rounds T h N b x W) (h1 : B ≠ T) (h2 : B ≠ h) : Rounds T h N b x (W.setCell ⟨B, 0, none⟩ v) :=
  ⟨(World.cell?_setCell_other (w := W) (v := v) (a := ⟨B, 0, none⟩) (b := ⟨T, 0, none⟩) (fun e => h1 (congrArg Addr.block e))).trans H.var,
    fun j hj => (World.cell?_setCell_other (w := W) (v := v) (a := ⟨B, 0, none⟩) (b := ⟨h, j, none⟩) (fun e => h2 (congrArg Addr.block e))).trans (H.row j hj),
    fun j hj => by rw [World.frozen?_setCell]; exact H.free j hj, H.sub, H.lt⟩
theorem Rounds.step {T h N b x : Nat} {W : World} (H : Rounds T h N b x W) (hx0 : x ≠ 0) (hx : x < 18446744073709551616) (hT : h ≠ T) (hN : Lib.ctz 64 x < N) : Rounds T h N b (nxt x) (W.setCell ⟨h, Lib.ctz 64 x, none⟩ (.int .u8 49)) where
  var := (World.cell?_setCell_other (w := W) (v := .int .u8 49) (a := ⟨h, Lib.ctz 64 x, none⟩) (b := ⟨T, 0, none⟩) (fun e => hT (congrArg Addr.block e))).trans H.var
  row := fun j hj => by
    by_cases hk : j = Lib.ctz 64 x
    · subst hk
      rw [World.cell?_setCell_same' _ _ _ (by rw [H.row _ hN]; rfl), nxt_bit hx0 hx, H.sub _ (Tt.low_bit hx0 hx)]
      simp [Tt.chr]
    · rw [World.cell?_setCell_other (w := W) (v := .int .u8 49) (a := ⟨h, Lib.ctz 64 x, none⟩) (b := ⟨h, j, none⟩) (fun e => hk (congrArg Addr.off e).symm), H.row j hj, nxt_bit hx0 hx]
      simp [hk]
  free := fun j hj => by rw [World.frozen?_setCell]; exact H.free j hj
  sub := fun j hj => by
    rw [nxt_bit hx0 hx] at hj
    exact H.sub j (by simp at hj; exact hj.1)
  lt := Nat.lt_trans (nxt_lt hx0) H.lt

theorem tzTab_below {W W' : World} {B : Nat} (h : TzTab W) (hb : Below B W W') (hB : 1 < B) : TzTab W' := fun j hj => (hb.cell (p := ⟨1, j, none⟩) hB).trans (h j hj)
/-- The world in which the loop begins. -/
def W6 (w3 : World) (h N b : Nat) : World := (w3.alloc (.cells #[.slice (some ⟨h, 0, none⟩) N N] 101)).alloc (.cells #[.int .u64 (b : Int)] 22)
theorem w6_below (w3 : World) (h N b : Nat) : Below w3.heap.size w3 (W6 w3 h N b) :=
  ((Below.refl _ w3).alloc (Nat.le_refl _) _).alloc (by simp) _
theorem w6_size (w3 : World) (h N b : Nat) : (W6 w3 h N b).heap.size = w3.heap.size + 2 := by simp [W6]
theorem w6_rounds (w3 : World) (h N b : Nat) (Z : Zs w3 h N N) (hh : h < w3.heap.size) (hb : b < 2 ^ N) : Rounds w3.heap.size h N b b (W6 w3 h N b) where
  var := by
    unfold W6
    simp
  row := fun j hj => by
    rw [(w6_below w3 h N b).cell (p := ⟨h, j, none⟩) hh, Z.holds j hj]
    simp [Tt.chr]
  free := fun j hj => by
    rw [(w6_below w3 h N b).frozen (p := ⟨h, j, none⟩) hh, Z.free j hj]
  sub := fun j hj => hj
  lt := hb
theorem w6_cor (w3 : World) (h N b : Nat) (hT : TzTab w3) (hg : 1 < w3.heap.size) : Cor (w3.heap.size + 1) b (W6 w3 h N b) := by
  refine ⟨?_, ?_, tzTab_below hT (w6_below w3 h N b) hg, by omega⟩
  · unfold W6
    simp
  · unfold W6
    simp

set_option maxRecDepth 100000 in
theorem tText_any (n b : Nat) (w : World) (hn : n ≤ 6) (hb : b < 2 ^ 2 ^ n) (hT : TzTab w) (hg : 1 < w.heap.size) :
    Calls Tryd.prog 39 #[.agg #[.int .i64 n, .int .u64 b]] w fun e w' => e = .returned (.tuple #[.string ⟨(Tt.txt n b).toArray⟩, .int .i64 0]) ∧ Below w.heap.size w w' := by
  have hb64 : b < 2 ^ 64 := Nat.lt_of_lt_of_le hb (Nat.pow_le_pow_right (by omega) (Tt.size_le hn))
  have hN := Tt.size_le hn
  have hN1 : 1 ≤ 2 ^ n := Nat.pow_pos (by omega)
  have hc0 : Tt.chk n b = 0 := Tt.chk_zero.2 ⟨by omega, by omega, by simpa using hb⟩
  have CC := fun W => Lib.hid (tCheck_any n b W hb64)
  rw [hc0] at CC
  have CS := fun W => Lib.hid (tSize_any n W (by omega) (by omega))
  rw [Int.toNat_natCast] at CS
  have HL : Hid (∀ k, b < 2 ^ k → b < 2 ^ 64) := Lib.hid (fun _ _ => hb64)
  have HTX : Hid ((Tt.txt n b).length = 2 ^ n ∧ (∀ j (h : j < (Tt.txt n b).length), (Tt.txt n b)[j] = Tt.chr (b.testBit j)) ∧ b < 2 ^ 2 ^ n) := Lib.hid ⟨Tt.txt_length n b, Tt.txt_at n b, hb⟩
  generalize Tt.txt n b = L at *
  generalize 2 ^ n = N at *
  refine (callsIn_wide (n := 9)).1 ?_
  refine callsIn_of_wp_marks Tryd.func39 rfl trivial ?_ rfl
  simp only [Tryd.ntmps39, List.size_toArray, List.length_cons, List.length_nil, Nat.reduceAdd, Nat.reduceSub, Array.replicate_succ, Array.replicate_zero, List.push_toArray, List.append_toArray, List.nil_append, List.cons_append]
  have P := tabI_new w n b 24
  have L0 : Below w.heap.size w (w.alloc (.cells #[.int .i64 n, .int .u64 b] 24)) := (Below.refl _ w).alloc (Nat.le_refl _) _
  have e0 : (w.alloc (.cells #[.int .i64 n, .int .u64 b] 24)).heap.size = w.heap.size + 1 := by simp
  generalize hX : w.alloc (.cells #[.int .i64 n, .int .u64 b] 24) = X at *
  have P0 : Hid (TabI X w.heap.size n b) := Lib.hid P
  obtain ⟨p0, p1, p2, p3, p4⟩ := P
  gi_wp2_with (first
    | (refine ⟨trivial, ?_⟩; gi_at_call 19; refine (callsIn_wide.2 (CC _).out).mono ?_; rintro e w1 ⟨rfl, hB1⟩; have P1 := P0.out.below (by omega) hB1; have z1 := hB1.size; have HB1 := Lib.hid (L0.trans (hB1.mono (by omega))); clear hB1; have HP1 := Lib.hid P1; obtain ⟨q0, q1, q2, q3, q4⟩ := P1)
    | (refine ⟨trivial, ?_⟩; gi_at_call 51; refine (callsIn_wide.2 (CS _).out).mono ?_; rintro e w2 ⟨rfl, rfl⟩)
    | (refine ⟨trivial, ?_⟩; gi_at_call 72; refine (callsIn_wide.2 (tRepeat_any w1.heap.size N (w1.alloc (.cells #[.int .u8 48] 5)) hN1 hN (by simp) (by simp))).mono ?_; rintro e w3 ⟨rfl, Z3, B3⟩; have B3' : Below w1.heap.size w1 w3 := ((Below.refl w1.heap.size w1).alloc (Nat.le_refl _) _).trans (B3.mono (by simp)); have z3 := B3.size; have P3 := HP1.out.below (by omega) B3'; have HB3 := Lib.hid B3'; have HZ3 := Lib.hid Z3; clear B3 B3' Z3 q0 q1 q2 q3 q4; obtain ⟨q0, q1, q2, q3, q4⟩ := P3)
    | (refine ⟨trivial, ?_⟩; gi_at_call 54; refine (callsIn_wide.2 (tPoints_any b _)).mono ?_; rintro e w6 ⟨rfl, hw6⟩))
  have ez : (w1.alloc (.cells #[.int .u8 48] 5)).heap.size = w1.heap.size + 1 := by simp
  rw [ez] at z3 HZ3
  have hbN := HTX.out.2.2
  have hh3 : w1.heap.size + 1 < w3.heap.size := World.block_lt_of_cell? w3 ⟨w1.heap.size + 1, 0, none⟩ (HZ3.out.holds 0 hN1)
  have B6 : Below w.heap.size w (W6 w3 (w1.heap.size + 1) N b) := (HB1.out.trans (HB3.out.mono (show w.heap.size ≤ w1.heap.size by omega))).trans ((w6_below w3 (w1.heap.size + 1) N b).mono (show w.heap.size ≤ w3.heap.size by omega))
  have T3 : TzTab w3 := tzTab_below (tzTab_below hT HB1.out (by omega)) HB3.out (by omega)
  have R6 := w6_rounds w3 (w1.heap.size + 1) N b HZ3.out (by omega) hbN
  have C6 := w6_cor w3 (w1.heap.size + 1) N b T3 (by omega)
  have s6 := w6_size w3 (w1.heap.size + 1) N b
  change Code.wpIn _ _ _ _ _ _ (W6 w3 (w1.heap.size + 1) N b)
  have hcv : ∀ W : World, (∀ j, j < N → W.cell? ⟨w1.heap.size + 1, j, none⟩ = some (.int .u8 ((Tt.chr (b.testBit j && !(0 : Nat).testBit j)).toNat : Int))) →
      (convert 101 9 (.slice (some ⟨w1.heap.size + 1, 0, none⟩) N N)).run Tryd.prog W = .ok (.string ⟨L.toArray⟩) W := by
    intro W hW
    have h1 := run_convert_bytes_back (P := Tryd.prog) W 101 9 5 ⟨w1.heap.size + 1, 0, none⟩ N L Tryd.underlying101 Tryd.underlying5 Tryd.underlying9 (fun j hj => by
      have h2 := hW j (by rw [← HTX.out.1]; exact hj)
      rw [HTX.out.2.1 j hj]
      rw [Nat.zero_testBit] at h2
      by_cases hj0 : j = 0
      · subst hj0; simpa [Addr.add] using h2
      · simpa [Addr.add, hj0] using h2)
    rwa [HTX.out.1] at h1
  have HCV := Lib.hid hcv
  clear hcv HTX HB1 HB3 HZ3 P0 CC CS HL
  generalize hV : W6 w3 (w1.heap.size + 1) N b = V at *
  generalize hh : w1.heap.size + 1 = h at *
  refine range_pts 9 (by omega) (w3.heap.size + 1) b rfl (by omega) C6
    (fun x W => Rounds w3.heap.size h N b x W ∧ Below w.heap.size w W) ?hI ?hIs ⟨R6, B6⟩
    (fun v => { tmps := #[.agg #[.int .i64 n, .int .u64 b], .pointer (some ⟨w.heap.size, 0, none⟩), .string ⟨#[]⟩, .int .i64 0, .int .i64 0, .pointer (some ⟨w3.heap.size, 0, none⟩),
      .int .i64 (v : Int), .agg #[.int .i64 n, .int .u64 b], .int .i64 0, .int .i64 0, .bool false, undef, .slice (some ⟨w1.heap.size, 0, none⟩) 1 1,
      .pointer (some ⟨w.heap.size, 0, none⟩), .int .i64 n, .int .i64 N, .slice (some ⟨h, 0, none⟩) N N, .pointer (some ⟨w.heap.size, 1, none⟩), .int .u64 b,
      .func (.func 79) #[] #[.pointer (some ⟨w3.heap.size + 1, 0, none⟩)], .int .i64 (v : Int), undef, undef, undef, undef, undef], defers := [] }) ?assign ?body ?done
  case hI => exact OwnFrom.and (fun s A B row hs hg hr => hs.kept hg (fun r e => (hr r e).2)) (ownFrom_below (Nat.le_refl _) (by omega))
  case hIs => exact fun x W v hs => ⟨hs.1.other v (by omega) (by omega), hs.2.setCell (p := ⟨w3.heap.size + 1, 0, none⟩) (by show _ ≤ w3.heap.size + 1; omega) v⟩
  case assign =>
    intro l v W K hK
    gi_wp2
    exact hK
  case body =>
    rintro l x W hx0 hx hlt hC ⟨hR, hBW⟩
    have hk := Tt.low_lt hx0 hx hR.lt
    have c1 := hR.var
    have c2 := hR.row _ hk
    have c3 := hR.free _ hk
    have HS := Lib.hid (hR.step hx0 hx (by omega) hk)
    have HC := Lib.hid (hC.other (k := Lib.ctz 64 x) (v := .int .u8 49) (show h ≠ w3.heap.size + 1 by omega) (by omega))
    have HBW := Lib.hid (hBW.setCell (p := ⟨h, Lib.ctz 64 x, none⟩) (by show _ ≤ h; omega) (.int .u8 49))
    generalize Lib.ctz 64 x = k at *
    have i0 : (0 : Int) ≤ (k : Int) := by omega
    have i1 : (k : Int) < (N : Int) := by omega
    clear hR hBW hC
    gi_wp2
    exact ⟨(KeepsOthers.setCell _ _ _).from _, HC.out, HS.out, HBW.out⟩
  case done =>
    rintro W hlt hC ⟨hR, hBW⟩ hK
    have c1 := hR.var
    have cv := HCV.out W hR.row
    have HBW := Lib.hid hBW
    clear hR hBW hC
    gi_wp2
    refine ⟨by simp, .inl ⟨_, _, rfl, run_takeDeferred hK, ?_⟩⟩
    exact ⟨_, results_tmp2 rfl _ _ _, rfl, HBW.out.trans (belowK_b (w := w) (Nat.le_refl _) W _ _ _ (by omega) hK rfl rfl)⟩
end Go.Proofs.YtmmcakeedejbnaaDoor
