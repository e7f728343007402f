/- slices.AppendSeq and slices.Collect over the points of a word; truth.Points. -/
import Derived.Test.YtahjdmdgkkienaaGreatDoorUo
import Derived.Test.YtahjdmdgkkienaaGreatDoorUs
import Derived.Test.YtahjdmdgkkienaaGreatDoorUq
import Derived.Test.YtahjdmdgkkienaaGreatDoorUi
import Derived.Maps.AppendAt
namespace Tt
/-- A word under way: the points of b from m on. -/
def high (b x m : Nat) : Prop := ∀ k, x.testBit k = (b.testBit k && decide (m ≤ k))
theorem high_start (b : Nat) : high b b 0 := fun k => by simp
theorem pts_skip {b m c : Nat} (hmc : m ≤ c) (h : ∀ k, m ≤ k → k < c → b.testBit k = false) : pts (fun k => b.testBit k) c = pts (fun k => b.testBit k) m := by
  obtain ⟨d, rfl⟩ : ∃ d, c = m + d := ⟨c - m, by omega⟩
  clear hmc
  induction d with
  | zero => rfl
  | succ d ih =>
    rw [← Nat.add_assoc, pts_succ, if_neg (by rw [h (m + d) (by omega) (by omega)]; simp)]
    exact ih fun k h1 h2 => h k h1 (by omega)
theorem low_none {x k : Nat} (h0 : x ≠ 0) (h : x < 18446744073709551616) (hk : k < Go.Lib.ctz 64 x) : x.testBit k = false := by
  obtain ⟨m, hm, _⟩ := ctz_form h0 h
  generalize Go.Lib.ctz 64 x = c at *
  have e := Nat.testBit_two_pow_mul_add (2 * m + 1) (b := 0) (i := c) (Nat.pow_pos (by omega)) k
  rw [Nat.add_zero, ← hm, if_pos hk] at e
  rw [e]; simp
theorem high_low {b x m : Nat} (hH : high b x m) (h0 : x ≠ 0) (h : x < 18446744073709551616) : m ≤ Go.Lib.ctz 64 x ∧ b.testBit (Go.Lib.ctz 64 x) = true := by
  have h1 := hH (Go.Lib.ctz 64 x)
  rw [low_bit h0 h] at h1
  simp at h1
  exact ⟨h1.2, h1.1⟩
theorem high_next {b x m : Nat} (hH : high b x m) (h0 : x ≠ 0) (h : x < 18446744073709551616) : high b (x &&& (x - 1)) (Go.Lib.ctz 64 x + 1) := fun k => by
  obtain ⟨h1, h2⟩ := high_low hH h0 h
  rw [pred_bit h0 h]
  by_cases hk : k < Go.Lib.ctz 64 x
  · rw [low_none h0 h hk]; simp; omega
  · rw [hH k]
    by_cases he : k = Go.Lib.ctz 64 x
    · subst he; simp
    · simp [he, show m ≤ k by omega, show Go.Lib.ctz 64 x + 1 ≤ k by omega]
theorem high_pts {b x m : Nat} (hH : high b x m) (h0 : x ≠ 0) (h : x < 18446744073709551616) : pts (fun k => b.testBit k) (Go.Lib.ctz 64 x + 1) = pts (fun k => b.testBit k) m ++ [Go.Lib.ctz 64 x] := by
  obtain ⟨h1, h2⟩ := high_low hH h0 h
  rw [pts_succ, if_pos h2, pts_skip h1 fun k hk hc => by
    have := hH k
    rw [low_none h0 h hc] at this
    simp [hk] at this
    exact this]
theorem high_end {n b m : Nat} (hH : high b 0 m) (hb : b < 2 ^ 2 ^ n) : pts (fun k => b.testBit k) m = pts (fun k => b.testBit k) (2 ^ n) := by
  have z : ∀ k, m ≤ k → b.testBit k = false := fun k hk => by
    have := hH k
    rw [Nat.zero_testBit] at this
    simp [hk] at this
    exact this
  by_cases hle : m ≤ 2 ^ n
  · exact (pts_skip hle fun k h1 _ => z k h1).symm
  · exact pts_skip (by omega) fun k h1 _ => high_bit hb h1
end Tt
namespace Go.Proofs.YtahjdmdgkkienaaGreatDoor
open Go.RowKit Go.Shelf
attribute [local go_sem] Oper.semAt_some

theorem tPoints_any (x : Nat) (w : World) : Calls Tryz.prog 76 #[.int .u64 (x : Int)] w fun e w' => e = .returned (.func (.func 91) #[] #[.pointer (some ⟨w.heap.size, 0, none⟩)]) ∧ w' = w.alloc (.cells #[.int .u64 (x : Int)] 27) := by
  go_enter Tryz.func76, Tryz.ntmps76
  go_wp2
  go_ret
  exact ⟨rfl, rfl⟩

theorem tzTab_below {W W' : World} {B : Nat} (h : TzTab W) (hb : Below B W W') (hB : 3 < B) : TzTab W' := fun j hj => (hb.cell (p := ⟨3, j, none⟩) hB).trans (h j hj)
/-- The table of bits lies. -/
structure Stz (W : World) : Prop where
  tz : TzTab W
  h1 : 3 < W.heap.size
theorem Stz.next {w W : World} (h : Stz w) (hb : Below w.heap.size w W) : Stz W := ⟨tzTab_below h.tz hb h.h1, Nat.lt_of_lt_of_le h.h1 hb.size⟩

/-- What the loop of AppendSeq has collected. -/
def Coll (n0 B T b x : Nat) (w W : World) : Prop := (∃ m v, m ≤ 64 ∧ Tt.high b x m ∧ Boxed W T 82 v ∧ Row T .i64 3 W v (Tt.pts (fun k => b.testBit k) m)) ∧ Below n0 w W ∧ B < T
theorem coll_own (n0 B T b : Nat) (w : World) (h0 : n0 ≤ w.heap.size) (_ : T = w.heap.size) (C : Nat) (hC : n0 ≤ C) : OwnFrom C (fun x W => Coll n0 B T b x w W) := by
  rintro x X Y row ⟨⟨m, v, hm, hh, hv, hr⟩, hB, hlt⟩ hg hrow
  refine ⟨⟨m, v, hm, hh, hv.kept hg (fun e' => ?_), ?_⟩, ?_, hlt⟩
  · obtain ⟨_, o, ho, hc⟩ := hrow T e'.symm
    rw [show X.heap[T]? = _ from hv] at ho; cases ho; cases hc
  · refine World.ownsRow.kept hr hg ?_
    rcases hr.2 with ⟨rfl, _⟩ | ⟨g, cap, cur, rfl, _, hgb, _⟩
    · exact .inl rfl
    · refine .inr fun e' => ?_
      obtain ⟨_, o, ho, hc⟩ := hrow g (by simpa [Value.ownBlock] using e'.symm)
      rw [hgb] at ho; cases ho; cases hc
  · exact (ownFrom_below (w₀ := w) (n₀ := n0) h0 hC) x X Y row hB hg hrow

set_option maxRecDepth 100000 in
theorem tSeq_any (n n0 B b : Nat) (w : World) (hn : n ≤ 6) (hb : b < 2 ^ 2 ^ n) (hC : Cor B b w) (h0 : n0 ≤ B) :
    Calls Tryz.prog 90 #[.slice none 0 0, .func (.func 91) #[] #[.pointer (some ⟨B, 0, none⟩)]] w fun e w' => ∃ v, e = .returned v ∧ Row w.heap.size .i64 3 w' v (Tt.pts (fun k => b.testBit k) (2 ^ n)) ∧ Below n0 w w' := by
  have hb64 := Tt.w64 hn hb
  have htz : 3 < w.heap.size := World.block_lt_of_cell? w ⟨3, 0, none⟩ (hC.2.2.1 0 (by omega))
  have hBw : B < w.heap.size := World.block_lt_of_cell? w ⟨B, 0, none⟩ hC.1
  obtain ⟨i0, hi, hz0, hz1, hz2⟩ := info_parts Tryz.infoI64
  have HEND := Lib.hid (fun m (hH : Tt.high b 0 m) => Tt.high_end hH hb)
  generalize 2 ^ n = N at *
  refine (callsIn_wide (n := 9)).1 ?_
  refine callsIn_of_wp_marks Tryz.func90 rfl trivial ?_ rfl
  simp only [Tryz.ntmps90, List.size_toArray, List.length_cons, List.length_nil, Nat.reduceAdd, Nat.reduceSub, Array.replicate_succ, Array.replicate_zero, List.push_toArray, List.append_toArray, List.nil_append, List.cons_append]
  have bO := Boxed.new w 82 (.slice none 0 0)
  have hB0 : Below n0 w (w.alloc (.cells #[.slice none 0 0] 82)) := (Below.refl _ w).alloc (by omega) _
  have hC1 := hC.alloc (.cells #[.slice none 0 0] 82)
  have sz : (w.alloc (.cells #[.slice none 0 0] 82)).heap.size = w.heap.size + 1 := by simp
  gi_wp2
  refine range_pts 9 (by omega) B b rfl (by omega) hC1 (fun x W => Coll n0 B w.heap.size b x w W) (coll_own n0 B _ b w (by omega) rfl _ (by rw [sz]; omega)) ?hIs ⟨⟨0, _, by omega, Tt.high_start b, bO, World.ownsRow_nil _ _ _ _⟩, hB0, hBw⟩
    (fun v => { tmps := #[.slice none 0 0, .func (.func 91) #[] #[.pointer (some ⟨B, 0, none⟩)], .pointer (some ⟨w.heap.size, 0, none⟩), undef, .slice none 0 0, .int .i64 (v : Int), .func (.func 91) #[] #[.pointer (some ⟨B, 0, none⟩)], .int .i64 (v : Int), undef, undef, undef, undef, undef], defers := [] }) ?assign ?body ?done
  case hIs =>
    rintro x W v ⟨⟨m, u, hm, hh, hv, hr⟩, hB, hlt⟩
    refine ⟨⟨m, u, hm, hh, hv.kept (grownBy_setCell' W B v) (by simp; omega), ?_⟩, hB.setCell (p := ⟨B, 0, none⟩) h0 v, hlt⟩
    refine World.ownsRow.kept hr (grownBy_setCell' W B v) ?_
    refine .inr fun e' => ?_
    have := (World.ownsRow.lt hr B e').1
    omega
  case assign =>
    intro l v W K hK
    gi_wp2
    exact hK
  case body =>
    rintro l x W hx0 hx hlt hC ⟨⟨m, v, hm, hh, hv, hrow⟩, hB, hBT⟩
    have hc := hv.cell
    have hlen := Tt.pts_len (fun k => b.testBit k) m
    have hlow := Tt.high_low hh hx0 hx
    have hk := Tt.low_lt hx0 hx (k := 64) (by omega)
    have HN := Lib.hid (Tt.high_next hh hx0 hx)
    have HP := Lib.hid (Tt.high_pts hh hx0 hx)
    have hrow' : W.ownsRow w.heap.size 3 1 v (Tt.pts (fun k => b.testBit k) m).length ((Tt.pts (fun k => b.testBit k) m).map fun n => .int .i64 ((n : Nat) : Int)) := hrow
    generalize Tt.pts (fun k => b.testBit k) m = l1 at *
    have HCT := Lib.hid (And.intro hlow hk)
    generalize Lib.ctz 64 x = c at *
    clear hrow hlow
    gi_wp2_with (gi_at_builtin; refine wpListIn_append_own _ rfl _ _ 82 rfl w.heap.size 3 i0 (.int .i64 0) 1 8 Tryz.underlying82 hi hz0 hz1 hz2 rfl (by decide) _ _ _ rfl (hrow'.alloc _) ⟨W.heap.size, 0, none⟩ 1 1 [.int .i64 c] rfl rfl (cell_one_new _ _ _) (by simp [Value.oneCell']) (by unfold maxLen; omega) (by omega) (by simp; omega) ?_; intro v' w1 hown' hgrow _; obtain ⟨g', cap', rfl⟩ := ownsRow_succ hown'; obtain ⟨hv1, hv2, hr2, hk2, hb2⟩ := hv.appended (by decide) hrow' (by omega) (Nat.le_refl _) hown' hgrow; have hc1 := hv1.cell; have hf1 := hv1.frozen)
    refine ⟨hk2.from _, ⟨(hb2.cell (p := ⟨B, 0, none⟩) hBT).trans hC.1, (hb2.frozen (p := ⟨B, 0, none⟩) hBT).trans hC.2.1, tzTab_below hC.2.2.1 hb2 htz, hC.2.2.2⟩, ⟨⟨c + 1, _, ?_, HN.out, hv2, ?_⟩, hB.trans (hb2.mono (by omega)), hBT⟩⟩
    · have := HCT.out.2; omega
    · rw [HP.out]
      unfold Row
      rw [List.length_append, List.map_append]
      exact hr2
  case done =>
    rintro W hlt hC ⟨⟨m, v, hm, hh, hv, hrow⟩, hB, hBT⟩ hK
    have hc := hv.cell
    have HE := Lib.hid (HEND.out m hh)
    gi_wp2
    refine ⟨by simp, .inl ⟨_, _, rfl, run_takeDeferred hK, ?_⟩⟩
    refine ⟨_, results_tmp rfl _ _ _, v, rfl, ?_, hB.trans (belowK_b (w := w) (by omega) W _ _ _ (by omega) hK rfl rfl)⟩
    rw [← HE.out]
    exact ownsRow_putObj hrow _ hK rfl

theorem tCollect_any (n n0 B b : Nat) (w : World) (hn : n ≤ 6) (hb : b < 2 ^ 2 ^ n) (hC : Cor B b w) (h0 : n0 ≤ B) :
    Calls Tryz.prog 75 #[.func (.func 91) #[] #[.pointer (some ⟨B, 0, none⟩)]] w fun e w' => ∃ v, e = .returned v ∧ Sees .i64 w' v (Tt.pts (fun k => b.testBit k) (2 ^ n)) ∧ Below n0 w w' := by
  have C := Lib.hid (tSeq_any n n0 B b w hn hb hC h0)
  generalize Tt.pts (fun k => b.testBit k) (2 ^ n) = l at *
  clear hb hC
  go_enter Tryz.func75, Tryz.ntmps75
  go_wp2_with fail
  refine (C.out).mono ?_
  rintro e w1 ⟨v, rfl, hr, hB⟩
  have HR := Lib.hid hr
  clear hr
  go_wp2
  go_ret
  exact ⟨v, rfl, HR.out.sees, hB⟩

set_option maxRecDepth 100000 in
theorem tPoints_ok (n b : Nat) (w : World) (hn : n ≤ 6) (hb : b < 2 ^ 2 ^ n) (hst : Stz w) : Calls Tryz.prog 57 #[.agg #[.int .i64 n, .int .u64 b]] w fun e w' => ∃ v, e = .returned (.tuple #[v, .int .i64 0]) ∧ Sees .i64 w' v (Tt.pts (fun k => b.testBit k) (2 ^ n)) ∧ Below w.heap.size w w' := by
  have CC := fun W => Lib.hid (tCheck_any n b W (Tt.w64 hn hb))
  rw [Tt.chk_ok hn hb] at CC
  have CD := fun n0 B W h h0 => Lib.hid (tCollect_any n n0 B b W hn hb h h0)
  generalize Tt.pts (fun k => b.testBit k) (2 ^ n) = l at *
  have HST := Lib.hid hst
  obtain ⟨P0, L0, z0⟩ := tab1_new w n b 29
  generalize hX : w.alloc (.cells #[.int .i64 n, .int .u64 b] 29) = X at *
  obtain ⟨p0, p1, p2, p3, p4⟩ := id P0
  clear hn hb hst
  go_enter Tryz.func57, Tryz.ntmps57
  go_wp2_with fail
  refine ((CC _).out).mono ?_
  rintro e w1 ⟨rfl, hw1⟩
  have zw1 := hw1.size
  have P0w1 := P0.below (by omega) hw1
  obtain ⟨a0, a1, a2, a3, a4⟩ := id P0w1
  have Lw1 := L0.trans (hw1.mono (by omega))
  clear hw1
  go_wp2_with fail
  refine (tPoints_any b _).mono ?_
  rintro e w2 ⟨rfl, hw2⟩
  have hB2 : Below w1.heap.size w1 w2 := by rw [hw2]; exact (Below.refl _ _).alloc (Nat.le_refl _) _
  have hC2 : Cor w1.heap.size b w2 := by
    refine ⟨by rw [hw2]; simp, by rw [hw2]; simp, tzTab_below (HST.out.next Lw1).tz hB2 (HST.out.next Lw1).h1, ?_⟩
    have := (HST.out.next Lw1).h1
    omega
  have Lw2 := Lw1.trans (hB2.mono (by omega))
  clear hw2 hB2
  go_wp2_with fail
  refine ((CD w.heap.size w1.heap.size w2 hC2 (by omega)).out).mono ?_
  rintro e w3 ⟨v, rfl, hs, hB3⟩
  have HS := Lib.hid hs
  have Lw3 := Lw2.trans hB3
  clear hs hB3 hC2
  go_wp2
  go_ret2
  exact ⟨v, rfl, HS.out, Lw3⟩
end Go.Proofs.YtahjdmdgkkienaaGreatDoor
