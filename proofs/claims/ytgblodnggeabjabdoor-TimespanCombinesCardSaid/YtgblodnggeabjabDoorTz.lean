/- The call of the statement TimespanCombines. -/
import Derived.Test.YtgblodnggeabjabDoorTv
namespace Go.Proofs.YtgblodnggeabjabDoor
open Go.RowKit

set_option maxRecDepth 100000 in
theorem has_true (l h t : Int) (w : World) (h1 : l ≤ t) (h2 : t ≤ h) : Calls Tryd.prog 39 #[.agg #[.int .i64 l, .int .i64 h], .int .i64 t] w fun e w' => e = .returned (.bool true) ∧ Below w.heap.size w w' := by
  go_enter Tryd.func39, Tryd.ntmps39
  go_wp2
  go_ret
  exact ⟨ret_bool (by simp), (Below.refl _ _).alloc (Nat.le_refl _) _⟩

/-- Three numbers in a new variable. -/
def Trip (W : World) (g : Nat) (x y z : Int) : Prop :=
  g < W.heap.size ∧ W.cell? ⟨g, 0, none⟩ = some (.int .u16 x) ∧ W.cell? ⟨g, 1, none⟩ = some (.int .u16 y) ∧ W.cell? ⟨g, 2, none⟩ = some (.int .u16 z)
theorem Trip.step {w w' : World} {g : Nat} {x y z : Int} (h : Trip w g x y z) (hb : Below w.heap.size w w') : Trip w' g x y z :=
  ⟨Nat.lt_of_lt_of_le h.1 hb.size, (hb.cell (p := ⟨g, 0, none⟩) h.1).trans h.2.1, (hb.cell (p := ⟨g, 1, none⟩) h.1).trans h.2.2.1, (hb.cell (p := ⟨g, 2, none⟩) h.1).trans h.2.2.2⟩
theorem Trip.box {w w' : World} {g : Nat} {x y z : Int} {o : Obj} (h : Trip w g x y z) (hb : Below (w.alloc o).heap.size (w.alloc o) w') : Trip w' g x y z := h.step (below_box (Nat.le_refl _) hb)
/-- Two spans and three numbers in new variables. -/
def W2t (w : World) (l h m k b0 b1 b2 : Int) : World := (W2 w l h m k).alloc (.cells #[.int .u16 b0, .int .u16 b1, .int .u16 b2] 62)
theorem w2t_below (w : World) (l h m k b0 b1 b2 : Int) : Below w.heap.size w (W2t w l h m k b0 b1 b2) := (w2_below w l h m k).alloc (by rw [w2_size]; omega) _
theorem w2t_facts (w : World) (l h m k b0 b1 b2 : Int) {W : World} (hW : Below (W2t w l h m k b0 b1 b2).heap.size (W2t w l h m k b0 b1 b2) W) : PairI W w.heap.size l h ∧ PairI W (w.heap.size + 1) m k ∧ Trip W (w.heap.size + 1 + 1) b0 b1 b2 := by
  have hb : Below (W2 w l h m k).heap.size (W2 w l h m k) (W2t w l h m k b0 b1 b2) := (Below.refl _ _).alloc (Nat.le_refl _) _
  obtain ⟨h1, h2⟩ := w2_facts w l h m k hb
  have e := w2_size w l h m k
  have h3 : Trip (W2t w l h m k b0 b1 b2) (w.heap.size + 1 + 1) b0 b1 b2 := by
    unfold W2t Trip
    rw [← e]
    simp
  exact ⟨h1.step hW, h2.step hW, h3.step hW⟩

theorem pick_in (l h b : Int) (h0 : 0 ≤ l) (h1 : l ≤ h) (h2 : h ≤ 1000000) : ∃ s, wrap64 (l + b % (h - l + 1)) = s ∧ l ≤ s ∧ s ≤ h := by
  have e1 := Int.emod_nonneg b (show h - l + 1 ≠ 0 by omega)
  have e2 := Int.emod_lt_of_pos b (show 0 < h - l + 1 by omega)
  generalize b % (h - l + 1) = y at *
  exact ⟨l + y, by unfold wrap64; omega, by omega, by omega⟩

theorem lawCombines_bad (l h m k b0 b1 b2 : Int) (w : World) (hst : St w) (hadd : ¬ (Tm.addV l h m k).2 = 0) :
    Calls Tryd.prog 8 #[.agg #[.int .i64 l, .int .i64 h], .agg #[.int .i64 m, .int .i64 k], .agg #[.int .u16 b0, .int .u16 b1, .int .u16 b2]] w fun e w' => e = .returned (.bool true) ∧ Below w.heap.size w w' := by
  have HST := Lib.hid hst
  have C0 := fun W => Lib.hid (right_any l h m k W false (by simp [hadd]))
  have hB0 := w2t_below w l h m k b0 b1 b2
  clear hst hadd
  unfold W2t W2 at *
  go_enter Tryd.func8, Tryd.ntmps8
  go_wp2_with fail
  refine ((C0 _).out).mono ?_
  rintro e w1 ⟨rfl, hb⟩
  have hB := hB0.trans (hb.mono hB0.size)
  clear hb hB0
  go_wp2_with fail
  refine (awake_any _ (HST.out.next hB)).mono ?_
  rintro e wz ⟨rfl, hb⟩
  have hF := below_next hB hb
  go_wp2
  go_ret
  exact ⟨rfl, hF⟩

set_option maxRecDepth 100000 in
set_option maxHeartbeats 4000000 in
theorem lawCombines_good (l h m k b0 b1 b2 : Int) (w : World) (hst : St w) (hr : 0 ≤ l ∧ l ≤ h ∧ 0 ≤ m ∧ m ≤ k ∧ h + k ≤ 1000000) (hadd : Tm.addV l h m k = ((l + m, h + k), 0)) (hc : Tm.chk2 l h m k = 0)
    (q0 : 0 ≤ b0 ∧ b0 ≤ 65535) (q1 : 0 ≤ b1 ∧ b1 ≤ 65535) (q2 : 0 ≤ b2 ∧ b2 ≤ 65535) :
    Calls Tryd.prog 8 #[.agg #[.int .i64 l, .int .i64 h], .agg #[.int .i64 m, .int .i64 k], .agg #[.int .u16 b0, .int .u16 b1, .int .u16 b2]] w fun e w' => e = .returned (.bool true) ∧ Below w.heap.size w w' := by
  have HST := Lib.hid hst
  have C0 := fun W => Lib.hid (right_any l h m k W true (by rw [hadd]; rfl))
  have C1 := fun W => Lib.hid (tAdd_any l h m k W)
  have C2 := fun W => Lib.hid (tLater_any l h m k W)
  have C3 := fun W => Lib.hid (tEarlier_any l h m k W)
  rw [hadd] at C1
  rw [opV_good hc] at C2 C3
  simp only [] at C1 C2 C3
  have hB0 := w2t_below w l h m k b0 b1 b2
  have HF := fun W hW => Lib.hid (w2t_facts w l h m k b0 b1 b2 (W := W) hW)
  have hs := hB0.size
  clear hst hadd hc
  obtain ⟨r1, r2, r3, r4, r5⟩ := hr
  have r6 : h ≤ 1000000 := by omega
  have r7 : k ≤ 1000000 := by omega
  have d0 : 0 < h - l + 1 := by omega
  have d1 : 0 < k - m + 1 := by omega
  have d2 : 0 < h + k - (l + m) + 1 := by omega
  have d0' : ¬ (h - l + 1 = 0) := by omega
  have d1' : ¬ (k - m + 1 = 0) := by omega
  obtain ⟨s, hs1, hs2, hs3⟩ := pick_in l h b0 r1 r2 (by omega)
  obtain ⟨t, ht1, ht2, ht3⟩ := pick_in m k b1 r3 r4 (by omega)
  obtain ⟨u, hu1, hu2, hu3⟩ := pick_in (l + m) (h + k) b2 (by omega) (by omega) (by omega)
  have hx1 := Tm.great_ge l (u - k)
  have hmx := Tm.great_ge s t
  have hmn := Tm.less_le s t
  have hg1 := Tm.great_ge l m
  have hg2 := Tm.great_ge h k
  have hl1 := Tm.less_le l m
  have hl2 := Tm.less_le h k
  have D1 := fun W => Lib.hid (has_true (l + m) (h + k) (s + t) W (by omega) (by omega))
  have D2 := fun W => Lib.hid (has_true (Tm.great l m) (Tm.great h k) (Tm.great s t) W (by omega) (by omega))
  have D3 := fun W => Lib.hid (has_true (Tm.less l m) (Tm.less h k) (Tm.less s t) W (by omega) (by omega))
  have D4 := fun W => Lib.hid (rCheck_any (l + m) (h + k) W)
  rw [Tm.chk_zero.2 ⟨show 0 ≤ l + m by omega, by omega, by omega⟩] at D4
  have D5 := fun W => Lib.hid (has_true l h (Tm.great l (u - k)) W (by omega) (by omega))
  have D6 := fun W => Lib.hid (has_true m k (u - Tm.great l (u - k)) W (by omega) (by omega))
  have E1 := max_run s t
  have E2 := min_run s t
  have E3 := max_run l (u - k)
  have z1 : 0 ≤ u - Tm.great l (u - k) ∧ u - Tm.great l (u - k) ≤ 1000000 := by omega
  have z2 : 0 ≤ s + t ∧ s + t ≤ 1000000 := by omega
  have z3 : -1000000 ≤ u - k ∧ u - k ≤ 1000000 := by omega
  have z4 : 0 ≤ h + k - (l + m) ∧ h + k - (l + m) ≤ 1000000 := by omega
  have d2' : ¬ (h + k - (l + m) + 1 = 0) := by omega
  clear hx1 hmx hmn hg1 hg2 hl1 hl2 hs2 hs3 ht2 ht3 hu2 hu3
  generalize Tm.great l (u - k) = x at *
  generalize Tm.great s t = mx at *
  generalize Tm.less s t = mn at *
  generalize Tm.great l m = gl at *
  generalize Tm.great h k = gh at *
  generalize Tm.less l m = ll at *
  generalize Tm.less h k = lh at *
  generalize l + m = su at *
  generalize h + k = tu at *
  unfold W2t W2 at *
  go_enter Tryd.func8, Tryd.ntmps8
  go_wp2_with fail
  refine ((C0 _).out).mono ?_
  rintro e w1 ⟨rfl, hb⟩
  obtain ⟨V1, V2, VT⟩ := (HF _ hb).out
  have hB := hB0.trans (hb.mono hs)
  clear hb HF hB0 hs C0
  obtain ⟨a10, a11, a12, a13, a14⟩ := id V1
  obtain ⟨a20, a21, a22, a23, a24⟩ := id V2
  obtain ⟨t0, t1, t2, t3⟩ := id VT
  have H1 := Lib.hid V1
  have H2 := Lib.hid V2
  have HT := Lib.hid VT
  clear V1 V2 VT
  go_wp2_with fail
  go_quiet (fail)
  obtain ⟨Z, hZ⟩ : ∃ Z, w1.drewN nq = Z := ⟨_, rfl⟩
  rw [hZ]
  have bZ : Below w1.heap.size w1 Z := by rw [← hZ]; exact below_drawn w1 nq
  have V1 := H1.out.step bZ
  have V2 := H2.out.step bZ
  have VT := HT.out.step bZ
  have hB' := below_next hB bZ
  clear bZ hZ hB HT t0 t1 t2 t3 a10 a11 a12 a13 a14 H1 a20 a21 a22 a23 a24 H2
  have hB := hB'
  clear hB'
  obtain ⟨a10, a11, a12, a13, a14⟩ := id V1
  obtain ⟨a20, a21, a22, a23, a24⟩ := id V2
  have H1 := Lib.hid V1
  have H2 := Lib.hid V2
  obtain ⟨t0, t1, t2, t3⟩ := id VT
  have HT := Lib.hid VT
  clear VT V1 V2
  go_wp2_with fail
  refine ((C1 _).out).mono ?_
  rintro e w2 ⟨rfl, hb⟩
  have V1 := H1.out.step hb
  have V2 := H2.out.step hb
  have hB' := below_next hB hb
  have VT := HT.out.step hb
  clear HT t0 t1 t2 t3
  obtain ⟨t0, t1, t2, t3⟩ := id VT
  have HT := Lib.hid VT
  clear VT
  clear hb hB a10 a11 a12 a13 a14 H1 a20 a21 a22 a23 a24 H2
  have hB := hB'
  clear hB'
  have n2_1 : w.heap.size < w2.heap.size := V1.1
  have n2_2 : (w.heap.size + 1) < w2.heap.size := V2.1
  obtain ⟨a10, a11, a12, a13, a14⟩ := id V1
  obtain ⟨a20, a21, a22, a23, a24⟩ := id V2
  have H1 := Lib.hid V1
  have H2 := Lib.hid V2
  clear V1 V2
  go_wp2_with fail
  refine ((C2 _).out).mono ?_
  rintro e w3 ⟨rfl, hb⟩
  have V1 := H1.out.box hb
  have V2 := H2.out.box hb
  have V3 := pairI_box hb
  have hB' := below_nextb hB hb
  have VT := HT.out.box hb
  clear HT t0 t1 t2 t3
  obtain ⟨t0, t1, t2, t3⟩ := id VT
  have HT := Lib.hid VT
  clear VT
  clear hb hB a10 a11 a12 a13 a14 H1 a20 a21 a22 a23 a24 H2
  have hB := hB'
  clear hB'
  have n3_1 : w.heap.size < w3.heap.size := V1.1
  have n3_2 : (w.heap.size + 1) < w3.heap.size := V2.1
  have n3_3 : w2.heap.size < w3.heap.size := V3.1
  obtain ⟨a10, a11, a12, a13, a14⟩ := id V1
  obtain ⟨a20, a21, a22, a23, a24⟩ := id V2
  obtain ⟨a30, a31, a32, a33, a34⟩ := id V3
  have H1 := Lib.hid V1
  have H2 := Lib.hid V2
  have H3 := Lib.hid V3
  clear V1 V2 V3
  go_wp2_with fail
  refine ((C3 _).out).mono ?_
  rintro e w4 ⟨rfl, hb⟩
  have V1 := H1.out.box hb
  have V2 := H2.out.box hb
  have V3 := H3.out.box hb
  have V4 := pairI_box hb
  have hB' := below_nextb hB hb
  have VT := HT.out.box hb
  clear HT t0 t1 t2 t3
  obtain ⟨t0, t1, t2, t3⟩ := id VT
  have HT := Lib.hid VT
  clear VT
  clear hb hB a10 a11 a12 a13 a14 H1 a20 a21 a22 a23 a24 H2 a30 a31 a32 a33 a34 H3
  have hB := hB'
  clear hB'
  have n4_1 : w.heap.size < w4.heap.size := V1.1
  have n4_2 : (w.heap.size + 1) < w4.heap.size := V2.1
  have n4_3 : w2.heap.size < w4.heap.size := V3.1
  have n4_4 : w3.heap.size < w4.heap.size := V4.1
  obtain ⟨a10, a11, a12, a13, a14⟩ := id V1
  obtain ⟨a20, a21, a22, a23, a24⟩ := id V2
  obtain ⟨a30, a31, a32, a33, a34⟩ := id V3
  obtain ⟨a40, a41, a42, a43, a44⟩ := id V4
  have H1 := Lib.hid V1
  have H2 := Lib.hid V2
  have H3 := Lib.hid V3
  have H4 := Lib.hid V4
  clear V1 V2 V3 V4
  go_wp2_with fail
  refine ((D1 _).out).mono ?_
  rintro e w5 ⟨rfl, hb⟩
  have V1 := H1.out.box hb
  have V2 := H2.out.box hb
  have V3 := H3.out.box hb
  have V4 := H4.out.box hb
  have V5 := pairI_box hb
  have hB' := below_nextb hB hb
  have VT := HT.out.box hb
  clear HT t0 t1 t2 t3
  obtain ⟨t0, t1, t2, t3⟩ := id VT
  have HT := Lib.hid VT
  clear VT
  clear hb hB a10 a11 a12 a13 a14 H1 a20 a21 a22 a23 a24 H2 a30 a31 a32 a33 a34 H3 a40 a41 a42 a43 a44 H4
  have hB := hB'
  clear hB'
  obtain ⟨a10, a11, a12, a13, a14⟩ := id V1
  obtain ⟨a20, a21, a22, a23, a24⟩ := id V2
  obtain ⟨a30, a31, a32, a33, a34⟩ := id V3
  obtain ⟨a40, a41, a42, a43, a44⟩ := id V4
  obtain ⟨a50, a51, a52, a53, a54⟩ := id V5
  have H1 := Lib.hid V1
  have H2 := Lib.hid V2
  have H3 := Lib.hid V3
  have H4 := Lib.hid V4
  have H5 := Lib.hid V5
  clear V1 V2 V3 V4 V5
  go_wp2_with fail
  refine ((D2 _).out).mono ?_
  rintro e w6 ⟨rfl, hb⟩
  have V1 := H1.out.step hb
  have V2 := H2.out.step hb
  have V3 := H3.out.step hb
  have V4 := H4.out.step hb
  have V5 := H5.out.step hb
  have hB' := below_next hB hb
  have VT := HT.out.step hb
  clear HT t0 t1 t2 t3
  obtain ⟨t0, t1, t2, t3⟩ := id VT
  have HT := Lib.hid VT
  clear VT
  clear hb hB a10 a11 a12 a13 a14 H1 a20 a21 a22 a23 a24 H2 a30 a31 a32 a33 a34 H3 a40 a41 a42 a43 a44 H4 a50 a51 a52 a53 a54 H5
  have hB := hB'
  clear hB'
  obtain ⟨a10, a11, a12, a13, a14⟩ := id V1
  obtain ⟨a20, a21, a22, a23, a24⟩ := id V2
  obtain ⟨a30, a31, a32, a33, a34⟩ := id V3
  obtain ⟨a40, a41, a42, a43, a44⟩ := id V4
  obtain ⟨a50, a51, a52, a53, a54⟩ := id V5
  have H1 := Lib.hid V1
  have H2 := Lib.hid V2
  have H3 := Lib.hid V3
  have H4 := Lib.hid V4
  have H5 := Lib.hid V5
  clear V1 V2 V3 V4 V5
  go_wp2_with fail
  refine ((D3 _).out).mono ?_
  rintro e w7 ⟨rfl, hb⟩
  have V1 := H1.out.step hb
  have V2 := H2.out.step hb
  have V3 := H3.out.step hb
  have V4 := H4.out.step hb
  have V5 := H5.out.step hb
  have hB' := below_next hB hb
  have VT := HT.out.step hb
  clear HT t0 t1 t2 t3
  obtain ⟨t0, t1, t2, t3⟩ := id VT
  have HT := Lib.hid VT
  clear VT
  clear hb hB a10 a11 a12 a13 a14 H1 a20 a21 a22 a23 a24 H2 a30 a31 a32 a33 a34 H3 a40 a41 a42 a43 a44 H4 a50 a51 a52 a53 a54 H5
  have hB := hB'
  clear hB'
  obtain ⟨a10, a11, a12, a13, a14⟩ := id V1
  obtain ⟨a20, a21, a22, a23, a24⟩ := id V2
  obtain ⟨a30, a31, a32, a33, a34⟩ := id V3
  obtain ⟨a40, a41, a42, a43, a44⟩ := id V4
  obtain ⟨a50, a51, a52, a53, a54⟩ := id V5
  have H1 := Lib.hid V1
  have H2 := Lib.hid V2
  have H3 := Lib.hid V3
  have H4 := Lib.hid V4
  have H5 := Lib.hid V5
  clear V1 V2 V3 V4 V5
  go_wp2_with fail
  refine ((D4 _).out).mono ?_
  rintro e w8 ⟨rfl, hb⟩
  have V1 := H1.out.step hb
  have V2 := H2.out.step hb
  have V3 := H3.out.step hb
  have V4 := H4.out.step hb
  have V5 := H5.out.step hb
  have hB' := below_next hB hb
  have VT := HT.out.step hb
  clear HT t0 t1 t2 t3
  obtain ⟨t0, t1, t2, t3⟩ := id VT
  have HT := Lib.hid VT
  clear VT
  clear hb hB a10 a11 a12 a13 a14 H1 a20 a21 a22 a23 a24 H2 a30 a31 a32 a33 a34 H3 a40 a41 a42 a43 a44 H4 a50 a51 a52 a53 a54 H5
  have hB := hB'
  clear hB'
  obtain ⟨a10, a11, a12, a13, a14⟩ := id V1
  obtain ⟨a20, a21, a22, a23, a24⟩ := id V2
  obtain ⟨a30, a31, a32, a33, a34⟩ := id V3
  obtain ⟨a40, a41, a42, a43, a44⟩ := id V4
  obtain ⟨a50, a51, a52, a53, a54⟩ := id V5
  have H1 := Lib.hid V1
  have H2 := Lib.hid V2
  have H3 := Lib.hid V3
  have H4 := Lib.hid V4
  have H5 := Lib.hid V5
  clear V1 V2 V3 V4 V5
  go_wp2_with fail
  go_quiet (fail)
  obtain ⟨Z, hZ⟩ : ∃ Z, w8.drewN nq = Z := ⟨_, rfl⟩
  rw [hZ]
  have bZ : Below w8.heap.size w8 Z := by rw [← hZ]; exact below_drawn w8 nq
  have V1 := H1.out.step bZ
  have V2 := H2.out.step bZ
  have V3 := H3.out.step bZ
  have V4 := H4.out.step bZ
  have V5 := H5.out.step bZ
  have VT := HT.out.step bZ
  have hB' := below_next hB bZ
  clear bZ hZ hB HT t0 t1 t2 t3 a10 a11 a12 a13 a14 H1 a20 a21 a22 a23 a24 H2 a30 a31 a32 a33 a34 H3 a40 a41 a42 a43 a44 H4 a50 a51 a52 a53 a54 H5
  have hB := hB'
  clear hB'
  obtain ⟨a10, a11, a12, a13, a14⟩ := id V1
  obtain ⟨a20, a21, a22, a23, a24⟩ := id V2
  obtain ⟨a30, a31, a32, a33, a34⟩ := id V3
  obtain ⟨a40, a41, a42, a43, a44⟩ := id V4
  obtain ⟨a50, a51, a52, a53, a54⟩ := id V5
  have H1 := Lib.hid V1
  have H2 := Lib.hid V2
  have H3 := Lib.hid V3
  have H4 := Lib.hid V4
  have H5 := Lib.hid V5
  obtain ⟨t0, t1, t2, t3⟩ := id VT
  have HT := Lib.hid VT
  clear VT V1 V2 V3 V4 V5
  go_wp2_with fail
  refine ((D5 _).out).mono ?_
  rintro e w9 ⟨rfl, hb⟩
  have V1 := H1.out.step hb
  have V2 := H2.out.step hb
  have V3 := H3.out.step hb
  have V4 := H4.out.step hb
  have V5 := H5.out.step hb
  have hB' := below_next hB hb
  clear hb hB a10 a11 a12 a13 a14 H1 a20 a21 a22 a23 a24 H2 a30 a31 a32 a33 a34 H3 a40 a41 a42 a43 a44 H4 a50 a51 a52 a53 a54 H5
  have hB := hB'
  clear hB'
  obtain ⟨a10, a11, a12, a13, a14⟩ := id V1
  obtain ⟨a20, a21, a22, a23, a24⟩ := id V2
  obtain ⟨a30, a31, a32, a33, a34⟩ := id V3
  obtain ⟨a40, a41, a42, a43, a44⟩ := id V4
  obtain ⟨a50, a51, a52, a53, a54⟩ := id V5
  have H1 := Lib.hid V1
  have H2 := Lib.hid V2
  have H3 := Lib.hid V3
  have H4 := Lib.hid V4
  have H5 := Lib.hid V5
  clear V1 V2 V3 V4 V5
  go_wp2_with fail
  refine ((D6 _).out).mono ?_
  rintro e w10 ⟨rfl, hb⟩
  have V1 := H1.out.step hb
  have V2 := H2.out.step hb
  have V3 := H3.out.step hb
  have V4 := H4.out.step hb
  have V5 := H5.out.step hb
  have hB' := below_next hB hb
  clear hb hB a10 a11 a12 a13 a14 H1 a20 a21 a22 a23 a24 H2 a30 a31 a32 a33 a34 H3 a40 a41 a42 a43 a44 H4 a50 a51 a52 a53 a54 H5
  have hB := hB'
  clear hB'
  obtain ⟨a10, a11, a12, a13, a14⟩ := id V1
  obtain ⟨a20, a21, a22, a23, a24⟩ := id V2
  obtain ⟨a30, a31, a32, a33, a34⟩ := id V3
  obtain ⟨a40, a41, a42, a43, a44⟩ := id V4
  obtain ⟨a50, a51, a52, a53, a54⟩ := id V5
  have H1 := Lib.hid V1
  have H2 := Lib.hid V2
  have H3 := Lib.hid V3
  have H4 := Lib.hid V4
  have H5 := Lib.hid V5
  clear V1 V2 V3 V4 V5
  go_wp2_with fail
  refine (awake_any _ (HST.out.next hB)).mono ?_
  rintro e wz ⟨rfl, hb⟩
  have hF := below_next hB hb
  go_wp2
  go_ret
  exact ⟨rfl, hF⟩

theorem lawCombines_any (l h m k b0 b1 b2 : Int) (w : World) (hst : St w) (q0 : 0 ≤ b0 ∧ b0 ≤ 65535) (q1 : 0 ≤ b1 ∧ b1 ≤ 65535) (q2 : 0 ≤ b2 ∧ b2 ≤ 65535) :
    Calls Tryd.prog 8 #[.agg #[.int .i64 l, .int .i64 h], .agg #[.int .i64 m, .int .i64 k], .agg #[.int .u16 b0, .int .u16 b1, .int .u16 b2]] w fun e w' => e = .returned (.bool true) ∧ Below w.heap.size w w' := by
  rcases Tm.add_cases l h m k with ⟨hr, hadd, hc⟩ | ⟨_, hadd⟩
  · exact lawCombines_good l h m k b0 b1 b2 w hst hr hadd hc q0 q1 q2
  · exact lawCombines_bad l h m k b0 b1 b2 w hst hadd

end Go.Proofs.YtgblodnggeabjabDoor
