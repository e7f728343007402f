/- The contract of Rename of package truth. -/
import Derived.Test.YtmmcakeedejbnaaDoorVf
import Derived.Shelf.RegionOpen
namespace Go.Proofs.YtmmcakeedejbnaaDoor
open Go.RowKit Go.Shelf
attribute [local go_sem] Oper.semAt_some

theorem TabI.kept {W W' : World} {row : Option Nat} {g : Nat} {n : Int} {b : Nat} (h : TabI W g n b) (hg : W.grownBy W' row) (hr : ∀ r, row = some r → ∃ o : Obj, W.heap[r]? = some o ∧ o.isCells = false) : TabI W' g n b := by
  obtain ⟨h0, h1, h2, h3, h4⟩ := h
  have c := cell_kept h1 hg hr
  exact ⟨World.block_lt_of_cell? W' ⟨g, 0, none⟩ c, c, cell_kept h2 hg hr, (frozen_kept h1 hg hr).trans h3, (frozen_kept h2 hg hr).trans h4⟩
/-- What the loop of Rename has. -/
structure Ren (T B n b : Nat) (ps : List Nat) (sl : Value) (x : Nat) (w W : World) : Prop where
  tab : ∃ m, Tt.high b x m ∧ TabI W B n (Tt.acc ps n b m)
  ord : W.cell? ⟨T + 1, 0, none⟩ = some sl
  res : TabI W (T + 2) 0 0
  bel : Below T w W
theorem Ren.kept {T B n b : Nat} {ps : List Nat} {sl : Value} {x : Nat} {w W W' : World} {row : Option Nat} (h : Ren T B n b ps sl x w W) (hg : W.grownBy W' row) (hr : ∀ r, row = some r → ∃ o : Obj, W.heap[r]? = some o ∧ o.isCells = false) (hb : Below T w W') : Ren T B n b ps sl x w W' := by
  obtain ⟨⟨m, h1, h2⟩, h3, h4, h5⟩ := h
  exact ⟨⟨m, h1, h2.kept hg hr⟩, cell_kept h3 hg hr, h4.kept hg hr, hb⟩
theorem Ren.other {T B n b C : Nat} {ps : List Nat} {sl : Value} {x : Nat} {w W : World} (v : Value) (h : Ren T B n b ps sl x w W) (h1 : C ≠ B) (h2 : C ≠ T + 1) (h3 : C ≠ T + 2) (h4 : T ≤ C) : Ren T B n b ps sl x w (W.setCell ⟨C, 0, none⟩ v) := by
  obtain ⟨⟨m, k1, k2⟩, k3, k4, k5⟩ := h
  exact ⟨⟨m, k1, k2.other v h1⟩, (World.cell?_setCell_other (w := W) (v := v) (a := ⟨C, 0, none⟩) (b := ⟨T + 1, 0, none⟩) (fun e => h2 (congrArg Addr.block e))).trans k3, k4.other v h3, k5.setCell (p := ⟨C, 0, none⟩) h4 v⟩

theorem i64_or64 : ∀ d, d < 64 → ∀ e, e < 64 → bits .or .i64 ((d : Nat) : Int) ((e : Nat) : Int) = ((d ||| e : Nat) : Int) := by decide +kernel
theorem dev_step (d y i p : Nat) (hd : d < 64) (hy : y < 64) (hp : p < 6) : bits .or .i64 (d : Int) (wrap64 (bits .and .i64 ((y : Int) / 2 ^ i) 1 * 2 ^ p)) = ((d ||| (y.testBit i).toNat * 2 ^ p : Nat) : Int) := by
  have e : ((y : Int) / 2 ^ i) = ((y / 2 ^ i : Nat) : Int) := by simp
  have e2 : y / 2 ^ i % 2 = (y.testBit i).toNat := by
    rw [← Tt.bit_one]
    rcases Nat.mod_two_eq_zero_or_one (y / 2 ^ i) with h | h <;> rw [h] <;> rfl
  rw [e, i64_one _ (Nat.lt_of_le_of_lt (Nat.div_le_self _ _) hy), e2]
  have e3 : (((y.testBit i).toNat : Nat) : Int) * 2 ^ p = (((y.testBit i).toNat * 2 ^ p : Nat) : Int) := by simp
  have e4 : (y.testBit i).toNat * 2 ^ p < 64 := by
    have h1 : 2 ^ p ≤ 2 ^ 5 := Nat.pow_le_pow_right (by omega) (by omega)
    cases y.testBit i <;> simp <;> omega
  rw [e3]
  generalize (y.testBit i).toNat * 2 ^ p = q at *
  have e5 : wrap64 (q : Int) = (q : Int) := by unfold wrap64; omega
  rw [e5]
  exact i64_or64 d hd q e4

set_option maxRecDepth 100000 in
set_option maxHeartbeats 2000000 in
theorem tRename_ok (n b : Nat) (os : List Int) (v : Value) (w : World) (hn : n ≤ 6) (hb : b < 2 ^ 2 ^ n) (hst : St w) (hs : SeesI w v os) (hO : Tt.ordE n os = 0) :
    Calls Tryd.prog 37 #[.agg #[.int .i64 n, .int .u64 b], v] w fun e w' => e = .returned (.tuple #[.agg #[.int .i64 n, .int .u64 ((Tt.mk n (fun x => b.testBit (Tt.refY (os.map Int.toNat) x n)) : Nat) : Int)], .int .i64 0]) ∧ Below w.heap.size w w' := by
  have hb64 := Tt.w64 hn hb
  obtain ⟨hP, hos⟩ := Tt.ord_of hO
  have CC := fun W => Lib.hid (tCheck_any n b W hb64)
  rw [Tt.chk_ok hn hb] at CC
  have CO := fun W (h : Below w.heap.size w W) => Lib.hid (tOrd_any n os v W hn (hs.below h (Nat.le_refl _)))
  rw [hO] at CO
  obtain ⟨ao, cap, rfl, hc1, hc2, hC⟩ := hs
  have hln : os.length = n := by have := hP.len; simpa using this
  rw [hln] at CO hc1 hC
  rw [hln]
  have HC := Lib.hid hC
  have HST := Lib.hid hst
  have HOS := Lib.hid hos
  generalize os.map Int.toNat = ps at *
  have HEND := Lib.hid (fun m (hH : Tt.high b 0 m) => Tt.acc_end hP hH hb)
  have HP := Lib.hid hP
  generalize Tt.mk n (fun x => b.testBit (Tt.refY ps x n)) = r at *
  clear hC hst hos hP hO hln
  refine (callsIn_wide (n := 9)).1 ?_
  refine callsIn_of_wp_marks Tryd.func37 rfl trivial ?_ rfl
  simp only [Tryd.ntmps37, List.size_toArray, List.length_cons, List.length_nil, Nat.reduceAdd, Nat.reduceSub, Array.replicate_succ, Array.replicate_zero, List.push_toArray, List.append_toArray, List.nil_append, List.cons_append]
  obtain ⟨P0, L1, z1⟩ := tab1_new w n b 24
  have hX3 : ∃ X, ((w.alloc (.cells #[.int .i64 n, .int .u64 b] 24)).alloc (.cells #[.slice ao n cap] 36)).alloc (.cells #[.int .i64 0, .int .u64 0] 24) = X := ⟨_, rfl⟩
  obtain ⟨X, hX⟩ := hX3
  have LX : Below w.heap.size w X := by rw [← hX]; exact (L1.alloc (by simp) _).alloc (by simp; omega) _
  have sX : X.heap.size = w.heap.size + 3 := by rw [← hX]; simp
  have PX : TabI X w.heap.size n b := by rw [← hX]; exact P0.below (by simp) (((Below.refl _ _).alloc (Nat.le_refl _) _).alloc (by simp) _)
  have OX : X.cell? ⟨w.heap.size + 1, 0, none⟩ = some (.slice ao n cap) := by
    rw [← hX]
    have h := ((Below.refl ((w.alloc (.cells #[.int .i64 n, .int .u64 b] 24)).alloc (.cells #[.slice ao n cap] 36)).heap.size ((w.alloc (.cells #[.int .i64 n, .int .u64 b] 24)).alloc (.cells #[.slice ao n cap] 36))).alloc (Nat.le_refl _) (.cells #[.int .i64 0, .int .u64 0] 24)).cell (p := ⟨w.heap.size + 1, 0, none⟩) (by simp)
    refine h.trans ?_
    have h2 := World.alloc_heap_new (w.alloc (.cells #[.int .i64 n, .int .u64 b] 24)) (.cells #[.slice ao n cap] 36)
    rw [World.size_alloc] at h2
    exact Boxed.cell (t := 36) h2
  have RX : TabI X (w.heap.size + 2) 0 0 := by
    rw [← hX]
    have := tabI_new ((w.alloc (.cells #[.int .i64 n, .int .u64 b] 24)).alloc (.cells #[.slice ao n cap] 36)) 0 0 24
    rw [World.size_alloc, World.size_alloc] at this
    exact this
  clear P0 L1 z1
  obtain ⟨p0, p1, p2, p3, p4⟩ := id PX
  gi_wp2_with fail
  refine ⟨trivial, ?_⟩
  gi_at_call 19
  refine (callsIn_wide.2 (CC _).out).mono ?_
  rintro e w1 ⟨rfl, hb1⟩
  have zb1 := hb1.size
  have P1 := PX.below (by omega) hb1
  have O1 := (hb1.cell (p := ⟨w.heap.size + 1, 0, none⟩) (by show w.heap.size + 1 < _; omega)).trans OX
  have R1 := RX.below (by omega) hb1
  have Lw1 := LX.trans (hb1.mono (by omega))
  clear hb1 PX OX RX LX p0 p1 p2 p3 p4 hX
  obtain ⟨p0, p1, p2, p3, p4⟩ := id P1
  gi_wp2_with fail
  refine ⟨trivial, ?_⟩
  gi_at_call 70
  refine (callsIn_wide.2 (CO _ Lw1).out).mono ?_
  rintro e w2 ⟨rfl, hb2⟩
  have zb2 := hb2.size
  have P2 := P1.below (by omega) hb2
  have O2 := (hb2.cell (p := ⟨w.heap.size + 1, 0, none⟩) (by show w.heap.size + 1 < _; omega)).trans O1
  have R2 := R1.below (by omega) hb2
  have Lw2 := Lw1.trans (hb2.mono (by omega))
  clear hb2 P1 O1 R1 Lw1 p0 p1 p2 p3 p4
  obtain ⟨p0, p1, p2, p3, p4⟩ := id P2
  gi_wp2_with fail
  refine ⟨trivial, ?_⟩
  gi_at_call 54
  refine (callsIn_wide.2 (tPoints_any b _)).mono ?_
  rintro e w6 ⟨rfl, hw6⟩
  gi_wp2
  have hB6 : Below w2.heap.size w2 ((w2.alloc (.cells #[.int .i64 n, .int .u64 0] 24)).alloc (.cells #[.int .u64 (b : Int)] 22)) := ((Below.refl _ _).alloc (Nat.le_refl _) _).alloc (by simp) _
  have s6 : ((w2.alloc (.cells #[.int .i64 n, .int .u64 0] 24)).alloc (.cells #[.int .u64 (b : Int)] 22)).heap.size = w2.heap.size + 2 := by simp
  have T6 : TabI ((w2.alloc (.cells #[.int .i64 n, .int .u64 0] 24)).alloc (.cells #[.int .u64 (b : Int)] 22)) w2.heap.size n 0 := (tabI_new w2 n 0 24).below (by simp) ((Below.refl _ _).alloc (Nat.le_refl _) _)
  have S2 := HST.out.next Lw2
  have C6 : Cor (w2.heap.size + 1) b ((w2.alloc (.cells #[.int .i64 n, .int .u64 0] 24)).alloc (.cells #[.int .u64 (b : Int)] 22)) :=
    ⟨by simp, by simp, tzTab_below S2.tz hB6 S2.h1, by have := S2.h1; omega⟩
  have O6 := (hB6.cell (p := ⟨w.heap.size + 1, 0, none⟩) (by show w.heap.size + 1 < _; omega)).trans O2
  have R6 := R2.below (by omega) hB6
  have Lw6 := Lw2.trans (hB6.mono (by omega))
  have hw0 : w.heap.size + 3 ≤ w2.heap.size := by omega
  clear hB6 O2 R2 Lw2 P2 p0 p1 p2 p3 p4 hw6 S2 CC CO
  generalize (w2.alloc (.cells #[.int .i64 n, .int .u64 0] 24)).alloc (.cells #[.int .u64 (b : Int)] 22) = V at *
  generalize hG : w2.heap.size = G at *
  clear hG zb1 zb2 sX
  refine range_pts 9 (by omega) (G + 1) b rfl (by omega) C6 (fun x W => Ren w.heap.size G n b ps (.slice ao n cap) x w W) ?hI ?hIs ⟨⟨0, Tt.high_start b, T6⟩, O6, R6, Lw6⟩
    (fun v => { tmps := #[.agg #[.int .i64 n, .int .u64 b], .slice ao n cap, .pointer (some ⟨w.heap.size, 0, none⟩), .pointer (some ⟨w.heap.size + 1, 0, none⟩), .pointer (some ⟨w.heap.size + 1 + 1, 0, none⟩), .int .i64 0,
      .int .i64 0, .int .i64 0, .pointer (some ⟨G, 0, none⟩), .int .i64 (v : Int), undef, undef, undef, .agg #[.int .i64 n, .int .u64 b],
      .int .i64 0, .int .i64 0, .bool false, undef, undef, .slice ao n cap, .pointer (some ⟨w.heap.size, 0, none⟩), .int .i64 n, .int .i64 0,
      .int .i64 0, .bool false, undef, undef, .pointer (some ⟨w.heap.size, 0, none⟩), .int .i64 n, .agg #[.int .i64 n, .int .u64 0],
      .pointer (some ⟨w.heap.size, 1, none⟩), .int .u64 b, .func (.func 79) #[] #[.pointer (some ⟨G + 1, 0, none⟩)], .int .i64 (v : Int), undef, undef, undef, undef, undef, undef, undef, undef, undef, undef, undef, undef, undef, undef, undef, undef, undef, undef, undef, undef, undef, undef, undef], defers := [] }) ?assign ?body ?done
  case hI => exact fun x A C row hs hg hr => hs.kept hg (fun r e => (hr r e).2) ((ownFrom_below (w₀ := w) (n₀ := w.heap.size) (Nat.le_refl _) (by omega)) x A C row hs.bel hg hr)
  case hIs => exact fun x W v hs => hs.other v (by omega) (by omega) (by omega) (by omega)
  case assign =>
    intro l v W K hK
    gi_wp2
    exact hK
  case body =>
    rintro l x W hx0 hx hlt hC ⟨⟨m, hH, hT⟩, hOrd, hRes, hBel⟩
    have hlow := Tt.high_low hH hx0 hx
    have hyn : Lib.ctz 64 x < 64 := Tt.low_lt hx0 hx (k := 64) (by omega)
    have HN := Lib.hid (Tt.high_next hH hx0 hx)
    have HA := Lib.hid (Tt.acc_next (ps := ps) (n := n) hH hx0 hx)
    have hl64 : Tt.acc ps n b m < 2 ^ 64 := Tt.w64 hn (Tt.acc_lt HP.out)
    obtain ⟨t0, t1, t2, t3, t4⟩ := id hT
    obtain ⟨r0, r1, r2, r3, r4⟩ := id hRes
    generalize hy : Lib.ctz 64 x = y at *
    clear hy
    gi_wp2
    gi_loopw [10, 36] (fun s10 s36 wr => ∃ i : Nat, i ≤ n ∧ s10 = .int .i64 ((Tt.devX ps y i : Nat) : Int) ∧ s36 = .int .i64 i ∧ wr = W) (fun _ s36 _ => n - (intOf s36).toNat)
    case atStart => exact ⟨0, Nat.zero_le _, rfl, rfl, rfl⟩
    case round =>
      obtain ⟨i, hi, rfl, rfl, rfl⟩ := hrel
      by_cases hin : i < n
      · obtain ⟨bo, off, rfl, hb1, hb2⟩ := HC.out (by omega)
        have c0 := (hBel.cell (p := ⟨bo, off + i, none⟩) hb1).trans (hb2 i hin)
        have hpv : os.getD i 0 = ((ps.getD i 0 : Nat) : Int) := by
          rw [HOS.out]
          simp only [List.getD_eq_getElem?_getD, List.getElem?_map]
          cases ps[i]? <;> simp
        rw [hpv] at c0
        have hpn := HP.out.at hin
        clear hb2 hpv
        obtain ⟨p, hp⟩ : ∃ p, ps.getD i 0 = p := ⟨_, rfl⟩
        rw [hp] at c0 hpn
        have HPV := Lib.hid hp
        clear hp
        have hd64 : Tt.devX ps y i < 64 := Nat.lt_of_lt_of_le (Tt.devX_lt HP.out y (by omega)) (Tt.size_le hn)
        have hst := dev_step (Tt.devX ps y i) y i p hd64 hyn (by omega)
        have HE : Hid (Tt.devX ps y (i + 1) = Tt.devX ps y i ||| (y.testBit i).toNat * 2 ^ p) := Lib.hid (by rw [← HPV.out]; rfl)
        rw [← HE.out] at hst
        gi_wp2
        refine ⟨⟨i + 1, by omega, rfl, by go_num, trivial⟩, by simp [intOf]; omega⟩
      · obtain rfl : i = n := by omega
        have hd64 : Tt.devX ps y i < 64 := Nat.lt_of_lt_of_le (Tt.devX_lt HP.out y (by omega)) (Tt.size_le hn)
        have hor := or_bit (Tt.acc ps i b m) (Tt.devX ps y i) hl64 hd64
        rw [← HA.out] at hor
        have hmx : Tryd.prog.follows .mixedOrders = true := by kernel_rfl
        have HT := Lib.hid hT
        have HR := Lib.hid hRes
        have HC2 := Lib.hid hC
        have HB := Lib.hid hBel
        have HO := Lib.hid hOrd
        clear hT hRes hC hBel hOrd r0 r1 r2 r3 r4
        gi_wp2
        gi_region_with_o (fail)
        all_goals gi_wp2
        all_goals (try go_bits)
        all_goals
          exact ⟨((KeepsOthers.setCell _ _ _).trans (KeepsOthers.drew _)).from _, HC2.out.other (by omega) (by have := HC2.out.2.2.2; omega),
            ⟨⟨y + 1, HN.out, (HT.out.setBits _).drew⟩, (World.cell?_setCell_other (w := wr) (v := .int .u64 _) (a := ⟨G, 1, none⟩) (b := ⟨w.heap.size + 1, 0, none⟩) (fun e => by have := congrArg Addr.block e; simp at this; omega)).trans HO.out, (HR.out.other (g' := G) (j := 1) _ (by omega)).drew, (HB.out.setCell (p := ⟨G, 1, none⟩) (by show w.heap.size ≤ G; omega) _).drew⟩⟩
  case done =>
    rintro W hlt hC ⟨⟨m, hH, hT⟩, hOrd, hRes, hBel⟩ hK
    have HE := Lib.hid (HEND.out m hH)
    obtain ⟨t0, t1, t2, t3, t4⟩ := id hT
    obtain ⟨r0, r1, r2, r3, r4⟩ := id hRes
    rw [HE.out] at t2
    clear hT hRes hOrd hC
    gi_wp2
    have hK2 : ((W.setCell ⟨w.heap.size + 1 + 1, 0, none⟩ (.int .i64 n)).setCell ⟨w.heap.size + 1 + 1, 1, none⟩ (.int .u64 r)).heap[V.heap.size]? = some (.deferred (some [])) := ((KeepsOthers.setCell _ _ _).trans (KeepsOthers.setCell _ _ _)).same _ _ hK rfl
    refine ⟨by simp, .inl ⟨_, _, rfl, run_takeDeferred hK2, ?_⟩⟩
    have hg := grownBy_putObj' ((W.setCell ⟨w.heap.size + 1 + 1, 0, none⟩ (.int .i64 n)).setCell ⟨w.heap.size + 1 + 1, 1, none⟩ (.int .u64 r)) V.heap.size (.deferred none)
    have k0 : ((W.setCell ⟨w.heap.size + 1 + 1, 0, none⟩ (.int .i64 n)).setCell ⟨w.heap.size + 1 + 1, 1, none⟩ (.int .u64 r)).cell? ⟨w.heap.size + 1 + 1, 0, none⟩ = some (.int .i64 n) := by simp [go_sem, r1]
    have k1 : ((W.setCell ⟨w.heap.size + 1 + 1, 0, none⟩ (.int .i64 n)).setCell ⟨w.heap.size + 1 + 1, 1, none⟩ (.int .u64 r)).cell? ⟨w.heap.size + 1 + 1, 1, none⟩ = some (.int .u64 r) := by simp [go_sem, r2]
    have q0 := cell_kept k0 hg (fun r e => by cases e; exact ⟨_, hK2, rfl⟩)
    have q1 := cell_kept k1 hg (fun r e => by cases e; exact ⟨_, hK2, rfl⟩)
    have hB2 := (hBel.setCell (p := ⟨w.heap.size + 1 + 1, 0, none⟩) (by show w.heap.size ≤ w.heap.size + 1 + 1; omega) (.int .i64 n)).setCell (p := ⟨w.heap.size + 1 + 1, 1, none⟩) (by show w.heap.size ≤ w.heap.size + 1 + 1; omega) (.int .u64 r)
    refine ⟨.tuple #[.agg #[.int .i64 n, .int .u64 r], .int .i64 0], ?_, rfl, hB2.trans (belowK_b (w := w) (Nat.le_refl _) _ _ _ _ (by omega) hK2 rfl rfl)⟩
    simp [results, Tryd.results37, go_sem, q0, q1]

end Go.Proofs.YtmmcakeedejbnaaDoor
