/- Ends of package sequence: its call. slices.Contains at ends; rows of ends as arrays, and rows of integers, that grow in a round. -/
import Derived.Test.YtjpbccpleflkhaaDoorG10
import Derived.Test.YtjpbccpleflkhaaDoorG08
namespace Sq
open Sk
theorem Rt.okS {n : Int} {L : List Stp} (h : Rt n L) : Upto L L.length :=
  ⟨Nat.le_refl _, fun j hj => okS_of (by have := h.n6; omega) (h.stp j hj), fun h => by omega⟩
/-- What Ends answers. -/
def endV (n : Int) (L : List Stp) (k : Int) : List Bool × Int := if chk n L = 0 then (if 0 ≤ k ∧ k ≤ (L.length : Int) then (bh n.toNat L k.toNat, 0) else ([], 2)) else ([], chk n L)
end Sq
namespace Go.Proofs.YtjpbccpleflkhaaDoor
open Go.RowKit Go.Shelf
attribute [local go_sem] Oper.semAt_some
theorem BoxE.seesN {W : World} {g : Nat} {E : List Bool} (h : BoxE W g E) (hl : E.length = 6) {n : Nat} (hn : n ≤ 6) : SeeB W (.slice (some ⟨g, 0, none⟩) n 6) (E.take n) := by
  have e : (E.take n).length = n := by rw [List.length_take]; omega
  refine ⟨_, 6, by rw [e], by omega, by omega, fun _ => ⟨g, 0, rfl, h.1, fun i hi => ?_⟩⟩
  rw [Nat.zero_add, h.2.1 i (by omega), List.getD_eq_getElem?_getD, List.getD_eq_getElem?_getD, List.getElem?_take_of_lt (by omega)]
theorem RowB.off {B : Nat} {e : TypeId} {w w' : World} {v : Value} {l : List Bool} {row : Option Nat} (h : RowB B e w v l) (hg : w.grownBy w' row) (hr : ∀ r, row = some r → r < B) : RowB B e w' v l := by
  refine World.ownsRow.kept h hg ?_
  cases hv : v.ownBlock with
  | none => exact .inl rfl
  | some g => exact .inr fun e' => by have := (World.ownsRow.lt h g hv).1; have := hr g e'.symm; omega
theorem RowB.weak {B B' : Nat} {e : TypeId} {w : World} {v : Value} {l : List Bool} (h : RowB B e w v l) (hB : B' ≤ B) : RowB B' e w v l := by
  rcases h with ⟨h0, h | ⟨g, cap, cur, a, b, c⟩⟩
  · exact ⟨h0, .inl h⟩
  · exact ⟨h0, .inr ⟨g, cap, cur, a, Nat.le_trans hB b, c⟩⟩
theorem RowB.setc {B : Nat} {e : TypeId} {w : World} {v : Value} {l : List Bool} (h : RowB B e w v l) {a : Addr} (ha : a.block < B) (u : Value) : RowB B e (w.setCell a u) v l :=
  h.off (row := some a.block) ⟨rfl, rfl, rfl, by simp [World.setCell], fun k _ hk => Below.heap_setCell _ _ _ _ (fun e => hk (by rw [e]))⟩ (fun r e => by cases e; exact ha)
def EndP (q : List Bool × Int) (w : World) (e : Ending) (w' : World) : Prop := ∃ ao cap, e = .returned (.tuple #[.slice ao q.1.length cap, .int .i64 q.2]) ∧ SeeB w' (.slice ao q.1.length cap) q.1 ∧ Below w.heap.size w w'
/-- Between two rounds of Ends. -/
def EnI (n : Nat) (v : Value) (k : Int) (L : List Sk.Stp) (w : World) (pre : List (Sq.Ix L)) (W : World) : Prop :=
  (∀ x ∈ pre, (x.1 : Int) ≠ k) ∧ BoxP W w.heap.size (.int .i64 (n : Int)) v ∧ BoxW W (w.heap.size + 1) (.int .i64 k) ∧ BoxW W (w.heap.size + 2) (.slice none 0 0) ∧ BoxW W (w.heap.size + 3) (.int .i64 0) ∧ Below w.heap.size w W
/-- When a round has left. -/
def EnX (n : Nat) (k : Int) (L : List Sk.Stp) (w : World) (B : Nat) (c : Code) (pre : List (Sq.Ix L)) (W : World) : Prop :=
  c = .ret ∧ (∃ x ∈ pre, (x.1 : Int) = k) ∧ (∃ u, BoxW W (w.heap.size + 2) u ∧ RowB (B + 4) 4 W u (Sq.bh n L k.toNat)) ∧ BoxW W (w.heap.size + 3) (.int .i64 0) ∧ Below w.heap.size w W
theorem EnI.abR {n : Nat} {v : Value} {k : Int} {L : List Sk.Stp} {w : World} {B : Nat} (hB : w.heap.size + 4 ≤ B) : AbR B (EnI n v k L w) := fun pre W W' row ⟨h1, h2, h3, h4, h5, h6⟩ hg hr => by
  have hk : ∀ b, b < B → b < W.heap.size → W'.heap[b]? = W.heap[b]? := fun b hb hz => hg.block b hz (fun e => by have := hr b e.symm; omega)
  exact ⟨h1, h2.blk (hk _ (by omega) h2.1), h3.blk (hk _ (by omega) h3.1), h4.blk (hk _ (by omega) h4.1), h5.blk (hk _ (by omega) h5.1), h6.grown hg h6.size (fun r e => by have := hr r e; omega)⟩
theorem EnX.abR {n : Nat} {k : Int} {L : List Sk.Stp} {w : World} {B : Nat} (hB : w.heap.size + 4 ≤ B) (c : Code) : AbR B (EnX n k L w B c) := fun pre W W' row ⟨h1, h2, ⟨u, h3, h4⟩, h5, h6⟩ hg hr => by
  have hk : ∀ b, b < B → b < W.heap.size → W'.heap[b]? = W.heap[b]? := fun b hb hz => hg.block b hz (fun e => by have := hr b e.symm; omega)
  exact ⟨h1, h2, ⟨u, h3.blk (hk _ (by omega) h3.1), h4.off hg (fun r e => (hr r e).2)⟩, h5.blk (hk _ (by omega) h5.1), h6.grown hg h6.size (fun r e => by have := hr r e; omega)⟩
set_option maxHeartbeats 8000000 in
set_option maxRecDepth 100000 in
theorem qEnd_any (n : Int) (v : Value) (L : List Sk.Stp) (k : Int) (w : World) (hs : SeeT w v L) : Calls Tryd.prog 26 #[.agg #[.int .i64 n, v], .int .i64 k] w (EndP (Sq.endV n L k) w) := by
  have HS := Lib.hid hs
  obtain ⟨ao, cap, rfl, hcap1, hcap2, -⟩ := hs
  have CC := fun V (h : SeeT V (.slice ao L.length cap) L) => Lib.hid (qChk_any n (.slice ao L.length cap) L V h)
  obtain ⟨W0, hW0⟩ : ∃ W0, ((((w.alloc (.cells #[.int .i64 n, .slice ao L.length cap] 32)).alloc (.cells #[.int .i64 k] 3)).alloc (.cells #[.slice none 0 0] 49)).alloc (.cells #[.int .i64 0] 24)) = W0 := ⟨_, rfl⟩
  have hz0 : W0.heap.size = w.heap.size + 4 := by rw [← hW0]; simp
  have hB0 : Below w.heap.size w W0 := by rw [← hW0]; exact ((((allocB w _).alloc (by simp) _).alloc (by simp; omega) _).alloc (by simp; omega) _)
  have hPa : BoxP W0 w.heap.size (.int .i64 n) (.slice ao L.length cap) := by rw [← hW0]; exact (((boxP_new w _ _ _).1.step (allocB _ _)).step (allocB _ _)).step (allocB _ _)
  have hPb : BoxW W0 (w.heap.size + 1) (.int .i64 k) := by
    have h := boxW_new (w.alloc (.cells #[.int .i64 n, .slice ao L.length cap] 32)) (.int .i64 k) 3
    rw [World.size_alloc] at h
    rw [← hW0]; exact (h.step (allocB _ _)).step (allocB _ _)
  have hPc : BoxW W0 (w.heap.size + 2) (.slice none 0 0) := by
    have h := boxW_new ((w.alloc (.cells #[.int .i64 n, .slice ao L.length cap] 32)).alloc (.cells #[.int .i64 k] 3)) (.slice none 0 0) 49
    rw [World.size_alloc, World.size_alloc] at h
    rw [← hW0]; exact h.step (allocB _ _)
  have hPd : BoxW W0 (w.heap.size + 3) (.int .i64 0) := by
    have h := boxW_new (((w.alloc (.cells #[.int .i64 n, .slice ao L.length cap] 32)).alloc (.cells #[.int .i64 k] 3)).alloc (.cells #[.slice none 0 0] 49)) (.int .i64 0) 24
    rw [World.size_alloc, World.size_alloc, World.size_alloc] at h
    rw [← hW0]; exact h
  by_cases hc : Sq.chk n L = 0
  · rw [hc] at CC
    have hR := Sq.chk_ok hc
    obtain ⟨nn, rfl⟩ := Int.eq_ofNat_of_zero_le (show 0 ≤ n by have := hR.n1; omega)
    have hl64 := hR.l64
    have hn6 := hR.n6
    have HU := Lib.hid hR.okS
    have hve : Sq.endV (nn : Int) L k = if 0 ≤ k ∧ k ≤ (L.length : Int) then (Sq.bh nn L k.toNat, 0) else ([], 2) := by unfold Sq.endV; rw [if_pos hc]; rfl
    have HVE := Lib.hid hve
    have hn1 := hR.n1
    clear hc hR hve
    refine (callsIn_wide (n := 9)).1 ?_
    refine callsIn_of_wp_marks Tryd.func26 rfl trivial ?_ rfl
    simp only [Tryd.ntmps26, List.size_toArray, List.length_cons, List.length_nil, Nat.reduceAdd, Nat.reduceSub, Array.replicate_succ, Array.replicate_zero, List.push_toArray, List.append_toArray, List.nil_append, List.cons_append]
    have HPa := Lib.hid hPa
    obtain ⟨p0, p1, p2⟩ := hPa
    gi_wp2_with first
      | (refine ⟨trivial, ?_⟩; gi_at_call 21; refine (callsIn_wide.2 ((CC _ (HS.out.step hB0)).out)).mono ?_; rintro e w1 ⟨rfl, hb1⟩; have HB1 := Lib.hid hb1; have HP1 := Lib.hid (HPa.out.step hb1); obtain ⟨q0, q1, q2⟩ := HP1.out; clear hb1 p0 p1 p2)
      | (refine ⟨trivial, ?_⟩; gi_at_call 59; refine (callsIn_wide.2 (sSts_any _ _ _)).mono ?_; rintro e Z ⟨rfl, rfl⟩)
    obtain ⟨W1, hW1⟩ : ∃ W1, w1.alloc (.cells #[.int .i64 (nn : Int), .slice ao L.length cap] 32) = W1 := ⟨_, rfl⟩
    have hzz : w.heap.size + 4 ≤ w1.heap.size := by have := HB1.out.size; omega
    have hz1 : W1.heap.size = w1.heap.size + 1 := by rw [← hW1]; simp
    have hL1 : Below w1.heap.size w1 W1 := by rw [← hW1]; exact allocB _ _
    have hPg : BoxP W1 w1.heap.size (.int .i64 (nn : Int)) (.slice ao L.length cap) := by rw [← hW1]; exact (boxP_new w1 _ _ _).1
    have hbb := below_nxt HB1.out hL1
    have hbw := below_nxt hB0 hbb
    have hI0 : EnI nn (.slice ao L.length cap) k L w [] W1 := ⟨fun x h => by simp at h, HP1.out.step hL1, (hPb.step HB1.out).step hL1, (hPc.step HB1.out).step hL1, (hPd.step HB1.out).step hL1, hbw⟩
    rw [hW1]
    clear hW1 hPb hPc hPd hL1 q0 q1 q2 CC
    have HBW := Lib.hid hbw
    refine wpIn_rangeO (B := w1.heap.size + 1) hz1 rfl (by omega) (gf := 92) (lb := #[.pointer (some ⟨w1.heap.size, 0, none⟩)]) rfl trivial (enters_of Tryd.func92 (by kernel_rfl) rfl)
      (Below.refl _ _) (states_stops (nn : Int) (.slice ao L.length cap) L L.length w1.heap.size w.heap.size (w1.heap.size + 1) w W1 HS.out rfl hbw hz1 (by omega) (by omega) hPg.2.1 hPg.2.2 hl64 HU.out) (by rintro (h | h | h) <;> omega) (fun _ => rfl)
      (EnI nn (.slice ao L.length cap) k L w) (EnX nn k L w (w1.heap.size + 1)) (EnI.abR (by omega)) (EnX.abR (by omega)) hI0
      (fun x a' W => ∃ g, w1.heap.size + 5 ≤ g ∧ BoxE W g (Sq.bh 6 L x.1) ∧ a' = { tmps := #[.agg #[.int .i64 (nn : Int), .slice ao L.length cap], .int .i64 k, .pointer (some ⟨w.heap.size, 0, none⟩), .pointer (some ⟨w.heap.size + 1, 0, none⟩), .pointer (some ⟨w.heap.size + 1 + 1, 0, none⟩), .pointer (some ⟨w.heap.size + 1 + 1 + 1, 0, none⟩), .int .i64 0, .int .i64 (x.1 : Int), .pointer (some ⟨g, 0, none⟩), .agg #[.int .i64 (nn : Int), .slice ao L.length cap], .int .i64 0, .int .i64 0, .bool false, undef, .agg #[.int .i64 (nn : Int), .slice ao L.length cap], .func (.func 92) #[] #[.pointer (some ⟨w1.heap.size, 0, none⟩)], .int .i64 (x.1 : Int), Sq.E6 (Sq.bh 6 L x.1), undef, undef, undef, undef, undef, undef, undef], defers := [] }) ?hax ?assign ?body ?done ?stop
    case hax =>
      intro x a' u W W' row ⟨g, hg, hbe, he⟩ hgr hr
      exact ⟨g, hg, hbe.block (hgr.block g hbe.1 (fun e => by have := hr g e.symm; omega)), he⟩
    case assign =>
      intro pre x W K hi hsz hK
      have ez : ∀ T : Array Value, (#[16, 17].zip (Sq.ke L x)).foldl (fun (t : Array Value) (x : Nat × Value) => t.setIfInBounds x.1 x.2) T = (T.setIfInBounds 16 (.int .i64 (x.1 : Int))).setIfInBounds 17 (Sq.E6 (Sq.bh 6 L x.1)) := fun T => by simp [Sq.ke]
      simp only [ez]
      have hk := hK { tmps := #[.agg #[.int .i64 (nn : Int), .slice ao L.length cap], .int .i64 k, .pointer (some ⟨w.heap.size, 0, none⟩), .pointer (some ⟨w.heap.size + 1, 0, none⟩), .pointer (some ⟨w.heap.size + 1 + 1, 0, none⟩), .pointer (some ⟨w.heap.size + 1 + 1 + 1, 0, none⟩), .int .i64 0, .int .i64 (x.1 : Int), .pointer (some ⟨W.heap.size, 0, none⟩), .agg #[.int .i64 (nn : Int), .slice ao L.length cap], .int .i64 0, .int .i64 0, .bool false, undef, .agg #[.int .i64 (nn : Int), .slice ao L.length cap], .func (.func 92) #[] #[.pointer (some ⟨w1.heap.size, 0, none⟩)], .int .i64 (x.1 : Int), Sq.E6 (Sq.bh 6 L x.1), undef, undef, undef, undef, undef, undef, undef], defers := [] }
      have hel := Sq.bh_len 6 L x.1
      unfold Sq.E6 at hk ⊢
      generalize hE : Sq.bh 6 L x.1 = E at *
      have hE6 := six_eq hel
      generalize E.getD 0 false = b0 at *
      generalize E.getD 1 false = b1 at *
      generalize E.getD 2 false = b2 at *
      generalize E.getD 3 false = b3 at *
      generalize E.getD 4 false = b4 at *
      generalize E.getD 5 false = b5 at *
      have HK := Lib.hid hk
      have HE6 := Lib.hid hE6
      clear hk hE hE6 hel hK
      gi_wp2
      refine HK.out _ (Rec2.below (allocB _ _) (by omega)) (KpS.below (allocB _ _) (fun b hb => by rcases hb with h | h | h <;> omega)) (by simp; omega) ((EnI.abR (B := w1.heap.size + 1) (by omega)).alloc _ hi) ⟨W.heap.size, by omega, ?_, rfl⟩
      rw [HE6.out]; exact boxE_new _ _ _ _ _ _ _ _
    case body =>
      rintro pre x a' W hsz ⟨hi1, hi2, hi3, hi4, hi5, hi6⟩ ⟨g, hg, hbe, rfl⟩ hlen
      have HI1 := Lib.hid hi1
      have HI2 := Lib.hid hi2
      have HI3 := Lib.hid hi3
      have HI4 := Lib.hid hi4
      have HI5 := Lib.hid hi5
      have HI6 := Lib.hid hi6
      have HSB := Lib.hid (hbe.seesN (Sq.bh_len 6 L x.1) (n := nn) (by omega))
      have hcut := Sq.bh_cut (n := nn) (m := 6) (by omega) L x.1
      rw [← hcut] at HSB
      have HLn := Lib.hid (Sq.bh_len nn L x.1)
      obtain ⟨p0, p1, p2⟩ := hi2
      obtain ⟨r0, r1, r2⟩ := hi3
      obtain ⟨s0, s1, s2⟩ := hi4
      obtain ⟨t0, t1, t2⟩ := hi5
      obtain ⟨z0, -, -⟩ := hbe
      clear hi1 hi6 hcut
      by_cases hk : (x.1 : Int) = k
      · have hkz : ((x.1 : Int) == k) = true := by rw [hk]; simp
        have HK : Hid (Sq.bh nn L x.1 = Sq.bh nn L k.toNat) := Lib.hid (by rw [← hk, Int.toNat_natCast])
        have HK2 := Lib.hid hk
        have CCl := fun V (h : SeeB V (.slice (some ⟨g, 0, none⟩) nn 6) (Sq.bh nn L x.1)) => Lib.hid (cloB_any (Sq.bh nn L x.1) (.slice (some ⟨g, 0, none⟩) nn 6) V (by rw [HLn.out]; omega) (by rw [HLn.out]; omega) h)
        clear hk
        gi_wp2_with (refine ⟨trivial, ?_⟩; gi_at_call 67; refine (CallsIn.inRound (w1.heap.size + 1 + 1) (callsIn_wide.2 ((CCl _ HSB.out).out))).mono ?_; rintro e w2 ⟨u, rfl, hr2, hb2⟩; have HB2 := Lib.hid hb2; obtain ⟨gu, cu, hu, -⟩ := hr2.form (by rw [HLn.out]; omega); have HR2 := Lib.hid (hr2.weak hsz); have HI42 := Lib.hid (HI4.out.step hb2); have HI52 := Lib.hid (HI5.out.step hb2); obtain ⟨k0, k1, k2⟩ := HI42.out; obtain ⟨j0, j1, j2⟩ := HI52.out; clear hb2 hr2; subst hu)
        refine ⟨((Rec2.below HB2.out (by omega)).trans (Rec2.setCell _ _ ⟨by simp; omega, by simp; omega⟩)).trans (Rec2.setCell _ _ ⟨by simp; omega, by simp; omega⟩), rfl, ⟨x, by simp, HK2.out⟩, ⟨_, (HI42.out.set _).other (by omega) _, ?_⟩, (HI52.out.other (by omega) _).set _, ((below_nxt HI6.out HB2.out).setCell (p := ⟨w.heap.size + 2, 0, none⟩) (by simp) _).setCell (p := ⟨w.heap.size + 3, 0, none⟩) (by simp) _⟩
        rw [← HK.out]
        exact (HR2.out.setc (a := ⟨w.heap.size + 2, 0, none⟩) (by show w.heap.size + 2 < _; omega) _).setc (a := ⟨w.heap.size + 3, 0, none⟩) (by show w.heap.size + 3 < _; omega) _
      · have hkz : ((x.1 : Int) == k) = false := by rw [beq_eq_false_iff_ne]; exact hk
        have HK := Lib.hid hk
        clear hk
        gi_wp2
        refine ⟨Rec2.refl _ _, KpS.refl _ _ _ _, ?_, HI2.out, HI3.out, HI4.out, HI5.out, HI6.out⟩
        intro y hy
        rcases List.mem_append.1 hy with hy | hy
        · exact HI1.out y hy
        · rw [List.mem_singleton] at hy
          rw [hy]; exact HK.out
    case done =>
      rintro xs W hS ⟨hI1, -, -, hI4, hI5, hI6⟩ hD
      have hno : ¬ (0 ≤ k ∧ k ≤ (L.length : Int)) := fun ⟨a1, a2⟩ => by
        have hmem : k.toNat ∈ xs.map (·.1) := by rw [show xs.map (·.1) = List.range (L.length + 1) from hS]; exact List.mem_range.2 (by omega)
        obtain ⟨x, hx, hxm⟩ := List.mem_map.1 hmem
        have h9 := hI1 x hx
        rw [hxm] at h9
        omega
      have hve : Sq.endV (nn : Int) L k = ([], 2) := by rw [HVE.out, if_neg hno]
      have HI4 := Lib.hid hI4
      have HI5 := Lib.hid hI5
      have HI6 := Lib.hid hI6
      have HDD := Lib.hid hD
      obtain ⟨s0, s1, s2⟩ := hI4
      obtain ⟨t0, t1, t2⟩ := hI5
      have HVV := Lib.hid hve
      clear hI1 hI6 hno hve
      gi_wp2
      have hR4 := (HI4.out.set (.slice none 0 0)).other (k := w.heap.size + 3) (o := 0) (by omega) (.int .i64 2)
      have hR5 := (HI5.out.other (k := w.heap.size + 2) (o := 0) (by omega) (.slice none 0 0)).set (.int .i64 2)
      have hD9 : ((W.setCell ⟨w.heap.size + 2, 0, none⟩ (.slice none 0 0)).setCell ⟨w.heap.size + 3, 0, none⟩ (.int .i64 2)).heap[w1.heap.size + 1]? = some (.deferred (some [])) := (Below.heap_setCell _ _ _ _ (by show w1.heap.size + 1 ≠ w.heap.size + 3; omega)).trans ((Below.heap_setCell _ _ _ _ (by show w1.heap.size + 1 ≠ w.heap.size + 2; omega)).trans HDD.out)
      have hB9 := (HI6.out.setCell (p := ⟨w.heap.size + 2, 0, none⟩) (by simp) (.slice none 0 0)).setCell (p := ⟨w.heap.size + 3, 0, none⟩) (by simp) (.int .i64 2)
      generalize (W.setCell ⟨w.heap.size + 2, 0, none⟩ (.slice none 0 0)).setCell ⟨w.heap.size + 3, 0, none⟩ (.int .i64 2) = W9 at *
      refine ⟨by simp, .inl ⟨_, _, rfl, run_takeDeferred hD9, ?_⟩⟩
      have hg := grownBy_putObj' W9 (w1.heap.size + 1) (.deferred none)
      have hr : ∀ r, some (w1.heap.size + 1) = some r → ∃ o : Obj, W9.heap[r]? = some o ∧ o.isCells = false := fun r e => by cases e; exact ⟨_, hD9, rfl⟩
      obtain ⟨-, f1, -⟩ := hR4.kept hg hr
      obtain ⟨-, f2, -⟩ := hR5.kept hg hr
      refine ⟨.tuple #[.slice none 0 0, .int .i64 2], ?_, ⟨none, 0, by rw [HVV.out]; rfl, by rw [HVV.out]; exact SeeB.nil _, hB9.trans (belowK_b (w := w) (Nat.le_refl _) W9 (w1.heap.size + 1) _ _ (by omega) hD9 rfl rfl)⟩⟩
      simp [results, Tryd.f26, go_sem, f1, f2]
    case stop =>
      rintro c pre W ⟨rest, hrest⟩ ⟨rfl, ⟨x, hx, hxk⟩, ⟨u, hI4, hRow⟩, hI5, hI6⟩ hD
      have hxl : x.1 ≤ L.length := x.2
      have hve : Sq.endV (nn : Int) L k = (Sq.bh nn L k.toNat, 0) := by rw [HVE.out, if_pos (by omega)]
      rw [hve]
      gi_wp2
      refine ⟨by simp, .inl ⟨_, _, rfl, run_takeDeferred hD, ?_⟩⟩
      have hg := grownBy_putObj' W (w1.heap.size + 1) (.deferred none)
      have hr : ∀ r, some (w1.heap.size + 1) = some r → ∃ o : Obj, W.heap[r]? = some o ∧ o.isCells = false := fun r e => by cases e; exact ⟨_, hD, rfl⟩
      obtain ⟨-, f1, -⟩ := hI4.kept hg hr
      obtain ⟨-, f2, -⟩ := hI5.kept hg hr
      have hse := (hRow.off hg (fun r e => by cases e; omega)).sees
      obtain ⟨ua, uc, hu, hs9⟩ := id hse
      rw [hu] at f1
      refine ⟨.tuple #[u, .int .i64 0], ?_, ⟨ua, uc, by rw [hu], ?_, hI6.trans (belowK_b (w := w) (Nat.le_refl _) W (w1.heap.size + 1) _ _ (by omega) hD rfl rfl)⟩⟩
      · rw [hu]; simp [results, Tryd.f26, go_sem, f1, f2]
      · rw [hu] at hse; exact hse
  · have hv : Sq.endV n L k = ([], Sq.chk n L) := by unfold Sq.endV; rw [if_neg hc]
    rw [hv]
    have hct : (Sq.chk n L != 0) = true := by simpa using hc
    clear hv hc hPa hPb hPc hPd
    generalize Sq.chk n L = c at *
    clear hW0 hz0 hB0
    have HB0 := Lib.hid (((((allocB w (.cells #[.int .i64 n, .slice ao L.length cap] 32)).alloc (by simp) (.cells #[.int .i64 k] 3)).alloc (by simp; omega) (.cells #[.slice none 0 0] 49)).alloc (by simp; omega) (.cells #[.int .i64 0] 24)))
    have hR4 := boxW_new ((w.alloc (.cells #[.int .i64 n, .slice ao L.length cap] 32)).alloc (.cells #[.int .i64 k] 3)) (.slice none 0 0) 49
    rw [World.size_alloc, World.size_alloc] at hR4
    have HR4 := Lib.hid (hR4.step (allocB _ (.cells #[.int .i64 0] 24)))
    have hR5 := boxW_new (((w.alloc (.cells #[.int .i64 n, .slice ao L.length cap] 32)).alloc (.cells #[.int .i64 k] 3)).alloc (.cells #[.slice none 0 0] 49)) (.int .i64 0) 24
    rw [World.size_alloc, World.size_alloc, World.size_alloc] at hR5
    have HR5 := Lib.hid hR5
    clear hR4 hR5
    go_enter Tryd.func26, Tryd.ntmps26
    go_wp2_with fail
    refine ((CC _ (HS.out.step HB0.out)).out).mono ?_
    rintro e w1 ⟨rfl, hb1⟩
    have HB1 := Lib.hid (below_nxt HB0.out hb1)
    have HR41 := Lib.hid (HR4.out.step hb1)
    have HR51 := Lib.hid (HR5.out.step hb1)
    obtain ⟨s0, s1, s2⟩ := HR41.out
    obtain ⟨t0, t1, t2⟩ := HR51.out
    clear hb1
    go_wp2
    have hR4 := (HR41.out.set (.slice none 0 0)).other (k := w.heap.size + 3) (o := 0) (by omega) (.int .i64 c)
    have hR5 := (HR51.out.other (k := w.heap.size + 2) (o := 0) (by omega) (.slice none 0 0)).set (.int .i64 c)
    obtain ⟨-, f1, -⟩ := hR4
    obtain ⟨-, f2, -⟩ := hR5
    exact bodyPost_ret (v := .tuple #[.slice none 0 0, .int .i64 c]) (by simp [results, Tryd.f26, go_sem, f1, f2]) rfl ⟨none, 0, rfl, SeeB.nil _, (HB1.out.setCell (p := ⟨w.heap.size + 2, 0, none⟩) (by simp) _).setCell (p := ⟨w.heap.size + 3, 0, none⟩) (by simp) _⟩
end Go.Proofs.YtjpbccpleflkhaaDoor

namespace Sq
def enc6 (E : List Bool) : List Go.Value := [.bool (E.getD 0 false), .bool (E.getD 1 false), .bool (E.getD 2 false), .bool (E.getD 3 false), .bool (E.getD 4 false), .bool (E.getD 5 false)]
theorem enc6_get (E : List Bool) {j : Nat} (h : j < 6) : (enc6 E)[j]? = some (.bool (E.getD j false)) := by
  rcases (show j = 0 ∨ j = 1 ∨ j = 2 ∨ j = 3 ∨ j = 4 ∨ j = 5 by omega) with rfl | rfl | rfl | rfl | rfl | rfl <;> rfl
theorem flat6_get (M : List (List Bool)) (i j : Nat) (hi : i < M.length) (hj : j < 6) : (M.flatMap enc6)[i * 6 + j]? = some (.bool ((M.getD i []).getD j false)) := by
  induction M generalizing i with
  | nil => simp at hi
  | cons E M ih =>
    have e6 : (enc6 E).length = 6 := rfl
    rcases Nat.eq_zero_or_pos i with rfl | hp
    · rw [List.flatMap_cons, Nat.zero_mul, Nat.zero_add, List.getElem?_append_left (by rw [e6]; exact hj), enc6_get E hj]; rfl
    · obtain ⟨k, rfl⟩ : ∃ k, i = k + 1 := ⟨i - 1, by omega⟩
      have := ih k (by simpa using hi)
      rw [List.flatMap_cons, List.getElem?_append_right (by rw [e6]; omega), e6, show (k + 1) * 6 + j - 6 = k * 6 + j by omega, this]
      rfl
end Sq
namespace Go.Proofs.YtjpbccpleflkhaaDoor
open Go.RowKit Go.Shelf
attribute [local go_sem] Oper.semAt_some
theorem conE_any (v : Value) (M : List (List Bool)) (E : List Bool) (w : World) (hs : SeeM w v M) (hE : E.length = 6) (hM : ∀ i, i < M.length → (M.getD i []).length = 6) : Calls Tryd.prog 69 #[v, Sq.E6 E] w fun e w' => e = .returned (.bool (decide (E ∈ M))) ∧ Below w.heap.size w w' := by
  have CI := fun V (h : SeeM V v M) => Lib.hid (idxE_any v M E V h hE hM)
  have HL := Lib.hid (allocB w (.cells #[.bool (E.getD 0 false), .bool (E.getD 1 false), .bool (E.getD 2 false), .bool (E.getD 3 false), .bool (E.getD 4 false), .bool (E.getD 5 false)] 105))
  have HS := Lib.hid hs
  obtain ⟨ao, cap, rfl, -⟩ := hs
  unfold Sq.E6 at CI ⊢
  clear hM
  generalize E.getD 0 false = b0 at *
  generalize E.getD 1 false = b1 at *
  generalize E.getD 2 false = b2 at *
  generalize E.getD 3 false = b3 at *
  generalize E.getD 4 false = b4 at *
  generalize E.getD 5 false = b5 at *
  generalize decide (E ∈ M) = q at *
  go_enter Tryd.func69, Tryd.ntmps69
  go_wp2_with fail
  refine ((CI _ (HS.out.step HL.out)).out).mono ?_
  rintro e w1 ⟨r, rfl, hr, hb⟩
  have HB := Lib.hid (below_nxt HL.out hb)
  clear hb
  subst hr
  go_wp2
  go_ret
  exact ⟨rfl, HB.out⟩
/-- A row's block holds cells of its type. -/
theorem row_obj {B : Nat} {e : TypeId} {s n : Nat} {w : World} {v : Value} {xs : List Value} (h : w.ownsRow B e s v n xs) {r : Nat} (hr : v.ownBlock = some r) : ∃ cur, w.heap[r]? = some (.cells cur e) := by
  rcases h.2 with ⟨rfl, -⟩ | ⟨g, cap, cur, rfl, h1, h2, -⟩
  · cases hr
  · have : g = r := by simpa [Value.ownBlock] using hr
    subst this
    exact ⟨cur, h2⟩
/-- A row of ends, as arrays, that is the call's own. -/
def RowM (B : Nat) (e : TypeId) (w : World) (v : Value) (M : List (List Bool)) : Prop := w.ownsRow B e 6 v M.length (M.flatMap Sq.enc6)
theorem RowM.nil (B : Nat) (e : TypeId) (w : World) : RowM B e w (.slice none 0 0) [] := World.ownsRow_nil _ _ _ _
theorem RowM.sees {B : Nat} {e : TypeId} {w : World} {v : Value} {M : List (List Bool)} (h : RowM B e w v M) : SeeM w v M := by
  have hc := fun g hg => World.ownsRow.cells h (g := g) hg
  have hlt := World.ownsRow.lt h
  rcases h with ⟨h0, ⟨rfl, h2⟩ | ⟨g, cap, cur, rfl, h1, h2, h3, h4, h5⟩⟩
  · have := List.eq_nil_of_length_eq_zero h2
    subst this
    exact SeeM.nil w
  · have hk := hc g rfl
    refine ⟨_, cap, rfl, h3, by unfold maxLen at h4; omega, fun _ => ⟨g, 0, rfl, (hlt g rfl).2, fun i hi j hj => ?_⟩⟩
    have := hk (i * 6 + j) _ (Sq.flat6_get M i j hi hj)
    rw [addr_add] at this
    rw [Nat.zero_add]; exact this
theorem RowM.form {B : Nat} {e : TypeId} {w : World} {v : Value} {M : List (List Bool)} (h : RowM B e w v M) : ∃ ao cap, v = .slice ao M.length cap := by
  rcases h.2 with ⟨rfl, h0⟩ | ⟨g, cap, cur, rfl, _⟩
  · exact ⟨none, 0, by rw [h0]⟩
  · exact ⟨_, _, rfl⟩
theorem RowM.off {B : Nat} {e : TypeId} {w w' : World} {v : Value} {M : List (List Bool)} {row : Option Nat} (h : RowM B e w v M) (hg : w.grownBy w' row) (hr : ∀ r, row = some r → v.ownBlock ≠ some r) : RowM B e w' v M := by
  refine World.ownsRow.kept h hg ?_
  cases hv : v.ownBlock with
  | none => exact .inl rfl
  | some g => exact .inr fun e' => hr g e'.symm hv
theorem RowI.off {B : Nat} {e : TypeId} {w w' : World} {v : Value} {l : List Int} {row : Option Nat} (h : RowI B e w v l) (hg : w.grownBy w' row) (hr : ∀ r, row = some r → v.ownBlock ≠ some r) : RowI B e w' v l := by
  refine World.ownsRow.kept h hg ?_
  cases hv : v.ownBlock with
  | none => exact .inl rfl
  | some g => exact .inr fun e' => hr g e'.symm hv
theorem grown_of_below {W W' : World} (hb : Below W.heap.size W W') : W.grownBy W' none := ⟨hb.os, hb.tape, hb.output, hb.size, fun k hk _ => hb.block k hk⟩
theorem info_ends : ∃ i : TypeInfo, Tryd.prog.info? 105 = some i ∧ i.zero = some (.agg #[.bool false, .bool false, .bool false, .bool false, .bool false, .bool false]) ∧ i.size = 6 ∧ i.bytes = 6 := by
  have h : (Tryd.prog.info? 105).map (fun i => (i.zero, i.size, i.bytes)) = some (some (.agg #[.bool false, .bool false, .bool false, .bool false, .bool false, .bool false]), 6, 6) := by kernel_rfl
  obtain ⟨i, h1, h2⟩ := Option.map_eq_some_iff.1 h
  simp only [Prod.mk.injEq] at h2
  exact ⟨i, h1, h2⟩
/-- 'append' of ends to a row, in a round. -/
theorem wpListIn_append_ends {F : Fence} {n : Nat} {P : Program} {w : World} {ops : Array Oper} {rest : List Oper} {o : Oper} {a : Act} {Q : Exit → Act → World → Prop} (hgd : o.guard = none) (s x : Operand) (t : TypeId)
    (ho : o.op = .call { callee := .builtin .append, args := #[s, x], argTypes := #[t, t] })
    (e : TypeId) (i : TypeInfo) (ht : P.underlying t = some (.slice e)) (hi : P.info? e = some i) (hz : i.zero = some (.agg #[.bool false, .bool false, .bool false, .bool false, .bool false, .bool false])) (hsize : i.size = 6) (hby : i.bytes = 6)
    (v : Value) (M : List (List Bool)) (E : List Bool) (g : Nat) (hs : a.eval s = v) (hx : a.eval x = .slice (some ⟨g, 0, none⟩) 1 1) (B : Nat) (hown : RowM B e w v M)
    (hbox : BoxE w g E) (hlen : M.length ≤ 1048576) (hB : B ≤ w.heap.size)
    (h : ∀ ao' cap' w', RowM B e w' (.slice ao' (M.length + 1) cap') (M ++ [E]) → w.grownBy w' v.ownBlock → ((Value.slice ao' (M.length + 1) cap').ownBlock = v.ownBlock ∨ (Value.slice ao' (M.length + 1) cap').ownBlock = some w.heap.size) → wpListIn F n P ops Q rest (a.put o.dst (.slice ao' (M.length + 1) cap')) w') : wpListIn F n P ops Q (o :: rest) a w := by
  refine wpListIn_append_own_at w hgd s x t ho B e i (.agg #[.bool false, .bool false, .bool false, .bool false, .bool false, .bool false]) 6 6 ht hi hz hsize hby rfl (by omega) v M.length _ hs hown ⟨g, 0, none⟩ 1 1 (Sq.enc6 E) hx (by rfl) ?_ ?_ (by unfold maxLen; omega) (by omega) hB ?_
  · intro j u hj
    rw [addr_add]
    have hj6 : j < 6 := by have := (List.getElem?_eq_some_iff.1 hj).1; exact this
    rw [Sq.enc6_get E hj6] at hj
    rw [hbox.2.1 j hj6]; exact hj
  · intro u hu
    simp only [Sq.enc6, List.mem_cons, List.not_mem_nil, or_false] at hu
    rcases hu with rfl | rfl | rfl | rfl | rfl | rfl <;> rfl
  · intro v' w' r1 r2 r3 r4
    obtain ⟨ao', cap', rfl⟩ : ∃ ao' cap', v' = .slice ao' (M.length + 1) cap' := by
      rcases r1.2 with ⟨_, h⟩ | ⟨g, cap, cur, rfl, _⟩
      · omega
      · exact ⟨_, _, rfl⟩
    refine h _ _ _ ?_ r2 r4
    unfold RowM
    rw [List.length_append, List.flatMap_append]
    have e1 : ([E] : List (List Bool)).flatMap Sq.enc6 = Sq.enc6 E := by simp
    rw [e1]; exact r1
/-- 'append' of an integer to a row, in a round. -/
theorem wpListIn_append_int1 {F : Fence} {n : Nat} {P : Program} {w : World} {ops : Array Oper} {rest : List Oper} {o : Oper} {a : Act} {Q : Exit → Act → World → Prop} (hgd : o.guard = none) (s x : Operand) (t : TypeId)
    (ho : o.op = .call { callee := .builtin .append, args := #[s, x], argTypes := #[t, t] })
    (e : TypeId) (i : TypeInfo) (ht : P.underlying t = some (.slice e)) (hi : P.info? e = some i) (hz : i.zero = some (.int .i64 0)) (hsize : i.size = 1) (hby : i.bytes = 8)
    (v : Value) (l : List Int) (y : Int) (b : Nat) (hs : a.eval s = v) (hx : a.eval x = .slice (some ⟨b, 0, none⟩) 1 1) (B : Nat) (hown : RowI B e w v l) (hy : w.cell? ⟨b, 0, none⟩ = some (.int .i64 y)) (hlen : l.length ≤ 1048576) (hB : B ≤ w.heap.size)
    (h : ∀ ao' cap' w', RowI B e w' (.slice ao' (l.length + 1) cap') (l ++ [y]) → w.grownBy w' v.ownBlock → ((Value.slice ao' (l.length + 1) cap').ownBlock = v.ownBlock ∨ (Value.slice ao' (l.length + 1) cap').ownBlock = some w.heap.size) → wpListIn F n P ops Q rest (a.put o.dst (.slice ao' (l.length + 1) cap')) w') : wpListIn F n P ops Q (o :: rest) a w := by
  refine wpListIn_append_own_at w hgd s x t ho B e i (.int .i64 0) 1 8 ht hi hz hsize hby rfl (by omega) v l.length _ hs hown ⟨b, 0, none⟩ 1 1 [.int .i64 y] hx (by simp) ?_ ?_ (by unfold maxLen; omega) (by omega) hB ?_
  · intro j u hj
    rw [addr_add]
    rcases j with _ | j
    · simp at hj; subst hj; exact hy
    · simp at hj
  · exact fun u hu => by
      have : u = .int .i64 y := by simpa using hu
      subst this; rfl
  · intro v' w' r1 r2 r3 r4
    obtain ⟨ao', cap', rfl⟩ : ∃ ao' cap', v' = .slice ao' (l.length + 1) cap' := by
      rcases r1.2 with ⟨_, h⟩ | ⟨g, cap, cur, rfl, _⟩
      · omega
      · exact ⟨_, _, rfl⟩
    refine h _ _ _ ?_ r2 r4
    unfold RowI
    rw [List.length_append, List.map_append]
    exact r1
end Go.Proofs.YtjpbccpleflkhaaDoor
