/- Repeats of package sequence: its call. -/
import Derived.Test.YtjpbccpleflkhaaDoorG11
namespace Sq
open Sk
def rpS (L : List Stp) (st : List (List Bool) × List Int) (x : Nat) : List (List Bool) × List Int := (st.1 ++ [bh 6 L x], if x < L.length ∧ bh 6 L x ∈ st.1 then st.2 ++ [(x : Int)] else st.2)
/-- The ends that came, and the steps before which they had come already. -/
def rpF (L : List Stp) (xs : List Nat) : List (List Bool) × List Int := xs.foldl (rpS L) ([], [])
theorem rpF_snoc (L : List Stp) (xs : List Nat) (x : Nat) : rpF L (xs ++ [x]) = rpS L (rpF L xs) x := by unfold rpF; rw [List.foldl_append]; rfl
theorem fold_bnd (L : List Stp) : ∀ (xs : List Nat) (st : List (List Bool) × List Int), (∀ E ∈ st.1, E.length = 6) → (∀ E ∈ (xs.foldl (rpS L) st).1, E.length = 6) ∧ (xs.foldl (rpS L) st).1.length = st.1.length + xs.length ∧ (xs.foldl (rpS L) st).2.length ≤ st.2.length + xs.length
  | [], st, h => ⟨h, by simp, by simp⟩
  | x :: xs, st, h => by
    have h2 : ∀ E ∈ (rpS L st x).1, E.length = 6 := fun E hE => by
      unfold rpS at hE
      rcases List.mem_append.1 hE with hE | hE
      · exact h E hE
      · rw [List.mem_singleton] at hE; rw [hE]; exact bh_len 6 L x
    obtain ⟨a1, a2, a3⟩ := fold_bnd L xs (rpS L st x) h2
    rw [List.foldl_cons]
    refine ⟨a1, ?_, ?_⟩
    · rw [a2]; simp [rpS]; omega
    · refine Nat.le_trans a3 ?_
      unfold rpS
      simp only
      split <;> simp <;> omega
theorem rpF_bnd (L : List Stp) (xs : List Nat) : (∀ E ∈ (rpF L xs).1, E.length = 6) ∧ (rpF L xs).1.length = xs.length ∧ (rpF L xs).2.length ≤ xs.length := by
  have h := fold_bnd L xs ([], []) (fun E h => by simp at h)
  simpa [rpF] using h
/-- What Repeats answers. -/
def repV (n : Int) (L : List Stp) : List Int × Int := if chk n L = 0 then ((rpF L (List.range (L.length + 1))).2, 0) else ([], chk n L)
end Sq
namespace Go.Proofs.YtjpbccpleflkhaaDoor
open Go.RowKit Go.Shelf
attribute [local go_sem] Oper.semAt_some
def RepP (q : List Int × Int) (w : World) (e : Ending) (w' : World) : Prop := ∃ ao cap, e = .returned (.tuple #[.slice ao q.1.length cap, .int .i64 q.2]) ∧ SeeI w' (.slice ao q.1.length cap) q.1 ∧ Below w.heap.size w w'
/-- What lies in memory as Repeats goes on. -/
structure RpS (n : Nat) (v : Value) (w : World) (C : Nat) (M : List (List Bool)) (l : List Int) (u t : Value) (W : World) : Prop where
  bs : BoxP W w.heap.size (.int .i64 (n : Int)) v
  bu : BoxW W C u
  ru : RowM (C + 7) 105 W u M
  bt : BoxW W (C + 1) t
  rt : RowI (C + 7) 3 W t l
  ap : ∀ r, u.ownBlock = some r → t.ownBlock ≠ some r
  be : Below w.heap.size w W
theorem RpS.grown0 {n : Nat} {v : Value} {w : World} {C : Nat} {M : List (List Bool)} {l : List Int} {u t : Value} {W W' : World} (h : RpS n v w C M l u t W) {row : Option Nat} (hg : W.grownBy W' row) (hC : w.heap.size + 1 ≤ C) (hr : ∀ r, row = some r → C + 3 ≤ r ∧ r < C + 7) : RpS n v w C M l u t W' := by
  have hk : ∀ b, b < C + 3 → b < W.heap.size → W'.heap[b]? = W.heap[b]? := fun b hb hz => hg.block b hz (fun e => by have := hr b e.symm; omega)
  refine ⟨h.bs.blk (hk _ (by omega) h.bs.1), h.bu.blk (hk _ (by omega) h.bu.1), h.ru.off hg (fun r e e' => ?_), h.bt.blk (hk _ (by omega) h.bt.1), h.rt.off hg (fun r e e' => ?_), h.ap, h.be.grown hg h.be.size (fun r e => by have := hr r e; omega)⟩
  · have := (World.ownsRow.lt h.ru r e').1; have := hr r e; omega
  · have := (World.ownsRow.lt h.rt r e').1; have := hr r e; omega
theorem RpS.below {n : Nat} {v : Value} {w : World} {C : Nat} {M : List (List Bool)} {l : List Int} {u t : Value} {W W' : World} (h : RpS n v w C M l u t W) (hC : w.heap.size + 1 ≤ C) (hb : Below W.heap.size W W') : RpS n v w C M l u t W' :=
  h.grown0 (grown_of_below hb) hC (fun r e => by cases e)
theorem grown_set (W : World) (b o : Nat) (v : Value) : W.grownBy (W.setCell ⟨b, o, none⟩ v) (some b) := ⟨rfl, rfl, rfl, by simp [World.setCell], fun k _ hk => Below.heap_setCell _ _ _ _ (fun e => hk (by rw [e]))⟩
theorem RpS.app_u {n : Nat} {v : Value} {w : World} {C : Nat} {M M' : List (List Bool)} {l : List Int} {u t u' : Value} {W W' : World} (h : RpS n v w C M l u t W) (hC : w.heap.size + 1 ≤ C) (hg : W.grownBy W' u.ownBlock) (hr : RowM (C + 7) 105 W' u' M') (ho : u'.ownBlock = u.ownBlock ∨ u'.ownBlock = some W.heap.size) : RpS n v w C M' l u' t (W'.setCell ⟨C, 0, none⟩ u') := by
  have hlt := fun r (e : u.ownBlock = some r) => (World.ownsRow.lt h.ru r e).1
  have hk : ∀ b, b < C + 7 → b ≠ C → b < W.heap.size → (W'.setCell ⟨C, 0, none⟩ u').heap[b]? = W.heap[b]? := fun b hb hc hz => (Below.heap_setCell _ _ _ _ hc).trans (hg.block b hz (fun e => by have := hlt b e.symm; omega))
  refine ⟨h.bs.blk (hk _ (by omega) (by omega) h.bs.1), (h.bu.grown hg (fun r e => by have := hlt r e; omega)).set u', hr.off (grown_set _ _ _ _) (fun r e e' => ?_), h.bt.blk (hk _ (by omega) (by omega) h.bt.1), (h.rt.off hg (fun r e e' => h.ap r e e')).off (grown_set _ _ _ _) (fun r e e' => ?_), fun r e e' => ?_, (h.be.grown hg h.be.size (fun r e => by have := hlt r e; omega)).setCell (p := ⟨C, 0, none⟩) (by show w.heap.size ≤ C; omega) u'⟩
  · have := (World.ownsRow.lt hr r e').1; cases e; omega
  · have := (World.ownsRow.lt h.rt r e').1; cases e; omega
  · rcases ho with ho | ho
    · exact h.ap r (ho ▸ e) e'
    · rw [ho] at e; have := (World.ownsRow.lt h.rt r e').2; cases e; omega
theorem RpS.app_t {n : Nat} {v : Value} {w : World} {C : Nat} {M : List (List Bool)} {l l' : List Int} {u t t' : Value} {W W' : World} (h : RpS n v w C M l u t W) (hC : w.heap.size + 1 ≤ C) (hg : W.grownBy W' t.ownBlock) (hr : RowI (C + 7) 3 W' t' l') (ho : t'.ownBlock = t.ownBlock ∨ t'.ownBlock = some W.heap.size) : RpS n v w C M l' u t' (W'.setCell ⟨C + 1, 0, none⟩ t') := by
  have hlt := fun r (e : t.ownBlock = some r) => (World.ownsRow.lt h.rt r e).1
  have hk : ∀ b, b < C + 7 → b ≠ C + 1 → b < W.heap.size → (W'.setCell ⟨C + 1, 0, none⟩ t').heap[b]? = W.heap[b]? := fun b hb hc hz => (Below.heap_setCell _ _ _ _ hc).trans (hg.block b hz (fun e => by have := hlt b e.symm; omega))
  refine ⟨h.bs.blk (hk _ (by omega) (by omega) h.bs.1), h.bu.blk (hk _ (by omega) (by omega) h.bu.1), (h.ru.off hg (fun r e e' => h.ap r e' e)).off (grown_set _ _ _ _) (fun r e e' => ?_), (h.bt.grown hg (fun r e => by have := hlt r e; omega)).set t', hr.off (grown_set _ _ _ _) (fun r e e' => ?_), fun r e e' => ?_, (h.be.grown hg h.be.size (fun r e => by have := hlt r e; omega)).setCell (p := ⟨C + 1, 0, none⟩) (by show w.heap.size ≤ C + 1; omega) t'⟩
  · have := (World.ownsRow.lt h.ru r e').1; cases e; omega
  · have := (World.ownsRow.lt hr r e').1; cases e; omega
  · rcases ho with ho | ho
    · rw [ho] at e'; exact h.ap r e e'
    · rw [ho] at e'; have := (World.ownsRow.lt h.ru r e).2; cases e'; omega
/-- What the round keeps, as a row grows and its variable is stored. -/
theorem rp_keep {B0 C n0 gb : Nat} {e : TypeId} {s n : Nat} {xs : List Value} {u : Value} {W W' : World} (hu : W.ownsRow (C + 7) e s u n xs) (he : e ≠ 70) (hg : W.grownBy W' u.ownBlock) (hz : C + 7 ≤ W.heap.size) (h1 : n0 ≤ C) (h2 : gb = C + 2) (hb : B0 = C ∨ B0 = C + 1) (v' : Value) :
    Rec2 (C + 3) W (W'.setCell ⟨B0, 0, none⟩ v') ∧ KpS (PrS n0 gb (C + 3)) 70 (C + 3) W (W'.setCell ⟨B0, 0, none⟩ v') := by
  have hlt := fun r (e : u.ownBlock = some r) => (World.ownsRow.lt hu r e).1
  refine ⟨(Rec2.grown hg (by omega) (fun r e => by have := hlt r e; omega)).trans (Rec2.setCell _ _ ⟨by show B0 ≠ C + 3; omega, by show B0 ≠ C + 3 + 1; omega⟩), (KpS.grown hg (fun b hb => by rcases hb with h | h | h <;> omega) (fun r e => ⟨fun hp => by have := hlt r e; rcases hp with h | h | h <;> omega, fun _ c hc => ?_⟩)).trans (KpS.setCell _ _ (fun hp => by rcases hp with h | h | h <;> simp only at h <;> omega) (fun h => by simp only at h; omega))⟩
  obtain ⟨cur, ho⟩ := row_obj hu e
  rw [ho] at hc
  cases hc
  exact he rfl
/-- An array of six ends laid into a new block whose number is named otherwise. -/
theorem boxE_at (w : World) {n : Nat} (hn : w.heap.size = n) (b0 b1 b2 b3 b4 b5 : Bool) (T : TypeId) : BoxE (w.alloc (.cells #[.bool b0, .bool b1, .bool b2, .bool b3, .bool b4, .bool b5] T)) n [b0, b1, b2, b3, b4, b5] := hn ▸ boxE_new w b0 b1 b2 b3 b4 b5 T
/-- Between two rounds of Repeats. -/
def RpI (n : Nat) (v : Value) (L : List Sk.Stp) (w : World) (C : Nat) (pre : List (Sq.Ix L)) (W : World) : Prop := ∃ u t, RpS n v w C (Sq.rpF L (pre.map (·.1))).1 (Sq.rpF L (pre.map (·.1))).2 u t W
theorem RpI.abR {n : Nat} {v : Value} {L : List Sk.Stp} {w : World} {C : Nat} (hC : w.heap.size + 1 ≤ C) : AbR (C + 3) (RpI n v L w C) := fun pre W W' row ⟨u, t, h⟩ hg hr => ⟨u, t, h.grown0 hg hC (fun r e => by have := hr r e; omega)⟩
set_option maxHeartbeats 8000000 in
set_option maxRecDepth 100000 in
theorem qRep_any (n : Int) (v : Value) (L : List Sk.Stp) (w : World) (hs : SeeT w v L) : Calls Tryd.prog 32 #[.agg #[.int .i64 n, v]] w (RepP (Sq.repV n L) w) := by
  have HS := Lib.hid hs
  obtain ⟨ao, cap, rfl, hcap1, hcap2, -⟩ := hs
  have CC := fun V (h : SeeT V (.slice ao L.length cap) L) => Lib.hid (qChk_any n (.slice ao L.length cap) L V h)
  obtain ⟨P0, L0, z0⟩ := boxP_new w (.int .i64 n) (.slice ao L.length cap) 32
  have HL0 := Lib.hid L0
  have HP0 := Lib.hid P0
  by_cases hc : Sq.chk n L = 0
  · rw [hc] at CC
    have hR := Sq.chk_ok hc
    obtain ⟨nn, rfl⟩ := Int.eq_ofNat_of_zero_le (show 0 ≤ n by have := hR.n1; omega)
    have hl64 := hR.l64
    have hn6 := hR.n6
    have HU := Lib.hid hR.okS
    have hve : Sq.repV (nn : Int) L = ((Sq.rpF L (List.range (L.length + 1))).2, 0) := by unfold Sq.repV; rw [if_pos hc]
    have HVE := Lib.hid hve
    have hn1 := hR.n1
    clear hc hR hve
    refine (callsIn_wide (n := 9)).1 ?_
    refine callsIn_of_wp_marks Tryd.func32 rfl trivial ?_ rfl
    simp only [Tryd.ntmps32, List.size_toArray, List.length_cons, List.length_nil, Nat.reduceAdd, Nat.reduceSub, Array.replicate_succ, Array.replicate_zero, List.push_toArray, List.append_toArray, List.nil_append, List.cons_append]
    obtain ⟨p0, p1, p2⟩ := P0
    clear L0 z0
    gi_wp2_with first
      | (refine ⟨trivial, ?_⟩; gi_at_call 21; refine (callsIn_wide.2 ((CC _ (HS.out.step HL0.out)).out)).mono ?_; rintro e w1 ⟨rfl, hb1⟩; have HB1 := Lib.hid (below_nxt HL0.out hb1); have HP1 := Lib.hid (HP0.out.step hb1); obtain ⟨q0, q1, q2⟩ := HP1.out; clear hb1 p0 p1 p2)
      | (refine ⟨trivial, ?_⟩; gi_at_call 59; refine (callsIn_wide.2 (sSts_any _ _ _)).mono ?_; rintro e Z ⟨rfl, rfl⟩)
    obtain ⟨W1, hW1⟩ : ∃ W1, (((w1.alloc (.cells #[.slice none 0 0] 114)).alloc (.cells #[.slice none 0 0] 54)).alloc (.cells #[.int .i64 (nn : Int), .slice ao L.length cap] 32)) = W1 := ⟨_, rfl⟩
    have hzz : w.heap.size + 1 ≤ w1.heap.size := by omega
    have hz1 : W1.heap.size = w1.heap.size + 3 := by rw [← hW1]; simp
    have hL1 : Below w1.heap.size w1 W1 := by rw [← hW1]; exact ((allocB w1 _).alloc (by simp) _).alloc (by simp; omega) _
    have hPg : BoxP W1 (w1.heap.size + 2) (.int .i64 (nn : Int)) (.slice ao L.length cap) := by
      have h := (boxP_new ((w1.alloc (.cells #[.slice none 0 0] 114)).alloc (.cells #[.slice none 0 0] 54)) (.int .i64 (nn : Int)) (.slice ao L.length cap) 32).1
      rw [World.size_alloc, World.size_alloc] at h
      rw [← hW1]; exact h
    have hBu : BoxW W1 w1.heap.size (.slice none 0 0) := by rw [← hW1]; exact ((boxW_new w1 _ _).step (allocB _ _)).step (allocB _ _)
    have hBt : BoxW W1 (w1.heap.size + 1) (.slice none 0 0) := by
      have h := boxW_new (w1.alloc (.cells #[.slice none 0 0] 114)) (.slice none 0 0) 54
      rw [World.size_alloc] at h
      rw [← hW1]; exact h.step (allocB _ _)
    have hbw := below_nxt HB1.out hL1
    have hI0 : RpI nn (.slice ao L.length cap) L w w1.heap.size [] W1 := ⟨.slice none 0 0, .slice none 0 0, HP1.out.step hL1, hBu, RowM.nil _ _ _, hBt, RowI.nil _ _ _, fun r e => (by cases e), hbw⟩
    rw [hW1]
    clear hW1 hBu hBt hL1 q0 q1 q2 CC
    have HBW := Lib.hid hbw
    obtain ⟨i0, hi0, hx0, hx1, hx2⟩ := info_int
    obtain ⟨i1, hi1, hy0, hy1, hy2⟩ := info_ends
    refine wpIn_rangeO (B := w1.heap.size + 3) hz1 rfl (by omega) (gf := 92) (lb := #[.pointer (some ⟨w1.heap.size + 1 + 1, 0, none⟩)]) rfl trivial (enters_of Tryd.func92 (by kernel_rfl) rfl)
      (Below.refl _ _) (states_stops (nn : Int) (.slice ao L.length cap) L L.length (w1.heap.size + 2) w.heap.size (w1.heap.size + 3) w W1 HS.out rfl hbw hz1 (by omega) (by omega) hPg.2.1 hPg.2.2 hl64 HU.out) (by rintro (h | h | h) <;> omega) (fun _ => rfl)
      (RpI nn (.slice ao L.length cap) L w w1.heap.size) (fun _ _ _ => False) (RpI.abR (by omega)) (fun _ _ _ _ _ h => h.elim) hI0
      (fun x a' W => ∃ g, w1.heap.size + 7 ≤ g ∧ BoxE W g (Sq.bh 6 L x.1) ∧ (∃ c, W.heap[g]? = some (.cells c 105)) ∧ a' = { tmps := #[.agg #[.int .i64 (nn : Int), .slice ao L.length cap], .pointer (some ⟨w.heap.size, 0, none⟩), .slice none 0 0, .int .i64 0, .int .i64 0, .pointer (some ⟨w1.heap.size, 0, none⟩), .pointer (some ⟨w1.heap.size + 1, 0, none⟩), .int .i64 (x.1 : Int), .pointer (some ⟨g, 0, none⟩), .agg #[.int .i64 (nn : Int), .slice ao L.length cap], .int .i64 0, .int .i64 0, .bool false, undef, .agg #[.int .i64 (nn : Int), .slice ao L.length cap], .func (.func 92) #[] #[.pointer (some ⟨w1.heap.size + 1 + 1, 0, none⟩)], .int .i64 (x.1 : Int), Sq.E6 (Sq.bh 6 L x.1), undef, undef, undef, undef, undef, undef, undef, undef, undef, undef, undef, undef, undef, undef, undef, undef, undef, undef, undef], defers := [] }) ?hax ?assign ?body ?done ?stop
    case hax =>
      intro x a' u W W' row ⟨g, hg, hbe, ⟨c, hc⟩, he⟩ hgr hr
      have hbl := hgr.block g hbe.1 (fun e => by have := hr g e.symm; omega)
      exact ⟨g, hg, hbe.block hbl, ⟨c, hbl.trans hc⟩, he⟩
    case assign =>
      intro pre x W K hi hsz hK
      have ez : ∀ T : Array Value, (#[16, 17].zip (Sq.ke L x)).foldl (fun (t : Array Value) (x : Nat × Value) => t.setIfInBounds x.1 x.2) T = (T.setIfInBounds 16 (.int .i64 (x.1 : Int))).setIfInBounds 17 (Sq.E6 (Sq.bh 6 L x.1)) := fun T => by simp [Sq.ke]
      simp only [ez]
      have hk := hK { tmps := #[.agg #[.int .i64 (nn : Int), .slice ao L.length cap], .pointer (some ⟨w.heap.size, 0, none⟩), .slice none 0 0, .int .i64 0, .int .i64 0, .pointer (some ⟨w1.heap.size, 0, none⟩), .pointer (some ⟨w1.heap.size + 1, 0, none⟩), .int .i64 (x.1 : Int), .pointer (some ⟨W.heap.size, 0, none⟩), .agg #[.int .i64 (nn : Int), .slice ao L.length cap], .int .i64 0, .int .i64 0, .bool false, undef, .agg #[.int .i64 (nn : Int), .slice ao L.length cap], .func (.func 92) #[] #[.pointer (some ⟨w1.heap.size + 1 + 1, 0, none⟩)], .int .i64 (x.1 : Int), Sq.E6 (Sq.bh 6 L x.1), undef, undef, undef, undef, undef, undef, undef, undef, undef, undef, undef, undef, undef, undef, undef, undef, undef, undef, undef], defers := [] }
      have hel := Sq.bh_len 6 L x.1
      unfold Sq.E6 at hk ⊢
      generalize hE : Sq.bh 6 L x.1 = E at *
      have hE6 := six_eq hel
      generalize E.getD 0 false = b0 at *
      generalize E.getD 1 false = b1 at *
      generalize E.getD 2 false = b2 at *
      generalize E.getD 3 false = b3 at *
      generalize E.getD 4 false = b4 at *
      generalize E.getD 5 false = b5 at *
      have HK := Lib.hid hk
      have HE6 := Lib.hid hE6
      clear hk hE hE6 hel hK
      gi_wp2
      refine HK.out _ (Rec2.below (allocB _ _) (by omega)) (KpS.below (allocB _ _) (fun b hb => by rcases hb with h | h | h <;> omega)) (by simp; omega) ((RpI.abR (by omega)).alloc _ hi) ⟨W.heap.size, by omega, ?_, ⟨_, World.alloc_heap_new W _⟩, rfl⟩
      rw [HE6.out]; exact boxE_new _ _ _ _ _ _ _ _
    case body =>
      rintro pre x a' W hsz ⟨u, t, hst⟩ ⟨g, hg, hbe, ⟨cg, hcg⟩, rfl⟩ hlen
      obtain ⟨hb1, hb2, hb3⟩ := Sq.rpF_bnd L (pre.map (·.1))
      rw [List.length_map] at hb2 hb3
      have HFE : Hid (Sq.rpF L (pre.map (·.1)) = ((Sq.rpF L (pre.map (·.1))).1, (Sq.rpF L (pre.map (·.1))).2)) := Lib.hid rfl
      have hxl : x.1 ≤ L.length := x.2
      have hel := Sq.bh_len 6 L x.1
      generalize (Sq.rpF L (pre.map (·.1))).1 = M at *
      generalize (Sq.rpF L (pre.map (·.1))).2 = l at *
      obtain ⟨uo, uc, rfl⟩ := hst.ru.form
      obtain ⟨to', tc, rfl⟩ := hst.rt.form
      have HST := Lib.hid hst
      have HM6 := Lib.hid (fun i (hi : i < M.length) => hb1 (M.getD i []) (by rw [List.getD_eq_getElem?_getD, List.getElem?_eq_getElem hi]; exact List.getElem_mem hi))
      have HEE : Hid (Sq.bh 6 L x.1 = Sq.bh 6 L x.1) := Lib.hid rfl
      unfold Sq.E6
      generalize hE : Sq.bh 6 L x.1 = E at HEE hbe hel ⊢
      have hE6 := six_eq hel
      have z0 := hbe.1
      have e0 := hbe.2.1 0 (by omega)
      have e1 := hbe.2.1 1 (by omega)
      have e2 := hbe.2.1 2 (by omega)
      have e3 := hbe.2.1 3 (by omega)
      have e4 := hbe.2.1 4 (by omega)
      have e5 := hbe.2.1 5 (by omega)
      have HBE := Lib.hid hbe
      have HE := Lib.hid hE
      clear HEE hbe hb1 hE
      generalize E.getD 0 false = b0 at *
      generalize E.getD 1 false = b1 at *
      generalize E.getD 2 false = b2 at *
      generalize E.getD 3 false = b3 at *
      generalize E.getD 4 false = b4 at *
      generalize E.getD 5 false = b5 at *
      subst hE6
      have HEE := HE
      obtain ⟨p0, p1, p2⟩ := hst.bs
      obtain ⟨r0, r1, r2⟩ := hst.bu
      obtain ⟨s0, s1, s2⟩ := hst.bt
      have hMl : M.length ≤ 66 := by omega
      have hll : l.length ≤ 66 := by omega
      clear hst hel hb2 hb3 hlen
      by_cases hx : x.1 < L.length
      · have hxz : (x.1 : Int) < (L.length : Int) := by omega
        have CCo := fun V (h : SeeM V (.slice uo M.length uc) M) => Lib.hid (conE_any (.slice uo M.length uc) M [b0, b1, b2, b3, b4, b5] V h rfl HM6.out)
        by_cases hmem : [b0, b1, b2, b3, b4, b5] ∈ M
        · have HIF : Hid ((if x.1 < L.length ∧ Sq.bh 6 L x.1 ∈ M then l ++ [(x.1 : Int)] else l) = l ++ [(x.1 : Int)]) := Lib.hid (by rw [HE.out]; exact if_pos ⟨hx, hmem⟩)
          rw [decide_eq_true hmem] at CCo
          clear hmem
          gi_wp2_with first | (refine ⟨trivial, ?_⟩; gi_at_call 69; refine (CallsIn.inRound (w1.heap.size + 3 + 1) (callsIn_wide.2 ((CCo _ HST.out.ru.sees).out))).mono ?_; rintro e W2 ⟨rfl, hb⟩; have HST2 := Lib.hid (HST.out.below (by omega) hb); have HZ2 := Lib.hid (Nat.le_trans hsz hb.size); have HR2 := Lib.hid (Rec2.below (B := w1.heap.size + 3) hb (by omega)); have HK2 := Lib.hid (KpS.below (Pr := PrS w.heap.size (w1.heap.size + 2) (w1.heap.size + 3)) (T := 70) (B := w1.heap.size + 3) hb (fun b hb => by rcases hb with h | h | h <;> omega)); have HBE2 := Lib.hid (HBE.out.step hb); have HCG2 := Lib.hid ((hb.block g z0).trans hcg); clear hb p0 p1 p2 r0 r1 r2 s0 s1 s2 e0 e1 e2 e3 e4 e5; obtain ⟨p0, p1, p2⟩ := HST2.out.bs; obtain ⟨r0, r1, r2⟩ := HST2.out.bu; obtain ⟨s0, s1, s2⟩ := HST2.out.bt; have z2 := HBE2.out.1; have e0 := HBE2.out.2.1 0 (by omega); have e1 := HBE2.out.2.1 1 (by omega); have e2 := HBE2.out.2.1 2 (by omega); have e3 := HBE2.out.2.1 3 (by omega); have e4 := HBE2.out.2.1 4 (by omega); have e5 := HBE2.out.2.1 5 (by omega)) | (gi_at_builtin; refine wpListIn_append_int1 rfl _ _ 54 rfl 3 i0 Tryd.underlying54 hi0 hx0 hx1 hx2 _ l (x.1 : Int) W2.heap.size rfl rfl (w1.heap.size + 7) ((HST2.out.below (by omega) (allocB _ _)).rt) (by simp) (by omega) (Nat.le_trans HZ2.out (by simp)) ?_; intro a5 p5 w5 hr5 hg5 ho5; have HST3 := Lib.hid ((HST2.out.below (by omega) (allocB W2 (.cells #[.int .i64 (x.1 : Int)] 3))).app_t (by omega) hg5 hr5 ho5); have HK5 := Lib.hid (rp_keep (n0 := w.heap.size) (gb := w1.heap.size + 2) (B0 := w1.heap.size + 1) ((HST2.out.below (by omega) (allocB W2 (.cells #[.int .i64 (x.1 : Int)] 3))).rt) (by decide) hg5 (Nat.le_trans HZ2.out (by simp)) (by omega) rfl (.inr rfl) (.slice a5 (l.length + 1) p5)); have HBT := Lib.hid ((HST2.out.below (by omega) (allocB W2 (.cells #[.int .i64 (x.1 : Int)] 3))).bt.grown hg5 (fun r e => by have := (World.ownsRow.lt HST2.out.rt r e).1; omega)); have hgt := fun (r : Nat) (e : (Value.slice to' l.length tc).ownBlock = some r) => row_obj HST2.out.rt e; have hgne : (Value.slice to' l.length tc).ownBlock ≠ some g := fun e => (by obtain ⟨cur, hcu⟩ := hgt g e; rw [HCG2.out] at hcu; cases hcu); have HBE5 := Lib.hid (((HBE2.out.step (allocB W2 (.cells #[.int .i64 (x.1 : Int)] 3))).block (hg5.block g (Nat.lt_of_lt_of_le z2 (by simp)) (fun e => hgne e.symm)))); have HZ5 := Lib.hid (Nat.le_trans (Nat.le_trans HZ2.out (allocB W2 (.cells #[.int .i64 (x.1 : Int)] 3)).size) hg5.size); have HR5 := Lib.hid ((Rec2.below (B := w1.heap.size + 3) (allocB W2 (.cells #[.int .i64 (x.1 : Int)] 3)) (by have := HZ2.out; omega)).trans HK5.out.1); have HKK5 := Lib.hid ((KpS.below (Pr := PrS w.heap.size (w1.heap.size + 2) (w1.heap.size + 3)) (T := 70) (B := w1.heap.size + 3) (allocB W2 (.cells #[.int .i64 (x.1 : Int)] 3)) (fun b hb => by have := HZ2.out; rcases hb with h | h | h <;> omega)).trans HK5.out.2); have HBU5 := Lib.hid ((HST2.out.below (by omega) (allocB W2 (.cells #[.int .i64 (x.1 : Int)] 3))).bu.grown hg5 (fun r e => by have := (World.ownsRow.lt HST2.out.rt r e).1; omega)); clear hr5 hg5 ho5 hgt hgne p0 p1 p2 r0 r1 r2 s0 s1 s2 e0 e1 e2 e3 e4 e5; obtain ⟨r0, r1, r2⟩ := HBU5.out; obtain ⟨s0, s1, s2⟩ := HBT.out; have z5 := HBE5.out.1; have e0 := HBE5.out.2.1 0 (by omega); have e1 := HBE5.out.2.1 1 (by omega); have e2 := HBE5.out.2.1 2 (by omega); have e3 := HBE5.out.2.1 3 (by omega); have e4 := HBE5.out.2.1 4 (by omega); have e5 := HBE5.out.2.1 5 (by omega); have HZm : Hid (w1.heap.size + 7 ≤ (w5.setCell ⟨w1.heap.size + 1, 0, none⟩ (.slice a5 (l.length + 1) p5)).heap.size) := Lib.hid (by simpa using HZ5.out); have HRm := Lib.hid (HR2.out.trans HR5.out); have HKm := Lib.hid (HK2.out.trans HKK5.out)) | (gi_at_builtin; refine wpListIn_append_ends rfl _ _ 114 rfl 105 i1 Tryd.underlying114 hi1 hy0 hy1 hy2 _ M [b0, b1, b2, b3, b4, b5] w5.heap.size rfl rfl (w1.heap.size + 7) ((HST3.out.below (by omega) (allocB _ _)).ru) (boxE_at _ (by simp) _ _ _ _ _ _ _) (by omega) (Nat.le_trans HZm.out (by simp)) ?_; intro a6 p6 w6 hr6 hg6 ho6; have HS6 := Lib.hid ((HST3.out.below (by omega) (allocB _ _)).app_u (by omega) hg6 hr6 ho6); have HK6 := rp_keep (n0 := w.heap.size) (gb := w1.heap.size + 2) (B0 := w1.heap.size) ((HST3.out.below (by omega) (allocB _ (.cells #[.bool b0, .bool b1, .bool b2, .bool b3, .bool b4, .bool b5] 105))).ru) (by decide) hg6 (Nat.le_trans HZm.out (by simp)) (by omega) rfl (.inl rfl) (.slice a6 (M.length + 1) p6); have HK := Lib.hid HK6; have HBU := Lib.hid ((HST3.out.below (by omega) (allocB _ (.cells #[.bool b0, .bool b1, .bool b2, .bool b3, .bool b4, .bool b5] 105))).bu.grown hg6 (fun r e => by have := (World.ownsRow.lt (HST3.out.ru) r e).1; omega)); obtain ⟨y0, y1, y2⟩ := HBU.out; clear hr6 hg6 ho6 HK6)
          have hrf : Sq.rpF L ((pre ++ [x]).map (·.1)) = (M ++ [[b0, b1, b2, b3, b4, b5]], l ++ [(x.1 : Int)]) := by
            rw [List.map_append, List.map_cons, List.map_nil, Sq.rpF_snoc, HFE.out]
            unfold Sq.rpS
            rw [HIF.out, HEE.out]
          have hf := HS6.out
          have h1 := congrArg Prod.fst hrf
          have h2 := congrArg Prod.snd hrf
          simp only at h1 h2
          rw [← h1, ← h2] at hf
          exact ⟨HRm.out.trans ((Rec2.below (allocB (w5.setCell ⟨w1.heap.size + 1, 0, none⟩ (.slice a5 (l.length + 1) p5)) (.cells #[.bool b0, .bool b1, .bool b2, .bool b3, .bool b4, .bool b5] 105)) (by have := HZm.out; omega)).trans HK.out.1), HKm.out.trans ((KpS.below (allocB (w5.setCell ⟨w1.heap.size + 1, 0, none⟩ (.slice a5 (l.length + 1) p5)) (.cells #[.bool b0, .bool b1, .bool b2, .bool b3, .bool b4, .bool b5] 105)) (fun b hb => by have := HZm.out; rcases hb with h | h | h <;> omega)).trans HK.out.2), _, _, hf⟩
        · have HIF : Hid ((if x.1 < L.length ∧ Sq.bh 6 L x.1 ∈ M then l ++ [(x.1 : Int)] else l) = l) := Lib.hid (by rw [HE.out]; exact if_neg (fun h => hmem h.2))
          rw [decide_eq_false hmem] at CCo
          clear hmem
          gi_wp2_with first | (refine ⟨trivial, ?_⟩; gi_at_call 69; refine (CallsIn.inRound (w1.heap.size + 3 + 1) (callsIn_wide.2 ((CCo _ HST.out.ru.sees).out))).mono ?_; rintro e W2 ⟨rfl, hb⟩; have HST2 := Lib.hid (HST.out.below (by omega) hb); have HZ2 := Lib.hid (Nat.le_trans hsz hb.size); have HR2 := Lib.hid (Rec2.below (B := w1.heap.size + 3) hb (by omega)); have HK2 := Lib.hid (KpS.below (Pr := PrS w.heap.size (w1.heap.size + 2) (w1.heap.size + 3)) (T := 70) (B := w1.heap.size + 3) hb (fun b hb => by rcases hb with h | h | h <;> omega)); have HBE2 := Lib.hid (HBE.out.step hb); have HCG2 := Lib.hid ((hb.block g z0).trans hcg); clear hb p0 p1 p2 r0 r1 r2 s0 s1 s2 e0 e1 e2 e3 e4 e5; obtain ⟨p0, p1, p2⟩ := HST2.out.bs; obtain ⟨r0, r1, r2⟩ := HST2.out.bu; obtain ⟨s0, s1, s2⟩ := HST2.out.bt; have z2 := HBE2.out.1; have e0 := HBE2.out.2.1 0 (by omega); have e1 := HBE2.out.2.1 1 (by omega); have e2 := HBE2.out.2.1 2 (by omega); have e3 := HBE2.out.2.1 3 (by omega); have e4 := HBE2.out.2.1 4 (by omega); have e5 := HBE2.out.2.1 5 (by omega); have HZm := HZ2; have HRm := HR2; have HKm := HK2) | (gi_at_builtin; refine wpListIn_append_ends rfl _ _ 114 rfl 105 i1 Tryd.underlying114 hi1 hy0 hy1 hy2 _ M [b0, b1, b2, b3, b4, b5] W2.heap.size rfl rfl (w1.heap.size + 7) ((HST2.out.below (by omega) (allocB _ _)).ru) (boxE_new _ _ _ _ _ _ _ _) (by omega) (Nat.le_trans HZm.out (by simp)) ?_; intro a6 p6 w6 hr6 hg6 ho6; have HS6 := Lib.hid ((HST2.out.below (by omega) (allocB _ _)).app_u (by omega) hg6 hr6 ho6); have HK6 := rp_keep (n0 := w.heap.size) (gb := w1.heap.size + 2) (B0 := w1.heap.size) ((HST2.out.below (by omega) (allocB _ (.cells #[.bool b0, .bool b1, .bool b2, .bool b3, .bool b4, .bool b5] 105))).ru) (by decide) hg6 (Nat.le_trans HZm.out (by simp)) (by omega) rfl (.inl rfl) (.slice a6 (M.length + 1) p6); have HK := Lib.hid HK6; have HBU := Lib.hid ((HST2.out.below (by omega) (allocB _ (.cells #[.bool b0, .bool b1, .bool b2, .bool b3, .bool b4, .bool b5] 105))).bu.grown hg6 (fun r e => by have := (World.ownsRow.lt (HST2.out.ru) r e).1; omega)); obtain ⟨y0, y1, y2⟩ := HBU.out; clear hr6 hg6 ho6 HK6)
          have hrf : Sq.rpF L ((pre ++ [x]).map (·.1)) = (M ++ [[b0, b1, b2, b3, b4, b5]], l) := by
            rw [List.map_append, List.map_cons, List.map_nil, Sq.rpF_snoc, HFE.out]
            unfold Sq.rpS
            rw [HIF.out, HEE.out]
          have hf := HS6.out
          have h1 := congrArg Prod.fst hrf
          have h2 := congrArg Prod.snd hrf
          simp only at h1 h2
          rw [← h1, ← h2] at hf
          exact ⟨HRm.out.trans ((Rec2.below (allocB W2 (.cells #[.bool b0, .bool b1, .bool b2, .bool b3, .bool b4, .bool b5] 105)) (by have := HZm.out; omega)).trans HK.out.1), HKm.out.trans ((KpS.below (allocB W2 (.cells #[.bool b0, .bool b1, .bool b2, .bool b3, .bool b4, .bool b5] 105)) (fun b hb => by have := HZm.out; rcases hb with h | h | h <;> omega)).trans HK.out.2), _, _, hf⟩
      · have hxz : (L.length : Int) ≤ (x.1 : Int) := by omega
        have HIF : Hid ((if x.1 < L.length ∧ Sq.bh 6 L x.1 ∈ M then l ++ [(x.1 : Int)] else l) = l) := Lib.hid (if_neg (fun h => hx h.1))
        clear hx
        have HZm := Lib.hid hsz
        have HRm := Lib.hid (Rec2.refl (w1.heap.size + 3) W)
        have HKm := Lib.hid (KpS.refl (PrS w.heap.size (w1.heap.size + 2) (w1.heap.size + 3)) 70 (w1.heap.size + 3) W)
        gi_wp2_with first | (gi_at_builtin; refine wpListIn_append_ends rfl _ _ 114 rfl 105 i1 Tryd.underlying114 hi1 hy0 hy1 hy2 _ M [b0, b1, b2, b3, b4, b5] W.heap.size rfl rfl (w1.heap.size + 7) ((HST.out.below (by omega) (allocB _ _)).ru) (boxE_new _ _ _ _ _ _ _ _) (by omega) (Nat.le_trans HZm.out (by simp)) ?_; intro a6 p6 w6 hr6 hg6 ho6; have HS6 := Lib.hid ((HST.out.below (by omega) (allocB _ _)).app_u (by omega) hg6 hr6 ho6); have HK6 := rp_keep (n0 := w.heap.size) (gb := w1.heap.size + 2) (B0 := w1.heap.size) ((HST.out.below (by omega) (allocB _ (.cells #[.bool b0, .bool b1, .bool b2, .bool b3, .bool b4, .bool b5] 105))).ru) (by decide) hg6 (Nat.le_trans HZm.out (by simp)) (by omega) rfl (.inl rfl) (.slice a6 (M.length + 1) p6); have HK := Lib.hid HK6; have HBU := Lib.hid ((HST.out.below (by omega) (allocB _ (.cells #[.bool b0, .bool b1, .bool b2, .bool b3, .bool b4, .bool b5] 105))).bu.grown hg6 (fun r e => by have := (World.ownsRow.lt (HST.out.ru) r e).1; omega)); obtain ⟨y0, y1, y2⟩ := HBU.out; clear hr6 hg6 ho6 HK6) | (refine ⟨trivial, ?_⟩)
        have hrf : Sq.rpF L ((pre ++ [x]).map (·.1)) = (M ++ [[b0, b1, b2, b3, b4, b5]], l) := by
          rw [List.map_append, List.map_cons, List.map_nil, Sq.rpF_snoc, HFE.out]
          unfold Sq.rpS
          rw [HIF.out, HEE.out]
        have hf := HS6.out
        have h1 := congrArg Prod.fst hrf
        have h2 := congrArg Prod.snd hrf
        simp only at h1 h2
        rw [← h1, ← h2] at hf
        exact ⟨HRm.out.trans ((Rec2.below (allocB W (.cells #[.bool b0, .bool b1, .bool b2, .bool b3, .bool b4, .bool b5] 105)) (by have := HZm.out; omega)).trans HK.out.1), HKm.out.trans ((KpS.below (allocB W (.cells #[.bool b0, .bool b1, .bool b2, .bool b3, .bool b4, .bool b5] 105)) (fun b hb => by have := HZm.out; rcases hb with h | h | h <;> omega)).trans HK.out.2), _, _, hf⟩
    case done =>
      rintro xs W hS ⟨u, t, hst⟩ hD
      rw [show xs.map (·.1) = List.range (L.length + 1) from hS] at hst
      generalize Sq.rpF L (List.range (L.length + 1)) = F at *
      obtain ⟨to', tc, rfl⟩ := hst.rt.form
      have HST := Lib.hid hst
      have HDD := Lib.hid hD
      obtain ⟨s0, s1, s2⟩ := hst.bt
      clear hst
      gi_wp2
      refine ⟨by simp, .inl ⟨_, _, rfl, run_takeDeferred HDD.out, ?_⟩⟩
      have hg := grownBy_putObj' W (w1.heap.size + 3) (.deferred none)
      have hrow := HST.out.rt.off hg (fun r e e' => by have := (World.ownsRow.lt HST.out.rt r e').1; cases e; omega)
      exact ⟨.tuple #[.slice to' F.2.length tc, .int .i64 0], by simp [results, Tryd.f32, go_sem], ⟨to', tc, by rw [HVE.out], by rw [HVE.out]; exact hrow.sees, HST.out.be.trans (belowK_b (w := w) (Nat.le_refl _) W (w1.heap.size + 3) _ _ (by omega) HDD.out rfl rfl)⟩⟩
    case stop =>
      rintro c pre W - h
      exact h.elim
  · have hv : Sq.repV n L = ([], Sq.chk n L) := by unfold Sq.repV; rw [if_neg hc]
    rw [hv]
    have hct : (Sq.chk n L != 0) = true := by simpa using hc
    clear hv hc
    generalize Sq.chk n L = c at *
    obtain ⟨p0, p1, p2⟩ := P0
    clear L0 z0
    go_enter Tryd.func32, Tryd.ntmps32
    go_wp2_with fail
    refine ((CC _ (HS.out.step HL0.out)).out).mono ?_
    rintro e w1 ⟨rfl, hb1⟩
    have HB1 := Lib.hid (below_nxt HL0.out hb1)
    clear hb1 p0 p1 p2
    go_wp2
    exact bodyPost_ret (v := .tuple #[.slice none 0 0, .int .i64 c]) (by simp [results, Tryd.f32, go_sem]) rfl ⟨none, 0, rfl, SeeI.nil _, HB1.out⟩
end Go.Proofs.YtjpbccpleflkhaaDoor
