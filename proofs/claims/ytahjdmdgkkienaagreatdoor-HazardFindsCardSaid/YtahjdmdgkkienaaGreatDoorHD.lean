/- Rows of pairs of points. Neighbouring points; whether two points are in a cube together: joins, together, neighbours of package hazard. Whether two points are in one of some cubes: together of package hazard, and its closure. -/
import Derived.Test.YtahjdmdgkkienaaGreatDoorKc
import Derived.Test.YtahjdmdgkkienaaGreatDoorHB
import Derived.Test.YtahjdmdgkkienaaGreatDoorVp
import Derived.Test.YtahjdmdgkkienaaGreatDoorShelf
namespace Hz
open Go
def encP (x : Nat × Nat) : List Value := [.int .i64 (x.1 : Int), .int .i64 (x.2 : Int)]
theorem flat_len (l : List (Nat × Nat)) : (l.flatMap encP).length = l.length * 2 := by
  induction l with
  | nil => rfl
  | cons x l ih => simp [ih, encP]; omega
theorem flat_get (l : List (Nat × Nat)) (j c : Nat) (hj : j < l.length) (hc : c < 2) : (l.flatMap encP)[j * 2 + c]? = (encP (l.getD j (0, 0)))[c]? := by
  induction l generalizing j with
  | nil => simp at hj
  | cons x l ih =>
    rcases Nat.eq_zero_or_pos j with rfl | hp
    · rcases (show c = 0 ∨ c = 1 by omega) with rfl | rfl <;> simp [encP]
    · obtain ⟨i, rfl⟩ : ∃ i, j = i + 1 := ⟨j - 1, by omega⟩
      have := ih i (by simpa using hj)
      rw [List.flatMap_cons, List.getElem?_append_right (by simp [encP]; omega)]
      rw [show (i + 1) * 2 + c - (encP x).length = i * 2 + c by simp [encP]; omega, this]
      simp
end Hz
namespace Go.Proofs.YtahjdmdgkkienaaGreatDoor
open Go.RowKit Go.Shelf

theorem RowC.sees {B : Nat} {e : TypeId} {w : World} {v : Value} {l : List (Nat × Nat)} (h : RowC B e w v l) : SeesC w v l := by
  have hc := fun g hg => World.ownsRow.cells h (g := g) hg
  have hlt := World.ownsRow.lt h
  rcases h with ⟨h0, ⟨rfl, h2⟩ | ⟨g, cap, cur, rfl, h1, h2, h3⟩⟩
  · exact .inl ⟨rfl, List.eq_nil_of_length_eq_zero h2⟩
  · have hk := hc g rfl
    refine .inr ⟨g, cap, rfl, by omega, by omega, (hlt g rfl).2, fun i hi => ⟨?_, ?_⟩⟩
    · have := hk (i * 2) (.int .u64 ((l.getD i (0, 0)).1 : Int)) ((Ic.flat_get l i 0 hi (by omega)).trans rfl)
      rwa [addr_add] at this
    · have := hk (i * 2 + 1) (.int .u64 ((l.getD i (0, 0)).2 : Int)) ((Ic.flat_get l i 1 hi (by omega)).trans rfl)
      rwa [addr_add] at this

/-- A slice value reads as a list of pairs. -/
def SeesP (w : World) (v : Value) (l : List (Nat × Nat)) : Prop :=
  (v = .slice none 0 0 ∧ l = []) ∨
  ∃ g cap, v = .slice (some ⟨g, 0, none⟩) l.length cap ∧ l.length ≤ cap ∧ cap ≤ maxLen ∧ g < w.heap.size ∧
    ∀ i, i < l.length → w.cell? ⟨g, i * 2, none⟩ = some (.int .i64 ((l.getD i (0, 0)).1 : Int)) ∧ w.cell? ⟨g, i * 2 + 1, none⟩ = some (.int .i64 ((l.getD i (0, 0)).2 : Int))
theorem SeesP.step {w w' : World} {v : Value} {l : List (Nat × Nat)} (h : SeesP w v l) (hb : Below w.heap.size w w') : SeesP w' v l := by
  rcases h with h | ⟨g, cap, rfl, h1, h2, h3, h4⟩
  · exact .inl h
  · exact .inr ⟨g, cap, rfl, h1, h2, Nat.lt_of_lt_of_le h3 hb.size, fun i hi => ⟨(hb.cell (p := ⟨g, i * 2, none⟩) h3).trans (h4 i hi).1, (hb.cell (p := ⟨g, i * 2 + 1, none⟩) h3).trans (h4 i hi).2⟩⟩

/-- Where the pairs lie, if there are any. -/
def CellsP (w : World) (ao : Option Addr) (l : List (Nat × Nat)) : Prop :=
  0 < l.length → ∃ g, ao = some ⟨g, 0, none⟩ ∧ g < w.heap.size ∧ ∀ i, i < l.length → w.cell? ⟨g, i * 2, none⟩ = some (.int .i64 ((l.getD i (0, 0)).1 : Int)) ∧ w.cell? ⟨g, i * 2 + 1, none⟩ = some (.int .i64 ((l.getD i (0, 0)).2 : Int))
theorem SeesP.opened {w : World} {v : Value} {l : List (Nat × Nat)} (h : SeesP w v l) : ∃ ao cap, v = .slice ao l.length cap ∧ l.length ≤ cap ∧ cap ≤ 9223372036854775807 ∧ CellsP w ao l := by
  rcases h with ⟨rfl, rfl⟩ | ⟨g, cap, rfl, h1, h2, h3, h4⟩
  · exact ⟨none, 0, rfl, Nat.le_refl _, by omega, fun h => by simp at h⟩
  · exact ⟨_, cap, rfl, h1, by unfold maxLen at h2; omega, fun _ => ⟨g, rfl, h3, h4⟩⟩
theorem CellsP.at {w wr : World} {ao : Option Addr} {l : List (Nat × Nat)} (h : CellsP w ao l) (hb : Below w.heap.size w wr) {i : Nat} (hi : i < l.length) :
    ∃ g, ao = some ⟨g, 0, none⟩ ∧ g < w.heap.size ∧ wr.cell? ⟨g, i * 2, none⟩ = some (.int .i64 ((l.getD i (0, 0)).1 : Int)) ∧ wr.cell? ⟨g, i * 2 + 1, none⟩ = some (.int .i64 ((l.getD i (0, 0)).2 : Int)) := by
  obtain ⟨g, h1, h2, h3⟩ := h (by omega)
  exact ⟨g, h1, h2, (hb.cell (p := ⟨g, i * 2, none⟩) h2).trans (h3 i hi).1, (hb.cell (p := ⟨g, i * 2 + 1, none⟩) h2).trans (h3 i hi).2⟩

/-- A row of pairs that is the call's own. -/
def RowP (B : Nat) (e : TypeId) (w : World) (v : Value) (l : List (Nat × Nat)) : Prop := w.ownsRow B e 2 v l.length (l.flatMap Hz.encP)
theorem RowP.below {B : Nat} {e : TypeId} {w w' : World} {v : Value} {l : List (Nat × Nat)} (h : RowP B e w v l) {C : Nat} (hb : Below C w w') (hC : w.heap.size ≤ C) : RowP B e w' v l := by
  rcases h with ⟨h0, h | ⟨g, cap, cur, h', h1, h2, h3⟩⟩
  · exact ⟨h0, .inl h⟩
  · exact ⟨h0, .inr ⟨g, cap, cur, h', h1, by rw [hb.block g (Nat.lt_of_lt_of_le (Array.getElem?_eq_some_iff.1 h2).1 hC)]; exact h2, h3⟩⟩
theorem RowP.nil (B : Nat) (e : TypeId) (w : World) : RowP B e w (.slice none 0 0) [] := World.ownsRow_nil _ _ _ _

/-- 'append' of a pair to a slice of the call's own. -/
theorem wpList_append_pair {P : Program} {w : World} {ops : Array Oper} {rest : List Oper} {o : Oper} {a : Act} {Q : Exit → Act → World → Prop} (hgd : o.guard = none) (s x : Operand) (t : TypeId)
    (ho : o.op = .call { callee := .builtin .append, args := #[s, x], argTypes := #[t, t] })
    (e : TypeId) (i : TypeInfo) (ht : P.underlying t = some (.slice e)) (hi : P.info? e = some i) (hz : i.zero = some (.agg #[.int .i64 0, .int .i64 0])) (hsize : i.size = 2) (hby : i.bytes = 16)
    (v : Value) (l : List (Nat × Nat)) (y : Nat × Nat) (g : Nat) (hs : a.eval s = v) (hx : a.eval x = .slice (some ⟨g, 0, none⟩) 1 1) (B : Nat) (hown : RowP B e w v l)
    (h0 : w.cell? ⟨g, 0, none⟩ = some (.int .i64 (y.1 : Int))) (h1 : w.cell? ⟨g, 1, none⟩ = some (.int .i64 (y.2 : Int))) (hlen : l.length ≤ 1048576) (hB : B ≤ w.heap.size)
    (h : ∀ v' w', RowP B e w' v' (l ++ [y]) → Below B w w' → wpList P ops Q rest (a.put o.dst v') w') : wpList P ops Q (o :: rest) a w := by
  refine wpList_append_own w hgd s x t ho B e i (.agg #[.int .i64 0, .int .i64 0]) 2 16 ht hi hz hsize hby rfl (by omega) v l.length _ hs hown ⟨g, 0, none⟩ 1 1 [.int .i64 (y.1 : Int), .int .i64 (y.2 : Int)] hx (by simp) ?_ ?_ (by unfold maxLen; omega) ?_ hB ?_
  · intro j u hj
    rw [addr_add]
    rcases j with _ | _ | j
    · simp at hj; subst hj; exact h0
    · simp at hj; subst hj; exact h1
    · simp at hj
  · simp [Value.oneCell']
  · omega
  · intro v' w' r1 r2 r3
    refine h v' w' ?_ ((Below.refl _ _).grown r2 hB (fun g hg => (World.ownsRow.lt hown g hg).1))
    unfold RowP
    rw [List.length_append, List.flatMap_append]
    exact r1

theorem info_pair : ∃ i : TypeInfo, Tryz.prog.info? 56 = some i ∧ i.zero = some (.agg #[.int .i64 0, .int .i64 0]) ∧ i.size = 2 ∧ i.bytes = 16 := by
  have h : (Tryz.prog.info? 56).map (fun i => (i.zero, i.size, i.bytes)) = some (some (.agg #[.int .i64 0, .int .i64 0]), 2, 16) := by kernel_rfl
  obtain ⟨i, h1, h2⟩ := Option.map_eq_some_iff.1 h
  simp only [Prod.mk.injEq] at h2
  exact ⟨i, h1, h2⟩

theorem RowP.sees {B : Nat} {e : TypeId} {w : World} {v : Value} {l : List (Nat × Nat)} (h : RowP B e w v l) : SeesP w v l := by
  have hc := fun g hg => World.ownsRow.cells h (g := g) hg
  have hlt := World.ownsRow.lt h
  rcases h with ⟨h0, ⟨rfl, h2⟩ | ⟨g, cap, cur, rfl, h1, h2, h3⟩⟩
  · exact .inl ⟨rfl, List.eq_nil_of_length_eq_zero h2⟩
  · have hk := hc g rfl
    refine .inr ⟨g, cap, rfl, by omega, by omega, (hlt g rfl).2, fun i hi => ⟨?_, ?_⟩⟩
    · have := hk (i * 2) (.int .i64 ((l.getD i (0, 0)).1 : Int)) ((Hz.flat_get l i 0 hi (by omega)).trans rfl)
      rwa [addr_add] at this
    · have := hk (i * 2 + 1) (.int .i64 ((l.getD i (0, 0)).2 : Int)) ((Hz.flat_get l i 1 hi (by omega)).trans rfl)
      rwa [addr_add] at this

end Go.Proofs.YtahjdmdgkkienaaGreatDoor

namespace Hz
/-- Are two points in one cube? -/
def jn (c : Nat × Nat) (p : Nat × Nat) : Bool := Ic.inn c.1 c.2 p.1 && Ic.inn c.1 c.2 p.2
def inB (l : List Nat) (x : Nat) : Bool := l.contains x
/-- The neighbours of a point, over the variables below i. -/
def nbI (b p : Nat) : Nat → List (Nat × Nat)
  | 0 => []
  | i + 1 => if p ||| 2 ^ i ≠ p ∧ b.testBit (p ||| 2 ^ i) = true then nbI b p i ++ [(p, p ||| 2 ^ i)] else nbI b p i
def nbr (n b : Nat) (L : List Nat) : List (Nat × Nat) := L.flatMap fun p => nbI b p n
def nbrs (n b : Nat) : List (Nat × Nat) := nbr n b (Tt.pts (fun k => b.testBit k) (2 ^ n))
theorem nbI_len (b p : Nat) : ∀ i, (nbI b p i).length ≤ i
  | 0 => Nat.le_refl _
  | i + 1 => by
    have := nbI_len b p i
    unfold nbI; split
    · rw [List.length_append]; simp; omega
    · omega
theorem nbr_len (n b : Nat) : ∀ (L : List Nat), (nbr n b L).length ≤ n * L.length
  | [] => by simp [nbr]
  | p :: L => by
    have h1 := nbI_len b p n
    have h2 := nbr_len n b L
    unfold nbr at *
    rw [List.flatMap_cons, List.length_append, List.length_cons, Nat.mul_succ]; omega
theorem nbr_at {n b : Nat} {L : List Nat} {j : Nat} (h : j < L.length) : nbr n b (L.take (j + 1)) = nbr n b (L.take j) ++ nbI b (L.getD j 0) n := by
  rw [List.take_add_one, List.getElem?_eq_getElem h, Option.toList_some, List.getD_eq_getElem?_getD, List.getElem?_eq_getElem h, Option.getD_some]
  unfold nbr
  rw [List.flatMap_append]
  simp
theorem or_small : ∀ p : Nat, p < 64 → ∀ i : Nat, i < 6 → Go.bits .or .i64 (p : Int) (Go.RowKit.wrap64 ((2 : Int) ^ i)) = ((p ||| 2 ^ i : Nat) : Int) := by decide +kernel
def tog (l : List (Nat × Nat)) (p : Nat × Nat) : Bool := l.any fun c => jn c p
end Hz
namespace Go.Proofs.YtahjdmdgkkienaaGreatDoor
open Go.RowKit Go.Shelf

set_option maxHeartbeats 4000000 in
set_option maxRecDepth 100000 in
theorem iCov_ok (n c v k : Nat) (w : World) (hn : n ≤ 6) (hc : c < 2 ^ n) (hs : Ic.Sub v c) (hk : k < 2 ^ n) :
    Calls Tryz.prog 63 #[.int .i64 n, .agg #[.int .u64 c, .int .u64 v], .int .i64 k] w fun e w' => e = .returned (.tuple #[.bool (Ic.inn c v k), .int .i64 0]) ∧ Below w.heap.size w w' := by
  have h := iCovers_any n c v k w (Ic.w64 hn hc) (Ic.w64 hn (hs.lt hc))
  have he : Ic.covV n c v k = (Ic.inn c v k, 0) := by
    unfold Ic.covV
    have e : ((2 : Int) ^ n) = ((2 ^ n : Nat) : Int) := by simp
    rw [Ic.chk_of hn hc hs, if_neg (by simp), Int.toNat_natCast, if_neg (by rw [e]; omega), Int.toNat_natCast]
  rw [he] at h
  exact h

set_option maxHeartbeats 4000000 in
set_option maxRecDepth 100000 in
theorem hJoins_any (n c v x y : Nat) (w : World) (hn : n ≤ 6) (hc : c < 2 ^ n) (hs : Ic.Sub v c) (hx : x < 2 ^ n) (hy : y < 2 ^ n) :
    Calls Tryz.prog 38 #[.int .i64 n, .agg #[.int .u64 c, .int .u64 v], .agg #[.int .i64 x, .int .i64 y]] w fun e w' => e = .returned (.bool (Hz.jn (c, v) (x, y))) ∧ Below w.heap.size w w' := by
  have C1 := fun W => Lib.hid (iCov_ok n c v x W hn hc hs hx)
  have C2 := fun W => Lib.hid (iCov_ok n c v y W hn hc hs hy)
  have hj : Hz.jn (c, v) (x, y) = (Ic.inn c v x && Ic.inn c v y) := rfl
  rw [hj]
  clear hj
  generalize Ic.inn c v x = b1 at *
  generalize Ic.inn c v y = b2 at *
  clear hc hs hx hy
  obtain ⟨P0, L0, z0⟩ := cub1_new w c v 62
  generalize hX : w.alloc (.cells #[.int .u64 (c : Int), .int .u64 (v : Int)] 62) = X at *
  obtain ⟨P1, L1, z1⟩ := chI_new X x y 56
  replace P0 := P0.step L1
  replace L0 := Lib.hid (below_nxt L0 L1)
  generalize hY : X.alloc (.cells #[.int .i64 (x : Int), .int .i64 (y : Int)] 56) = Y at *
  clear L1 z1 z0
  obtain ⟨p0, p1, p2, -, -⟩ := id P0
  obtain ⟨q0, q1, q2⟩ := id P1
  cases b1 <;> cases b2
  all_goals
    go_enter Tryz.func38, Tryz.ntmps38
    go_wp2_with fail
    refine ((C1 _).out).mono ?_
    rintro e w1 ⟨rfl, hb⟩
    obtain ⟨r0, r1, r2, -, -⟩ := P0.step hb
    obtain ⟨s0, s1, s2⟩ := P1.step hb
    have HB1 := Lib.hid (below_nxt L0.out hb)
    clear hb p1 p2 q1 q2 P0 P1
    go_wp2_with fail
    refine ((C2 _).out).mono ?_
    rintro e w2 ⟨rfl, hb⟩
    have HB2 := Lib.hid (below_nxt HB1.out hb)
    clear hb
    go_wp2
    exact bodyPost_ret (v := .bool _) (by simp [results, Tryz.results38, go_sem]) rfl ⟨rfl, HB2.out⟩

/-- slices.Contains of a slice that reads as a list. -/
theorem sContains_any (v : Value) (l : List Nat) (x : Nat) (w : World) (hl : l.length ≤ 1048576) (h1 : Sees .i64 w v l) : Calls Tryz.prog 58 #[v, .int .i64 x] w fun e w' => e = .returned (.bool (Hz.inB l x)) ∧ w = w' := by
  rcases Nat.eq_zero_or_pos l.length with h0 | hp
  · obtain rfl := List.eq_nil_of_length_eq_zero h0
    obtain ⟨a1, c1, rfl, _, _⟩ := h1.form
    refine (Tryz.slices_Contains_int_empty a1 c1 x w).mono ?_
    rintro e w' ⟨rfl, rfl⟩
    exact ⟨rfl, rfl⟩
  · obtain ⟨b1, o1, c1, rfl, _, _, _, k1⟩ := h1.pos hp
    have e1 : ∀ j, (l.map (fun n : Nat => (n : Int))).getD j 0 = ((l.getD j 0 : Nat) : Int) := by
      intro j
      simp only [List.getD_eq_getElem?_getD, List.getElem?_map]
      cases l[j]? <;> simp
    refine (Tryz.slices_Contains_int b1 o1 l.length c1 (l.map fun n : Nat => (n : Int)) x w (by simp) (by omega) (fun j hj => by rw [e1]; exact k1 j (by simpa using hj))).mono ?_
    rintro e w' ⟨rfl, rfl⟩
    refine ⟨?_, rfl⟩
    have e2 : ((l.map fun n : Nat => (n : Int)).take l.length).contains (x : Int) = Hz.inB l x := by
      rw [List.take_of_length_le (by simp)]
      unfold Hz.inB
      rw [Bool.eq_iff_iff, List.contains_iff_mem, List.contains_iff_mem, List.mem_map]
      constructor
      · rintro ⟨a, ha, h⟩
        obtain rfl := Int.ofNat.inj h
        exact ha
      · exact fun h => ⟨x, h, rfl⟩
    rw [e2]

set_option maxHeartbeats 4000000 in
set_option maxRecDepth 100000 in
theorem hNb_ok (n b : Nat) (w : World) (hn : n ≤ 6) (hb : b < 2 ^ 2 ^ n) (hst : Stz w) :
    Calls Tryz.prog 32 #[.agg #[.int .i64 n, .int .u64 b]] w fun e w' => ∃ v, e = .returned v ∧ SeesP w' v (Hz.nbrs n b) ∧ Below w.heap.size w w' := by
  have CP := fun W h => Lib.hid (tPoints_ok n b W hn hb h)
  obtain ⟨P0, L0, z0⟩ := tab1_new w n b 29
  generalize hX : w.alloc (.cells #[.int .i64 n, .int .u64 b] 29) = X at *
  obtain ⟨p0, p1, p2, p3, p4⟩ := id P0
  have HST := Lib.hid (hst.next L0)
  have HL0 := Lib.hid L0
  unfold Hz.nbrs
  obtain ⟨i0, hi0, hz0, hz1, hz2⟩ := info_pair
  have hN := Tt.size_le hn
  have HM := Lib.hid (fun j (hj : j < (Tt.pts (fun k => b.testBit k) (2 ^ n)).length) => show (Tt.pts (fun k => b.testBit k) (2 ^ n)).getD j 0 < 64 from by
    have : (Tt.pts (fun k => b.testBit k) (2 ^ n)).getD j 0 ∈ Tt.pts (fun k => b.testBit k) (2 ^ n) := by
      rw [List.getD_eq_getElem?_getD, List.getElem?_eq_getElem hj]; exact List.getElem_mem hj
    generalize (Tt.pts (fun k => b.testBit k) (2 ^ n)).getD j 0 = y at *
    unfold Tt.pts at this
    rw [List.mem_filter, List.mem_range] at this
    omega)
  have HIN := Lib.hid (fun x => show Hz.inB (Tt.pts (fun k => b.testBit k) (2 ^ n)) x = b.testBit x from by
    unfold Hz.inB Tt.pts
    rw [Bool.eq_iff_iff, List.contains_iff_mem, List.mem_filter, List.mem_range]
    constructor
    · exact fun h => h.2
    · exact fun h => ⟨Ic.bit_lt hb h, h⟩)
  have hLlen := Tt.pts_len (fun k => b.testBit k) (2 ^ n)
  have HLen := Lib.hid (fun j => Hz.nbr_len n b ((Tt.pts (fun k => b.testBit k) (2 ^ n)).take j))
  have HI := Lib.hid (fun p i => Hz.nbI_len b p i)
  have HAt := Lib.hid (fun j (hj : j < (Tt.pts (fun k => b.testBit k) (2 ^ n)).length) => Hz.nbr_at (n := n) (b := b) hj)
  have HE : Hid (Hz.nbr n b ((Tt.pts (fun k => b.testBit k) (2 ^ n)).take (Tt.pts (fun k => b.testBit k) (2 ^ n)).length) = Hz.nbr n b (Tt.pts (fun k => b.testBit k) (2 ^ n))) := Lib.hid (by rw [List.take_length])
  generalize Tt.pts (fun k => b.testBit k) (2 ^ n) = L at *
  have CI := fun x W h => Lib.hid (sContains_any (.slice none 0 0) L x W (by omega) h)
  clear CI
  go_enter Tryz.func32, Tryz.ntmps32
  go_wp2_with fail
  refine ((CP _ HST.out).out).mono ?_
  rintro e w1 ⟨pv, rfl, hs, hb1⟩
  have P1 := P0.step hb1
  have HB1 := Lib.hid (below_nxt HL0.out hb1)
  have hw1 := P1.1
  have CI := fun x W h => Lib.hid (sContains_any pv L x W (by omega) h)
  have HS := Lib.hid hs
  obtain ⟨ao, cap, rfl, hcap1, hcap2, hcells⟩ := hs.opened
  have HC := Lib.hid hcells
  clear hb1 p1 p2 p3 p4 P0 L0 hcells hs hb CP
  go_wp2_with fail
  go_loopw [5, 17] (fun s5 s17 wr => ∃ j : Nat, j ≤ L.length ∧ s17 = .int .i64 j ∧ RowP w1.heap.size 56 wr s5 (Hz.nbr n b (L.take j)) ∧ Hid (Below w1.heap.size w1 wr)) (fun _ s17 _ => L.length - (intOf s17).toNat)
  case atStart => exact ⟨0, Nat.zero_le _, rfl, RowP.nil _ _ _, Lib.hid (Below.refl _ _)⟩
  case round =>
    obtain ⟨j, hj, rfl, hrow, HB⟩ := hrel
    have RW := Lib.hid hrow
    clear hrow
    by_cases hjl : j < L.length
    · obtain ⟨g, off, rfl, hg, c1⟩ := HC.out.at HB.out hjl
      have hp := HM.out j hjl
      have HA := Lib.hid (HAt.out j hjl)
      have hnl := HLen.out j
      have htl : (L.take j).length ≤ 64 := by rw [List.length_take]; omega
      clear HAt HLen HM
      obtain ⟨r0, r1, r2, r3, r4⟩ := P1.step HB.out
      generalize L.getD j 0 = p at *
      obtain ⟨wo, rfl⟩ : ∃ wo, wo = wr := ⟨_, rfl⟩
      obtain ⟨q, hq⟩ : ∃ q, Hz.nbr n b (L.take j) = q := ⟨_, rfl⟩
      rw [hq] at RW HA hnl
      have hql : q.length ≤ 6 * 64 := by
        refine Nat.le_trans hnl ?_
        exact Nat.mul_le_mul hn htl
      clear hq hnl
      go_wp2
      go_loopw [5, 23] (fun s5 s23 wr => ∃ i : Nat, i ≤ n ∧ s23 = .int .i64 i ∧ RowP w1.heap.size 56 wr s5 (q ++ Hz.nbI b p i) ∧ Hid (Below w1.heap.size w1 wr)) (fun _ s23 _ => n - (intOf s23).toNat)
      case atStart => exact ⟨0, Nat.zero_le _, rfl, by simpa [Hz.nbI] using RW.out, HB⟩
      case round =>
        clear HB RW
        obtain ⟨i, hi, rfl, hrow, HB⟩ := hrel
        have RW := Lib.hid hrow
        clear hrow
        by_cases hin : i < n
        · have e1 := Hz.or_small p hp i (by omega)
          have hil := HI.out p i
          have hS : Hz.nbI b p (i + 1) = if p ||| 2 ^ i ≠ p ∧ b.testBit (p ||| 2 ^ i) = true then Hz.nbI b p i ++ [(p, p ||| 2 ^ i)] else Hz.nbI b p i := rfl
          have hBx := HIN.out (p ||| 2 ^ i)
          have CIi := CI (p ||| 2 ^ i)
          rw [hBx] at CIi
          have hsz := HB.out.size
          clear CI hBx
          generalize Hz.nbI b p i = t at *
          generalize p ||| 2 ^ i = x at *
          by_cases hxp : x = p
          · have HT : Hid (Hz.nbI b p (i + 1) = t) := Lib.hid (by rw [hS, if_neg (by simp [hxp])])
            subst hxp
            clear hS
            go_wp2_with fail
            exact ⟨⟨i + 1, by omega, rfl, by rw [HT.out]; exact RW.out, HB⟩, by simp [intOf]; omega⟩
          · have hne : ¬ ((x : Int) = (p : Int)) := fun e => hxp (Int.ofNat_inj.1 e)
            cases hbx : b.testBit x
            · have HT : Hid (Hz.nbI b p (i + 1) = t) := Lib.hid (by rw [hS, if_neg (by simp [hbx])])
              rw [hbx] at CIi
              clear hS hbx
              go_wp2_with (go_at_call 58; (with_reducible refine ((CIi _ (HS.out.below HB.out (Nat.le_refl _))).out).mono ?_); rintro e w3 ⟨rfl, rfl⟩)
              exact ⟨⟨i + 1, by omega, rfl, by rw [HT.out]; exact RW.out, HB⟩, by simp [intOf]; omega⟩
            · have HT : Hid (Hz.nbI b p (i + 1) = t ++ [(p, x)]) := Lib.hid (by rw [hS, if_pos ⟨hxp, hbx⟩])
              rw [hbx] at CIi
              clear hS hbx
              go_wp2_with (first | (go_at_call 58; (with_reducible refine ((CIi _ (HS.out.below HB.out (Nat.le_refl _))).out).mono ?_); rintro e w3 ⟨rfl, rfl⟩) | (at_builtin; refine wpList_append_pair rfl _ _ 46 rfl 56 i0 Tryz.underlying46 hi0 hz0 hz1 hz2 _ (q ++ t) (p, x) wr.heap.size rfl rfl w1.heap.size (RW.out.below ((Below.refl _ _).alloc (Nat.le_refl _) _) (Nat.le_refl _)) (by simp) (by simp) (by simp; omega) (by simp; omega) ?_; intro v5 w5 hr5 hb5))
              exact ⟨⟨i + 1, by omega, rfl, by rw [HT.out, ← List.append_assoc]; exact hr5, Lib.hid ((HB.out.alloc HB.out.size _).trans hb5)⟩, by simp [intOf]; omega⟩
        · obtain rfl : i = n := by omega
          go_wp2
          exact ⟨⟨j + 1, by omega, rfl, by rw [HA.out]; exact RW.out, HB⟩, by simp [intOf]; omega⟩
    · obtain rfl : j = L.length := by omega
      go_wp2
      exact bodyPost_ret (v := u5) (by simp [results, Tryz.results32, go_sem]) rfl ⟨u5, rfl, by have := RW.out.sees; rwa [HE.out] at this, HB1.out.trans (HB.out.mono HB1.out.size)⟩
end Go.Proofs.YtahjdmdgkkienaaGreatDoor

namespace Hz
/-- The first place with something, or -1. -/
def Fnd (p : Nat × Nat → Bool) (l : List (Nat × Nat)) (r : Int) : Prop := (r = -1 ∧ l.find? p = none) ∨ ∃ i : Nat, r = i ∧ i < l.length ∧ l.find? p = some (l.getD i (0, 0))
theorem fnd_none {p : Nat × Nat → Bool} {l : List (Nat × Nat)} (h : ∀ j, j < l.length → p (l.getD j (0, 0)) = false) : Fnd p l (-1) := by
  refine .inl ⟨rfl, List.find?_eq_none.2 fun x hx => ?_⟩
  obtain ⟨j, hj, rfl⟩ := List.getElem_of_mem hx
  have := h j hj
  rw [List.getD_eq_getElem?_getD, List.getElem?_eq_getElem hj] at this
  simpa using this
theorem find_at : ∀ (p : Nat × Nat → Bool) (l : List (Nat × Nat)) (i : Nat), i < l.length → (∀ j, j < i → p (l.getD j (0, 0)) = false) → p (l.getD i (0, 0)) = true → l.find? p = some (l.getD i (0, 0))
  | p, [], i, h, _, _ => by simp at h
  | p, x :: l, 0, _, _, h2 => by
    rw [List.find?_cons]
    have : p x = true := by simpa using h2
    rw [this]; rfl
  | p, x :: l, i + 1, h, h1, h2 => by
    rw [List.find?_cons]
    have : p x = false := by simpa using h1 0 (by omega)
    rw [this]
    have := find_at p l i (by simpa using h) (fun j hj => by simpa using h1 (j + 1) (by omega)) (by simpa using h2)
    simpa using this
theorem fnd_one {p : Nat × Nat → Bool} {l : List (Nat × Nat)} {i : Nat} (h1 : i < l.length) (h2 : ∀ j, j < i → p (l.getD j (0, 0)) = false) (h3 : p (l.getD i (0, 0)) = true) : Fnd p l i := .inr ⟨i, rfl, h1, find_at p l i h1 h2 h3⟩
theorem before_succ {p : Nat × Nat → Bool} {l : List (Nat × Nat)} {i : Nat} (h2 : ∀ j, j < i → p (l.getD j (0, 0)) = false) (h3 : p (l.getD i (0, 0)) = false) (j : Nat) (hj : j < i + 1) : p (l.getD j (0, 0)) = false := by
  by_cases e : j = i
  · rw [e]; exact h3
  · exact h2 j (by omega)
theorem fnd_any {p : Nat × Nat → Bool} {l : List (Nat × Nat)} {r : Int} (h : Fnd p l r) : decide (0 ≤ r) = l.any p := by
  rcases h with ⟨rfl, h⟩ | ⟨i, rfl, hi, h⟩
  · rw [List.find?_eq_none] at h
    have : l.any p = false := List.any_eq_false.2 fun x hx => h x hx
    rw [this]; rfl
  · have h2 := List.find?_some h
    have h3 := List.mem_of_find?_eq_some h
    have : l.any p = true := List.any_eq_true.2 ⟨_, h3, h2⟩
    rw [this]; simp
end Hz
namespace Go.Proofs.YtahjdmdgkkienaaGreatDoor
open Go.RowKit Go.Shelf

/-- The box of a number. -/
def NumI (W : World) (g : Nat) (n : Nat) : Prop := g < W.heap.size ∧ W.cell? ⟨g, 0, none⟩ = some (.int .i64 (n : Int))
theorem NumI.step {W W' : World} {g n : Nat} (h : NumI W g n) (hb : Below W.heap.size W W') : NumI W' g n :=
  ⟨Nat.lt_of_lt_of_le h.1 hb.size, (hb.cell (p := ⟨g, 0, none⟩) h.1).trans h.2⟩

set_option maxHeartbeats 4000000 in
set_option maxRecDepth 100000 in
theorem hTog1_any (n c v x y A B : Nat) (w : World) (hn : n ≤ 6) (hc : c < 2 ^ n) (hs : Ic.Sub v c) (hx : x < 2 ^ n) (hy : y < 2 ^ n) (hA : NumI w A n) (hB : ChI w B x y) :
    Calls Tryz.prog 60 #[.agg #[.int .u64 c, .int .u64 v], .pointer (some ⟨A, 0, none⟩), .pointer (some ⟨B, 0, none⟩)] w fun e w' => e = .returned (.bool (Hz.jn (c, v) (x, y))) ∧ Below w.heap.size w w' := by
  have CJ := fun W => Lib.hid (hJoins_any n c v x y W hn hc hs hx hy)
  generalize Hz.jn (c, v) (x, y) = r at *
  obtain ⟨P0, L0, z0⟩ := cub1_new w c v 62
  obtain ⟨a0, a1⟩ := hA.step L0
  obtain ⟨b0, b1, b2⟩ := hB.step L0
  obtain ⟨p0, p1, p2, -, -⟩ := P0
  generalize hX : w.alloc (.cells #[.int .u64 (c : Int), .int .u64 (v : Int)] 62) = X at *
  have HL0 := Lib.hid L0
  clear hA hB L0 hc hs hx hy
  go_enter Tryz.func60, Tryz.ntmps60
  go_wp2_with (go_at_call 38; (with_reducible refine ((CJ _).out).mono ?_); rintro e w1 ⟨rfl, hb⟩; have HB := Lib.hid (below_nxt HL0.out hb); clear hb)
  go_ret
  exact ⟨rfl, HB.out⟩

set_option maxHeartbeats 2000000 in
set_option maxRecDepth 100000 in
theorem hIdx_any (A B : Nat) (p : Nat × Nat → Bool) (l : List (Nat × Nat)) (v : Value) (w : World) (hs : SeesO w v l)
    (CF : ∀ i, i < l.length → ∀ W, Below w.heap.size w W → Hid (Calls Tryz.prog 60 #[.agg #[.int .u64 ((l.getD i (0, 0)).1 : Int), .int .u64 ((l.getD i (0, 0)).2 : Int)], .pointer (some ⟨A, 0, none⟩), .pointer (some ⟨B, 0, none⟩)] W fun e w' => e = .returned (.bool (p (l.getD i (0, 0)))) ∧ Below W.heap.size W w')) :
    Calls Tryz.prog 36 #[v, .func (.func 60) #[] #[.pointer (some ⟨A, 0, none⟩), .pointer (some ⟨B, 0, none⟩)]] w fun e w' => ∃ r : Int, e = .returned (.int .i64 r) ∧ Hz.Fnd p l r ∧ Below w.heap.size w w' := by
  obtain ⟨ao, cap, rfl, hcap1, hcap2, hC⟩ := hs.opened
  have HC := Lib.hid hC
  clear hC hs
  have HN := Lib.hid (Hz.fnd_none (p := p) (l := l))
  have HO := Lib.hid (fun i h1 h2 h3 => Hz.fnd_one (p := p) (l := l) (i := i) h1 h2 h3)
  go_enter Tryz.func36, Tryz.ntmps36
  go_wp2
  go_loopw [8] (fun s8 wr => ∃ i : Nat, i ≤ l.length ∧ s8 = .int .i64 i ∧ Hid (Below w.heap.size w wr) ∧ Hid (∀ j, j < i → p (l.getD j (0, 0)) = false)) (fun s8 _ => l.length - (intOf s8).toNat)
  case atStart => exact ⟨0, Nat.zero_le _, rfl, Lib.hid (Below.refl _ _), Lib.hid (fun j h => by omega)⟩
  case round =>
    obtain ⟨i, hi, rfl, HB, HA⟩ := hrel
    by_cases hil : i < l.length
    · obtain ⟨g, off, rfl, hg, c1, c2⟩ := HC.out.at HB.out hil
      have CFi := CF i hil wr HB.out
      have HOi := Lib.hid (HO.out i hil HA.out)
      have HSi := Lib.hid (fun h => Hz.before_succ (p := p) (l := l) HA.out h)
      generalize l.getD i (0, 0) = y at *
      clear CF HO HN
      generalize p y = q at *
      cases q with
      | false =>
        go_wp2_with (go_at_call 60; refine (CFi.out).mono ?_; rintro e w3 ⟨rfl, hb⟩; have HB3 := Lib.hid (below_nxt HB.out hb); clear hb)
        exact ⟨⟨i + 1, by omega, rfl, HB3, Lib.hid (HSi.out (by first | rfl | trivial))⟩, by simp [intOf]; omega⟩
      | true =>
        go_wp2_with (go_at_call 60; refine (CFi.out).mono ?_; rintro e w3 ⟨rfl, hb⟩; have HB3 := Lib.hid (below_nxt HB.out hb); clear hb)
        go_ret
        exact ⟨i, rfl, HOi.out (by first | rfl | trivial), HB3.out⟩
    · obtain rfl : i = l.length := by omega
      go_wp2
      go_ret
      exact ⟨-1, rfl, HN.out HA.out, HB.out⟩

set_option maxHeartbeats 2000000 in
set_option maxRecDepth 100000 in
theorem hCont_any (A B : Nat) (p : Nat × Nat → Bool) (l : List (Nat × Nat)) (v : Value) (w : World) (hs : SeesO w v l)
    (CF : ∀ i, i < l.length → ∀ W, Below w.heap.size w W → Hid (Calls Tryz.prog 60 #[.agg #[.int .u64 ((l.getD i (0, 0)).1 : Int), .int .u64 ((l.getD i (0, 0)).2 : Int)], .pointer (some ⟨A, 0, none⟩), .pointer (some ⟨B, 0, none⟩)] W fun e w' => e = .returned (.bool (p (l.getD i (0, 0)))) ∧ Below W.heap.size W w')) :
    Calls Tryz.prog 59 #[v, .func (.func 60) #[] #[.pointer (some ⟨A, 0, none⟩), .pointer (some ⟨B, 0, none⟩)]] w fun e w' => e = .returned (.bool (l.any p)) ∧ Below w.heap.size w w' := by
  have CI := Lib.hid (hIdx_any A B p l v w hs CF)
  have HF := Lib.hid (fun r => Hz.fnd_any (p := p) (l := l) (r := r))
  clear CF hs
  generalize l.any p = b at *
  go_enter Tryz.func59, Tryz.ntmps59
  go_wp2_with (go_at_call 36; refine (CI.out).mono ?_; rintro e w3 ⟨r, rfl, hr, hb⟩)
  go_ret
  exact ⟨by rw [← HF.out r hr]; rfl, hb⟩

set_option maxHeartbeats 4000000 in
set_option maxRecDepth 100000 in
theorem hMend1_any (n c v x y A B : Nat) (w : World) (hn : n ≤ 6) (hc : c < 2 ^ n) (hs : Ic.Sub v c) (hx : x < 2 ^ n) (hy : y < 2 ^ n) (hA : NumI w A n) (hB : ChI w B x y) :
    Calls Tryz.prog 37 #[.agg #[.int .u64 c, .int .u64 v], .pointer (some ⟨A, 0, none⟩), .pointer (some ⟨B, 0, none⟩)] w fun e w' => e = .returned (.bool (Hz.jn (c, v) (x, y))) ∧ Below w.heap.size w w' := by
  have CJ := fun W => Lib.hid (hJoins_any n c v x y W hn hc hs hx hy)
  generalize Hz.jn (c, v) (x, y) = r at *
  obtain ⟨P0, L0, z0⟩ := cub1_new w c v 62
  obtain ⟨a0, a1⟩ := hA.step L0
  obtain ⟨b0, b1, b2⟩ := hB.step L0
  obtain ⟨p0, p1, p2, -, -⟩ := P0
  generalize hX : w.alloc (.cells #[.int .u64 (c : Int), .int .u64 (v : Int)] 62) = X at *
  have HL0 := Lib.hid L0
  clear hA hB L0 hc hs hx hy
  go_enter Tryz.func37, Tryz.ntmps37
  go_wp2_with (go_at_call 38; (with_reducible refine ((CJ _).out).mono ?_); rintro e w1 ⟨rfl, hb⟩; have HB := Lib.hid (below_nxt HL0.out hb); clear hb)
  go_ret
  exact ⟨rfl, HB.out⟩

set_option maxHeartbeats 2000000 in
set_option maxRecDepth 100000 in
theorem hIdxM_any (A B : Nat) (p : Nat × Nat → Bool) (l : List (Nat × Nat)) (v : Value) (w : World) (hs : SeesO w v l)
    (CF : ∀ i, i < l.length → ∀ W, Below w.heap.size w W → Hid (Calls Tryz.prog 37 #[.agg #[.int .u64 ((l.getD i (0, 0)).1 : Int), .int .u64 ((l.getD i (0, 0)).2 : Int)], .pointer (some ⟨A, 0, none⟩), .pointer (some ⟨B, 0, none⟩)] W fun e w' => e = .returned (.bool (p (l.getD i (0, 0)))) ∧ Below W.heap.size W w')) :
    Calls Tryz.prog 36 #[v, .func (.func 37) #[] #[.pointer (some ⟨A, 0, none⟩), .pointer (some ⟨B, 0, none⟩)]] w fun e w' => ∃ r : Int, e = .returned (.int .i64 r) ∧ Hz.Fnd p l r ∧ Below w.heap.size w w' := by
  obtain ⟨ao, cap, rfl, hcap1, hcap2, hC⟩ := hs.opened
  have HC := Lib.hid hC
  clear hC hs
  have HN := Lib.hid (Hz.fnd_none (p := p) (l := l))
  have HO := Lib.hid (fun i h1 h2 h3 => Hz.fnd_one (p := p) (l := l) (i := i) h1 h2 h3)
  go_enter Tryz.func36, Tryz.ntmps36
  go_wp2
  go_loopw [8] (fun s8 wr => ∃ i : Nat, i ≤ l.length ∧ s8 = .int .i64 i ∧ Hid (Below w.heap.size w wr) ∧ Hid (∀ j, j < i → p (l.getD j (0, 0)) = false)) (fun s8 _ => l.length - (intOf s8).toNat)
  case atStart => exact ⟨0, Nat.zero_le _, rfl, Lib.hid (Below.refl _ _), Lib.hid (fun j h => by omega)⟩
  case round =>
    obtain ⟨i, hi, rfl, HB, HA⟩ := hrel
    by_cases hil : i < l.length
    · obtain ⟨g, off, rfl, hg, c1, c2⟩ := HC.out.at HB.out hil
      have CFi := CF i hil wr HB.out
      have HOi := Lib.hid (HO.out i hil HA.out)
      have HSi := Lib.hid (fun h => Hz.before_succ (p := p) (l := l) HA.out h)
      generalize l.getD i (0, 0) = y at *
      clear CF HO HN
      generalize p y = q at *
      cases q with
      | false =>
        go_wp2_with (go_at_call 37; refine (CFi.out).mono ?_; rintro e w3 ⟨rfl, hb⟩; have HB3 := Lib.hid (below_nxt HB.out hb); clear hb)
        exact ⟨⟨i + 1, by omega, rfl, HB3, Lib.hid (HSi.out (by first | rfl | trivial))⟩, by simp [intOf]; omega⟩
      | true =>
        go_wp2_with (go_at_call 37; refine (CFi.out).mono ?_; rintro e w3 ⟨rfl, hb⟩; have HB3 := Lib.hid (below_nxt HB.out hb); clear hb)
        go_ret
        exact ⟨i, rfl, HOi.out (by first | rfl | trivial), HB3.out⟩
    · obtain rfl : i = l.length := by omega
      go_wp2
      go_ret
      exact ⟨-1, rfl, HN.out HA.out, HB.out⟩

set_option maxHeartbeats 4000000 in
set_option maxRecDepth 100000 in
theorem hTog_any (n x y : Nat) (l : List (Nat × Nat)) (v : Value) (w : World) (hn : n ≤ 6) (ho : Hz.Ok n l) (hs : SeesO w v l) (hx : x < 2 ^ n) (hy : y < 2 ^ n) :
    Calls Tryz.prog 33 #[.int .i64 n, v, .agg #[.int .i64 x, .int .i64 y]] w fun e w' => e = .returned (.bool (Hz.tog l (x, y))) ∧ Below w.heap.size w w' := by
  obtain ⟨A0, LA, zA⟩ : NumI (w.alloc (.cells #[.int .i64 (n : Int)] 3)) w.heap.size n ∧ Below w.heap.size w (w.alloc (.cells #[.int .i64 (n : Int)] 3)) ∧ (w.alloc (.cells #[.int .i64 (n : Int)] 3)).heap.size = w.heap.size + 1 := ⟨⟨by simp, by simp⟩, (Below.refl _ w).alloc (Nat.le_refl _) _, by simp⟩
  generalize hX : w.alloc (.cells #[.int .i64 (n : Int)] 3) = X at *
  obtain ⟨P1, L1, z1⟩ := chI_new X x y 56
  replace A0 := A0.step L1
  have L0 := Lib.hid (below_nxt LA L1)
  rw [zA] at P1
  generalize hY : X.alloc (.cells #[.int .i64 (x : Int), .int .i64 (y : Int)] 56) = Y at *
  have CC := Lib.hid (hCont_any w.heap.size (w.heap.size + 1) (fun c => Hz.jn c (x, y)) l v Y (hs.step L0.out) (fun i hi W hW => Lib.hid (hTog1_any n _ _ x y _ _ W hn (ho _ (Hz.getD_mem hi)).1 (ho _ (Hz.getD_mem hi)).2 hx hy (A0.step hW) (P1.step hW))))
  have HT : Hid (Hz.tog l (x, y) = l.any fun c => Hz.jn c (x, y)) := Lib.hid rfl
  rw [HT.out]
  generalize (l.any fun c => Hz.jn c (x, y)) = r at *
  clear L1 LA z1 A0 P1 hs ho hx hy
  go_enter Tryz.func33, Tryz.ntmps33
  go_wp2_with (go_at_call 59; refine (CC.out).mono ?_; rintro e w1 ⟨rfl, hb⟩; have HB := Lib.hid (below_nxt L0.out hb); clear hb)
  go_ret
  exact ⟨rfl, HB.out⟩
end Go.Proofs.YtahjdmdgkkienaaGreatDoor

