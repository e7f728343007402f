/- Rows of edges; reversed and Reverse of package digraph, Reverse of the reference. -/
import Derived.Test.YtkjhockppkdakaaDd
namespace Dg
open Go
def encE (x : Int × Int) : List Value := [.int .i64 x.1, .int .i64 x.2]
theorem flat_len (l : List (Int × Int)) : (l.flatMap encE).length = l.length * 2 := by
  induction l with
  | nil => rfl
  | cons x l ih => simp [ih, encE]; omega
theorem flat_get (l : List (Int × Int)) (j c : Nat) (hj : j < l.length) (hc : c < 2) : (l.flatMap encE)[j * 2 + c]? = (encE (l.getD j (0, 0)))[c]? := by
  induction l generalizing j with
  | nil => simp at hj
  | cons x l ih =>
    rcases Nat.eq_zero_or_pos j with rfl | hp
    · rcases (show c = 0 ∨ c = 1 by omega) with rfl | rfl <;> simp [encE]
    · obtain ⟨i, rfl⟩ : ∃ i, j = i + 1 := ⟨j - 1, by omega⟩
      have := ih i (by simpa using hj)
      rw [List.flatMap_cons, List.getElem?_append_right (by simp [encE]; omega)]
      rw [show (i + 1) * 2 + c - (encE x).length = i * 2 + c by simp [encE]; omega, this]
      simp
/-- The edges turned round. -/
def swp (E : List (Int × Int)) : List (Int × Int) := E.map fun e => (e.2, e.1)
theorem swp_len (E : List (Int × Int)) : (swp E).length = E.length := by simp [swp]
theorem swp_at {E : List (Int × Int)} {i : Nat} (h : i < E.length) : swp (E.take (i + 1)) = swp (E.take i) ++ [((E.getD i (0, 0)).2, (E.getD i (0, 0)).1)] := by
  rw [take_at (0, 0) h]; simp [swp]
end Dg
namespace Go.Proofs.Ytkjhockppkdakaa
open Go.RowKit

theorem addr_add (g t : Nat) : (⟨g, 0, none⟩ : Addr).add t = ⟨g, t, none⟩ := by unfold Addr.add; split <;> simp_all
/-- A row of edges that is the call's own. -/
def RowE (B : Nat) (e : TypeId) (w : World) (v : Value) (l : List (Int × Int)) : Prop := w.ownsRow B e 2 v l.length (l.flatMap Dg.encE)
theorem RowE.below {B : Nat} {e : TypeId} {w w' : World} {v : Value} {l : List (Int × Int)} (h : RowE B e w v l) {C : Nat} (hb : Below C w w') (hC : w.heap.size ≤ C) : RowE B e w' v l := by
  rcases h with ⟨h0, h | ⟨g, cap, cur, h', h1, h2, h3⟩⟩
  · exact ⟨h0, .inl h⟩
  · exact ⟨h0, .inr ⟨g, cap, cur, h', h1, by rw [hb.block g (Nat.lt_of_lt_of_le (Array.getElem?_eq_some_iff.1 h2).1 hC)]; exact h2, h3⟩⟩
theorem RowE.step {B : Nat} {e : TypeId} {w w' : World} {v : Value} {l : List (Int × Int)} (h : RowE B e w v l) (hb : Below w.heap.size w w') : RowE B e w' v l := h.below hb (Nat.le_refl _)
theorem RowE.nil (B : Nat) (e : TypeId) (w : World) : RowE B e w (.slice none 0 0) [] := World.ownsRow_nil _ _ _ _
theorem RowE.mono {B B' : Nat} {e : TypeId} {w : World} {v : Value} {l : List (Int × Int)} (h : RowE B e w v l) (hb : B' ≤ B) : RowE B' e w v l := by
  rcases h with ⟨h0, h | ⟨g, cap, cur, h1, h2, h3⟩⟩
  · exact ⟨h0, .inl h⟩
  · exact ⟨h0, .inr ⟨g, cap, cur, h1, by omega, h3⟩⟩
theorem RowE.sees {B : Nat} {e : TypeId} {w : World} {v : Value} {l : List (Int × Int)} (h : RowE B e w v l) : SeesE w v l := by
  have hc := fun g hg => World.ownsRow.cells h (g := g) hg
  have hlt := World.ownsRow.lt h
  rcases h with ⟨h0, ⟨rfl, h2⟩ | ⟨g, cap, cur, rfl, h1, h2, h3, h4, h5⟩⟩
  · have := List.eq_nil_of_length_eq_zero h2
    subst this
    exact ⟨none, 0, rfl, Nat.le_refl _, by omega, fun h => by simp at h⟩
  · have hk := hc g rfl
    refine ⟨_, cap, rfl, h3, by unfold maxLen at h4; omega, fun _ => ⟨g, 0, rfl, (hlt g rfl).2, fun i hi => ⟨?_, ?_⟩⟩⟩
    · have := hk (i * 2) (.int .i64 (l.getD i (0, 0)).1) ((Dg.flat_get l i 0 hi (by omega)).trans rfl)
      rw [addr_add] at this
      rw [Nat.zero_add]; exact this
    · have := hk (i * 2 + 1) (.int .i64 (l.getD i (0, 0)).2) ((Dg.flat_get l i 1 hi (by omega)).trans rfl)
      rw [addr_add] at this
      rw [Nat.zero_add]; exact this

/-- 'append' of an edge to a slice of the call's own. -/
theorem wpList_append_edge {P : Program} {w : World} {ops : Array Oper} {rest : List Oper} {o : Oper} {a : Act} {Q : Exit → Act → World → Prop} (hgd : o.guard = none) (s x : Operand) (t : TypeId)
    (ho : o.op = .call { callee := .builtin .append, args := #[s, x], argTypes := #[t, t] })
    (e : TypeId) (i : TypeInfo) (ht : P.underlying t = some (.slice e)) (hi : P.info? e = some i) (hz : i.zero = some (.agg #[.int .i64 0, .int .i64 0])) (hsize : i.size = 2) (hby : i.bytes = 16)
    (v : Value) (l : List (Int × Int)) (y : Int × Int) (g : Nat) (hs : a.eval s = v) (hx : a.eval x = .slice (some ⟨g, 0, none⟩) 1 1) (B : Nat) (hown : RowE B e w v l)
    (h0 : w.cell? ⟨g, 0, none⟩ = some (.int .i64 y.1)) (h1 : w.cell? ⟨g, 1, none⟩ = some (.int .i64 y.2)) (hlen : l.length ≤ 1048576) (hB : B ≤ w.heap.size)
    (h : ∀ ao' cap' w', RowE B e w' (.slice ao' (l.length + 1) cap') (l ++ [y]) → Below B w w' → wpList P ops Q rest (a.put o.dst (.slice ao' (l.length + 1) cap')) w') : wpList P ops Q (o :: rest) a w := by
  refine wpList_append_own w hgd s x t ho B e i (.agg #[.int .i64 0, .int .i64 0]) 2 16 ht hi hz hsize hby rfl (by omega) v l.length _ hs hown ⟨g, 0, none⟩ 1 1 [.int .i64 y.1, .int .i64 y.2] hx (by simp) ?_ ?_ (by unfold maxLen; omega) ?_ hB ?_
  · intro j u hj
    rw [addr_add]
    rcases j with _ | _ | j
    · simp at hj; subst hj; exact h0
    · simp at hj; subst hj; exact h1
    · simp at hj
  · simp [Value.oneCell']
  · omega
  · intro v' w' r1 r2 r3
    have hr : RowE B e w' v' (l ++ [y]) := by
      unfold RowE
      rw [List.length_append, List.flatMap_append]
      exact r1
    obtain ⟨ao', cap', rfl⟩ : ∃ ao' cap', v' = .slice ao' (l.length + 1) cap' := by
      rcases r1.2 with ⟨_, h⟩ | ⟨g, cap, cur, rfl, _⟩
      · omega
      · exact ⟨_, _, rfl⟩
    exact h _ _ _ hr ((Below.refl _ _).grown r2 hB (fun g hg => (World.ownsRow.lt hown g hg).1))
theorem info_edge : ∃ i : TypeInfo, Try.prog.info? 60 = some i ∧ i.zero = some (.agg #[.int .i64 0, .int .i64 0]) ∧ i.size = 2 ∧ i.bytes = 16 := by
  have h : (Try.prog.info? 60).map (fun i => (i.zero, i.size, i.bytes)) = some (some (.agg #[.int .i64 0, .int .i64 0]), 2, 16) := by kernel_rfl
  obtain ⟨i, h1, h2⟩ := Option.map_eq_some_iff.1 h
  simp only [Prod.mk.injEq] at h2
  exact ⟨i, h1, h2⟩

/-- The box of a graph that may be written. -/
def GphW (W : World) (g : Nat) (n : Int) (v : Value) : Prop := g < W.heap.size ∧ W.cell? ⟨g, 0, none⟩ = some (.int .i64 n) ∧ W.cell? ⟨g, 1, none⟩ = some v ∧ W.frozen? ⟨g, 0, none⟩ = false ∧ W.frozen? ⟨g, 1, none⟩ = false
theorem GphW.below {W W' : World} {g : Nat} {n : Int} {v : Value} (h : GphW W g n v) {B : Nat} (hB : g < B) (hb : Below B W W') : GphW W' g n v := by
  obtain ⟨h0, h1, h2, h3, h4⟩ := h
  exact ⟨Nat.lt_of_lt_of_le h0 hb.size, (hb.cell (p := ⟨g, 0, none⟩) hB).trans h1, (hb.cell (p := ⟨g, 1, none⟩) hB).trans h2, (hb.frozen (p := ⟨g, 0, none⟩) hB).trans h3, (hb.frozen (p := ⟨g, 1, none⟩) hB).trans h4⟩
theorem GphW.step {W W' : World} {g : Nat} {n : Int} {v : Value} (h : GphW W g n v) (hb : Below W.heap.size W W') : GphW W' g n v := h.below h.1 hb
theorem GphW.box {W : World} {g : Nat} {n : Int} {v : Value} (h : GphW W g n v) : GphI W g n v := ⟨h.1, h.2.1, h.2.2.1⟩
theorem gphW_new (w : World) (n : Int) (v : Value) (T : TypeId) : GphW (w.alloc (.cells #[.int .i64 n, v] T)) w.heap.size n v := by
  unfold GphW; simp
theorem GphW.put {W : World} {g : Nat} {n : Int} {v : Value} (h : GphW W g n v) (u : Value) : GphW (W.setCell ⟨g, 1, none⟩ u) g n u := by
  obtain ⟨h0, h1, h2, h3, h4⟩ := h
  refine ⟨by simpa using h0, ?_, ?_, by rw [World.frozen?_setCell]; exact h3, by rw [World.frozen?_setCell]; exact h4⟩
  · rw [World.cell?_setCell_other (w := W) (v := u) (a := ⟨g, 1, none⟩) (b := ⟨g, 0, none⟩) (fun e => by have := congrArg Addr.off e; simp at this), h1]
  · rw [World.cell?_setCell_same' _ _ _ (by rw [h2]; rfl)]
theorem GphW.other {W : World} {g k o : Nat} {n : Int} {v : Value} (h : GphW W g n v) (hk : k ≠ g) (u : Value) : GphW (W.setCell ⟨k, o, none⟩ u) g n v := by
  obtain ⟨h0, h1, h2, h3, h4⟩ := h
  refine ⟨by simpa using h0, ?_, ?_, by rw [World.frozen?_setCell]; exact h3, by rw [World.frozen?_setCell]; exact h4⟩
  · rw [World.cell?_setCell_other (w := W) (v := u) (a := ⟨k, o, none⟩) (b := ⟨g, 0, none⟩) (fun e => hk (congrArg Addr.block e)), h1]
  · rw [World.cell?_setCell_other (w := W) (v := u) (a := ⟨k, o, none⟩) (b := ⟨g, 1, none⟩) (fun e => hk (congrArg Addr.block e)), h2]

theorem GphW.put0 {W : World} {g : Nat} {n : Int} {v : Value} (h : GphW W g n v) (m : Int) : GphW (W.setCell ⟨g, 0, none⟩ (.int .i64 m)) g m v := by
  obtain ⟨h0, h1, h2, h3, h4⟩ := h
  refine ⟨by simpa using h0, ?_, ?_, by rw [World.frozen?_setCell]; exact h3, by rw [World.frozen?_setCell]; exact h4⟩
  · rw [World.cell?_setCell_same' _ _ _ (by rw [h1]; rfl)]
  · rw [World.cell?_setCell_other (w := W) (v := .int .i64 m) (a := ⟨g, 0, none⟩) (b := ⟨g, 1, none⟩) (fun e => by have := congrArg Addr.off e; simp at this), h2]

set_option maxHeartbeats 4000000 in
set_option maxRecDepth 100000 in
theorem dRev_row (n : Int) (v : Value) (E : List (Int × Int)) (w : World) (hlen : E.length ≤ 4096) (hs : SeesE w v E) :
    Calls Try.prog 50 #[.agg #[.int .i64 n, v]] w fun e w' => ∃ u, e = .returned (.agg #[.int .i64 n, u]) ∧ RowE w.heap.size 60 w' u (Dg.swp E) ∧ Below w.heap.size w w' := by
  obtain ⟨i0, hi0, hz0, hz1, hz2⟩ := info_edge
  obtain ⟨ao, cap, rfl, hcap1, hcap2, hC⟩ := hs
  have HC := Lib.hid hC
  have HA := Lib.hid (fun i (hi : i < E.length) => Dg.swp_at hi)
  have HSL := Lib.hid (fun i => show (Dg.swp (E.take i)).length ≤ 4096 by rw [Dg.swp_len, List.length_take]; omega)
  obtain ⟨P0, L0, z0⟩ := gph_new w n (.slice ao E.length cap) 24
  have L2 : Below w.heap.size w (((w.alloc (.cells #[.int .i64 n, .slice ao E.length cap] 24)).alloc (.cells #[.int .i64 0, .slice none 0 0] 24)).alloc (.cells #[.int .i64 n, .slice none 0 0] 24)) := ((L0.alloc (by simp) _).alloc (by simp; omega) _)
  have R1 : GphW (((w.alloc (.cells #[.int .i64 n, .slice ao E.length cap] 24)).alloc (.cells #[.int .i64 0, .slice none 0 0] 24)).alloc (.cells #[.int .i64 n, .slice none 0 0] 24)) (w.heap.size + 1) 0 (.slice none 0 0) := by
    have := (gphW_new (w.alloc (.cells #[.int .i64 n, .slice ao E.length cap] 24)) 0 (.slice none 0 0) 24).step ((Below.refl _ _).alloc (Nat.le_refl _) (.cells #[.int .i64 n, .slice none 0 0] 24))
    rw [z0] at this; exact this
  have R2 : GphW (((w.alloc (.cells #[.int .i64 n, .slice ao E.length cap] 24)).alloc (.cells #[.int .i64 0, .slice none 0 0] 24)).alloc (.cells #[.int .i64 n, .slice none 0 0] 24)) (w.heap.size + 1 + 1) n (.slice none 0 0) := by
    have := gphW_new ((w.alloc (.cells #[.int .i64 n, .slice ao E.length cap] 24)).alloc (.cells #[.int .i64 0, .slice none 0 0] 24)) n (.slice none 0 0) 24
    rw [show ((w.alloc (.cells #[.int .i64 n, .slice ao E.length cap] 24)).alloc (.cells #[.int .i64 0, .slice none 0 0] 24)).heap.size = w.heap.size + 1 + 1 by simp] at this; exact this
  have HL2 := Lib.hid L2
  clear L0 P0 hC z0 L2
  go_enter Try.func50, Try.ntmps50
  go_wp2
  go_loopw [12] (fun s12 wr => ∃ i : Nat, i ≤ E.length ∧ s12 = .int .i64 i ∧ (∃ ua uk uc, GphW wr (w.heap.size + 1 + 1) n (.slice ua uk uc) ∧ RowE (w.heap.size + 1 + 1 + 1) 60 wr (.slice ua uk uc) (Dg.swp (E.take i))) ∧ GphW wr (w.heap.size + 1) 0 (.slice none 0 0) ∧ Hid (Below w.heap.size w wr)) (fun s12 _ => E.length - (intOf s12).toNat)
  case atStart => exact ⟨0, Nat.zero_le _, rfl, ⟨_, _, _, R2, by simpa [Dg.swp] using RowE.nil _ _ _⟩, R1, HL2⟩
  case round =>
    clear R1 R2
    obtain ⟨i, hi, rfl, ⟨ua, uk, uc, hG, hrow⟩, hR, HB⟩ := hrel
    have RW := Lib.hid hrow
    have HR := Lib.hid hR
    have HG := Lib.hid hG
    have hwr := HB.out.size
    by_cases hil : i < E.length
    · obtain ⟨g, off, rfl, hg, c1, c2⟩ := HC.out.at HB.out hil
      have HAi := Lib.hid (HA.out i hil)
      have hsl := HSL.out i
      have hgz := hG.1
      clear HA HSL hrow hR
      generalize Dg.swp (E.take i) = q at *
      generalize E.getD i (0, 0) = y at *
      obtain ⟨g0, g1, g2, g3, g4⟩ := hG
      have BX := fun (W : World) (o : Obj) => (Below.refl W.heap.size W).alloc (Nat.le_refl _) o
      go_wp2_with (at_builtin; refine wpList_append_edge rfl _ _ 22 rfl 60 i0 Try.underlying22 hi0 hz0 hz1 hz2 _ q (y.2, y.1) (wr.heap.size + 1) rfl rfl (w.heap.size + 1 + 1 + 1) ((RW.out.step (BX _ _)).step (BX _ _)) (by simp) (by simp) (by omega) (by simp; omega) ?_; intro a5 p5 w5 hr5 hb5; have G5 := ((HG.out.step (BX _ _)).step (BX _ _)).below (by omega) hb5; have HG5 := Lib.hid G5; have HR5 := Lib.hid (((HR.out.step (BX _ _)).step (BX _ _)).below (by omega) hb5); have HB5 := Lib.hid ((((HB.out.alloc HB.out.size _).alloc (by simp; omega) _)).trans (hb5.mono (by omega))); clear hb5; have HRW5 := Lib.hid hr5; clear hr5; obtain ⟨k0, k1, k2, k3, k4⟩ := G5)
      exact ⟨⟨i + 1, by omega, rfl, ⟨_, _, _, HG5.out.put _, by rw [HAi.out]; exact ownsRow_setCell_below HRW5.out (by simp) _⟩, HR5.out.other (by omega) _, Lib.hid (HB5.out.setCell (by simp; omega) _)⟩, by simp [intOf]; omega⟩
    · obtain rfl : i = E.length := by omega
      rw [List.take_length] at RW
      obtain ⟨g0, g1, g2, g3, g4⟩ := hG
      obtain ⟨r0, r1, r2, r3, r4⟩ := hR
      clear hrow
      go_wp2
      obtain ⟨-, e0, e1, -, -⟩ := (HR.out.put0 n).put (.slice ua uk uc)
      have HBE := Lib.hid ((HB.out.setCell (p := ⟨w.heap.size + 1, 0, none⟩) (by simp) (.int .i64 n)).setCell (p := ⟨w.heap.size + 1, 1, none⟩) (by simp) (.slice ua uk uc))
      have HRE := Lib.hid (ownsRow_setCell_below (ownsRow_setCell_below RW.out (a := ⟨w.heap.size + 1, 0, none⟩) (by simp) (.int .i64 n)) (a := ⟨w.heap.size + 1, 1, none⟩) (by simp) (.slice ua uk uc))
      exact bodyPost_ret (v := .agg #[.int .i64 n, .slice ua uk uc]) (by simp [results, Try.results50, go_sem, e0, e1]) rfl ⟨_, rfl, RowE.mono HRE.out (by omega), HBE.out⟩
theorem dRev_any (n : Int) (v : Value) (E : List (Int × Int)) (w : World) (hlen : E.length ≤ 4096) (hs : SeesE w v E) :
    Calls Try.prog 50 #[.agg #[.int .i64 n, v]] w fun e w' => ∃ u, e = .returned (.agg #[.int .i64 n, u]) ∧ SeesE w' u (Dg.swp E) ∧ Below w.heap.size w w' :=
  (dRev_row n v E w hlen hs).mono (by rintro e w' ⟨u, h1, h2, h3⟩; exact ⟨u, h1, h2.sees, h3⟩)
end Go.Proofs.Ytkjhockppkdakaa
