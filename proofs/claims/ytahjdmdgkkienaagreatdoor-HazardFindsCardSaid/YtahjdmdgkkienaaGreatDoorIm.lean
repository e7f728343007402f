/- The prime implicants: Primes of package implicant. -/
import Derived.Test.YtahjdmdgkkienaaGreatDoorIg
import Derived.Test.YtahjdmdgkkienaaGreatDoorIi
import Derived.Test.YtahjdmdgkkienaaGreatDoorIl
import Derived.Maps.OwnIn
namespace Ic
/-- The prime implicants, as they are found. -/
def primesL (n on fr : Nat) : List (Nat × Nat) := (cubesL n).filter fun x => prime n on fr x.1 x.2
/-- .. and in order. -/
def primesS (n on fr : Nat) : List (Nat × Nat) := sortL (primesL n on fr)
theorem cubesL_len (n : Nat) : (cubesL n).length = 3 ^ n := by
  induction n with
  | zero => rfl
  | succ n ih =>
    have : ∀ l : List (Nat × Nat), (l.flatMap (three (2 ^ n))).length = l.length * 3 := by
      intro l
      induction l with
      | nil => rfl
      | cons x l ih => simp [ih, three]; omega
    rw [cubesL, this, ih, Nat.pow_succ]
end Ic
namespace Go.Proofs.YtahjdmdgkkienaaGreatDoor
open Go.RowKit Go.Shelf
attribute [local go_sem] Oper.semAt_some

theorem cell_put {W : World} {l : Nat} {o o' : Obj} {a : Addr} {v : Value} (hl : W.heap[l]? = some o) (hc : o.isCells = false) (h : W.cell? a = some v) : (W.putObj l o').cell? a = some v :=
  cell_kept h (grownBy_putObj' W l o') (fun r e => by cases e; exact ⟨_, hl, hc⟩)
theorem TaskI.put {W : World} {l g : Nat} {o : Obj} (o' : Obj) {n : Int} {on : Nat} {m : Int} {fr : Nat} (h : TaskI W g n on m fr) (hl : W.heap[l]? = some o) (hc : o.isCells = false) : TaskI (W.putObj l o') g n on m fr :=
  ⟨by simpa using h.1, cell_put hl hc h.2.1, cell_put hl hc h.2.2.1, cell_put hl hc h.2.2.2.1, cell_put hl hc h.2.2.2.2⟩
theorem St.put {W : World} {l : Nat} {o : Obj} (o' : Obj) (h : St W) (hl : W.heap[l]? = some o) (hc : o.isCells = false) : St (W.putObj l o') :=
  ⟨fun i hi => cell_put hl hc (h.col i hi), by simpa using h.h2⟩
theorem Below.put {B l : Nat} {w W : World} (h : Below B w W) (o' : Obj) (hB : B ≤ l) : Below B w (W.putObj l o') :=
  h.trans ⟨rfl, rfl, rfl, by simp, fun k hk => World.putObj_heap_other (by omega)⟩

theorem SeesC.put {W : World} {l : Nat} {o : Obj} {v : Value} {xs : List (Nat × Nat)} (h : SeesC W v xs) (o' : Obj) (hl : W.heap[l]? = some o) (hc : o.isCells = false) : SeesC (W.putObj l o') v xs := by
  rcases h with h | ⟨g, cap, rfl, h1, h2, h3, h4⟩
  · exact .inl h
  · exact .inr ⟨g, cap, rfl, h1, h2, by simpa using h3, fun i hi => ⟨cell_put hl hc (h4 i hi).1, cell_put hl hc (h4 i hi).2⟩⟩
theorem pair_news (w : World) (a b : Value) (T : TypeId) : ∀ j u, [a, b][j]? = some u → (w.alloc (.cells #[a, b] T)).cell? ((⟨w.heap.size, 0, none⟩ : Addr).add j) = some u := by
  intro j u hu
  rw [addr_add]
  rcases j with _ | _ | j
  · simp at hu; subst hu; exact (cell_pair_new w _ _ _).1
  · simp at hu; subst hu; exact (cell_pair_new w _ _ _).2
  · simp at hu
/-- What the loop of Primes holds: the list so far in its variable P, in a row of the call's own; the task in T. -/
def PrimI (N T P n on : Nat) (m : Int) (fr : Nat) (w : World) : Held := fun p E W =>
  (∀ b, E b → b < W.heap.size) ∧ ¬ E P ∧ TaskI W T n on m fr ∧ St W ∧ Below w.heap.size w W ∧
  ∃ v, Boxed W P 22 v ∧ W.ownsRow N 62 2 v (p.filter fun x => Ic.prime n on fr x.1 x.2).length ((p.filter fun x => Ic.prime n on fr x.1 x.2).flatMap Ic.encC) ∧ ∀ b, v.ownBlock = some b → ¬ E b
theorem primI_bears {N0 N T P n on : Nat} {m : Int} {fr : Nat} {w : World} (hw : w.heap.size ≤ N0) : Bears N0 (PrimI N T P n on m fr w) := by
  refine ⟨?_, ?_, ?_⟩
  · rintro p E W W' hb ⟨h1, h2, h3, h4, h5, v, h6, h7, h8⟩
    have hP := h6.lt
    have hg : W.grownBy W' none := ⟨hb.os, hb.tape, hb.output, hb.size, fun k hk _ => hb.block k hk⟩
    refine ⟨fun b hb' => ?_, fun hb' => ?_, h3.step hb, h4.next hb, h5.trans (hb.mono h5.size), v, h6.kept hg (by simp), h7.kept hg (by cases hv : v.ownBlock <;> simp), fun b hv hb' => ?_⟩
    · have := hb.size
      rcases hb' with h | h
      · have := h1 b h; omega
      · exact h.2
    · rcases hb' with h | h
      · exact h2 h
      · omega
    · rcases hb' with h | h
      · exact h8 b hv h
      · have := (World.ownsRow.lt h7 b hv).2; omega
  · rintro p E W l o o' hN' hl hc ⟨h1, h2, h3, h4, h5, v, h6, h7, h8⟩
    refine ⟨fun b hb => by simpa using h1 b hb, h2, h3.put o' hl hc, h4.put o' hl hc, Below.put h5 o' (by omega), v, ?_, ownsRow_putObj h7 o' hl hc, h8⟩
    refine h6.kept (grownBy_putObj' W l o') (fun e => ?_)
    cases e
    rw [show W.heap[P]? = _ from h6] at hl
    cases hl; cases hc
  · rintro p E E' W hs ⟨h1, h2, h3, h4, h5, v, h6, h7, h8⟩
    exact ⟨fun b hb => h1 b (hs b hb), fun h => h2 (hs _ h), h3, h4, h5, v, h6, h7, fun b hv hb => h8 b hv (hs b hb)⟩

set_option maxHeartbeats 1000000 in
set_option maxRecDepth 100000 in
theorem iPrimes_ok (n on : Nat) (m : Int) (fr : Nat) (w : World) (hn : n ≤ 6) (ho : on < 2 ^ 64) (hf : fr < 2 ^ 64) (hst : St w) (hchk : Ic.tchk n on m fr = 0) :
    Calls Tryz.prog 62 #[.agg #[.int .i64 n, .int .u64 on, .int .i64 m, .int .u64 fr]] w fun e w' => ∃ v, e = .returned (.tuple #[v, .int .i64 0]) ∧ SeesC w' v (Ic.primesS n on fr) ∧ Below w.heap.size w w' := by
  have CK := fun W => iCheckTask_any n on m fr W ho hf
  rw [hchk] at CK
  clear hchk
  refine (callsIn_wide (n := 9)).1 ?_
  refine callsIn_of_wp_marks Tryz.func62 rfl trivial ?_ rfl
  simp only [Tryz.ntmps62, List.size_toArray, List.length_cons, List.length_nil, Nat.reduceAdd, Nat.reduceSub, Array.replicate_succ, Array.replicate_zero, List.push_toArray, List.append_toArray, List.nil_append, List.cons_append]
  obtain ⟨P0, L0, z0⟩ := task_new w n on m fr 104
  generalize hX : w.alloc (.cells #[.int .i64 n, .int .u64 (on : Int), .int .i64 m, .int .u64 (fr : Int)] 104) = X at *
  obtain ⟨p0, p1, p2, p3, p4⟩ := id P0
  gi_wp2_with (first | (refine ⟨trivial, ?_⟩; gi_at_call 78; refine (callsIn_wide.2 (CK _)).mono ?_; rintro e Y ⟨rfl, hY⟩; obtain ⟨q0, q1, q2, q3, q4⟩ := P0.step hY) | (refine ⟨trivial, ?_⟩; gi_at_call 79; refine (callsIn_wide.2 (iCubes_any n _)).mono ?_; rintro e Z ⟨rfl, rfl⟩))
  have hYw : Below w.heap.size w Y := L0.trans (hY.mono (by omega))
  have hTY : TaskI Y w.heap.size n on m fr := P0.step hY
  have hSY : St Y := hst.next hYw
  have hPY := Boxed.new Y 22 (.slice none 0 0)
  have hbZ : Below Y.heap.size Y ((Y.alloc (.cells #[.slice none 0 0] 22)).alloc (.cells #[.int .i64 (n : Int)] 3)) := ((Below.refl _ _).alloc (Nat.le_refl _) _).alloc (by simp) _
  have hPZ := hPY.alloc (.cells #[.int .i64 (n : Int)] 3)
  have hBZ : ((Y.alloc (.cells #[.slice none 0 0] 22)).alloc (.cells #[.int .i64 (n : Int)] 3)).cell? ⟨Y.heap.size + 1, 0, none⟩ = some (.int .i64 (n : Int)) := by
    have e : Y.heap.size + 1 = (Y.alloc (.cells #[.slice none 0 0] 22)).heap.size := by simp
    rw [e]; simp
  have hzZ : ((Y.alloc (.cells #[.slice none 0 0] 22)).alloc (.cells #[.int .i64 (n : Int)] 3)).heap.size = Y.heap.size + 2 := by simp
  generalize ((Y.alloc (.cells #[.slice none 0 0] 22)).alloc (.cells #[.int .i64 (n : Int)] 3)) = Z at *
  have hTZ := hTY.step hbZ
  have hSZ := hSY.next hbZ
  have hZw : Below w.heap.size w Z := hYw.trans (hbZ.mono hYw.size)
  have hsz := hYw.size
  have CP := fun (x : Nat × Nat) (hx : Ic.Fits n x) W (h : St W) => Lib.hid (iPrime_any n on m fr x.1 x.2 W hn ho hf hx.1 hx.2 h)
  have hlen3 : (Ic.cubesL n).length ≤ 729 := by
    rw [Ic.cubesL_len]
    exact Nat.pow_le_pow_right (n := 3) (by omega) hn
  have hT0 : ∃ i : TypeInfo, Tryz.prog.info? 62 = some i ∧ i.zero = some (.agg #[.int .u64 0, .int .u64 0]) ∧ i.size = 2 ∧ i.bytes = 16 := by
    have h : (Tryz.prog.info? 62).map (fun i => (i.zero, i.size, i.bytes)) = some (some (.agg #[.int .u64 0, .int .u64 0]), 2, 16) := by kernel_rfl
    obtain ⟨i, h1, h2⟩ := Option.map_eq_some_iff.1 h
    simp only [Prod.mk.injEq] at h2
    exact ⟨i, h1, h2⟩
  obtain ⟨i0, hi0, hz0, hz1, hz2⟩ := hT0
  refine range_cubes (cubes_any hn) 9 (Y.heap.size + 1) rfl hBZ (PrimI Y.heap.size w.heap.size Y.heap.size n on m fr w) (primI_bears (by omega)) (fun _ => False) [] ⟨fun _ h => h.elim, fun h => h, hTZ, hSZ, hZw, _, hPZ, World.ownsRow_nil _ _ _ _, fun _ _ h => h⟩
    (fun x Bx => { tmps := #[.agg #[.int .i64 n, .int .u64 on, .int .i64 m, .int .u64 fr], .pointer (some ⟨w.heap.size, 0, none⟩), .slice none 0 0, .int .i64 0, .int .i64 0, .pointer (some ⟨Y.heap.size, 0, none⟩), .pointer (some ⟨Bx, 0, none⟩), .agg #[.int .i64 n, .int .u64 on, .int .i64 m, .int .u64 fr], .int .i64 0, .int .i64 0, .bool false, undef, .pointer (some ⟨w.heap.size, 0, none⟩), .pointer (some ⟨w.heap.size, 0, none⟩), .int .i64 n, .func (.func 93) #[] #[.pointer (some ⟨Y.heap.size + 1, 0, none⟩)], .agg #[.int .u64 (x.1 : Int), .int .u64 (x.2 : Int)], undef, undef, undef, undef, undef, undef, undef, undef, undef, undef], defers := [] }) ?assign ?body ?done
  case assign =>
    intro l' x V K hK
    gi_wp2
    exact hK _ (cub1_new V x.1 x.2 62).2.1 (cub1_new V x.1 x.2 62).1
  case body =>
    rintro l' p x E Bx V ⟨hE1, hE2, hT, hS, hBel, v, hv, hrow, hvE⟩ hx hEB hcub hlt ⟨rest, hrest⟩
    have hpl : p.length + 1 ≤ 729 := by
      have := congrArg List.length hrest
      simp only [List.nil_append, List.length_append, List.length_cons] at this
      omega
    obtain ⟨c0, c1, c2, c3, c4⟩ := id hcub
    obtain ⟨t0, t1, t2, t3, t4⟩ := id hT
    have CPx := CP x hx V hS
    clear CP hPY hPZ hBZ hTZ hSZ hZw hTY hSY hYw hrest
    generalize hq : Ic.prime n on fr x.1 x.2 = q at CPx
    have HQ := Lib.hid hq
    clear hq
    cases q with
    | false =>
      gi_wp2_with (refine ⟨trivial, ?_⟩; gi_at_call 80; refine (CallsIn.inRound l' (callsIn_wide.2 CPx.out)).mono ?_; rintro e W1 ⟨rfl, hb1⟩)
      have hg1 : V.grownBy W1 none := ⟨hb1.os, hb1.tape, hb1.output, hb1.size, fun k hk _ => hb1.block k hk⟩
      have hf : (p ++ [x]).filter (fun x => Ic.prime n on fr x.1 x.2) = p.filter (fun x => Ic.prime n on fr x.1 x.2) := by
        rw [List.filter_append, List.filter_cons_of_neg (by simp [HQ.out])]; simp
      refine ⟨⟨fun b h => Nat.lt_of_lt_of_le (hE1 b h) hb1.size, hE2, hT.step hb1, hS.next hb1, hBel.trans (hb1.mono hBel.size), v, hv.kept hg1 (by simp), ?_, hvE⟩, Lies.below hb1⟩
      rw [hf]
      exact hrow.kept hg1 (by cases hv : v.ownBlock <;> simp)
    | true =>
      have hf : (p ++ [x]).filter (fun x => Ic.prime n on fr x.1 x.2) = p.filter (fun x => Ic.prime n on fr x.1 x.2) ++ [x] := by
        rw [List.filter_append, List.filter_cons_of_pos (by simp [HQ.out])]; simp
      have hfl : (p.filter fun x => Ic.prime n on fr x.1 x.2).length ≤ p.length := List.length_filter_le _ _
      have HF := Lib.hid hf
      clear hf
      have HSZ := Lib.hid (Nat.lt_of_lt_of_le hst.h2 hsz)
      generalize p.filter (fun x => Ic.prime n on fr x.1 x.2) = q at *
      have hzx := hbZ.size
      gi_wp2_with (first | (refine ⟨trivial, ?_⟩; gi_at_call 80; refine (CallsIn.inRound l' (callsIn_wide.2 CPx.out)).mono ?_; rintro e W1 ⟨rfl, hb1⟩; have hg1 : V.grownBy W1 none := ⟨hb1.os, hb1.tape, hb1.output, hb1.size, fun k hk _ => hb1.block k hk⟩; have hv1 := hv.kept hg1 (by simp); have hrow1 := hrow.kept hg1 (by cases hv : v.ownBlock <;> simp); have hbz := hb1.size; obtain ⟨d0, d1, d2, d3, d4⟩ := hcub.step hb1; have hvc := hv1.cell) |
        (gi_at_builtin; refine wpListIn_append_own_at _ rfl _ _ 22 rfl Y.heap.size 62 i0 (.agg #[.int .u64 0, .int .u64 0]) 2 16 Tryz.underlying22 hi0 hz0 hz1 hz2 rfl (by decide) _ _ _ rfl (hrow1.alloc _) ⟨W1.heap.size, 0, none⟩ 1 1 [.int .u64 (x.1 : Int), .int .u64 (x.2 : Int)] rfl rfl (pair_news _ _ _ _) (by simp [Value.oneCell']) (by unfold maxLen; omega) (by omega) (by simp; omega) ?_; intro v' w1 hown' hgrow _ hnew; obtain ⟨g', cap', rfl⟩ := ownsRow_succ hown'; obtain ⟨hv3, hv4, hr2, hk2, hb2⟩ := hv1.appended (by decide) hrow1 (by omega) (Nat.le_refl _) hown' hgrow; have hc1 := hv3.cell; have hf1 := hv3.frozen))
      have hz3 := hb2.size
      refine ⟨⟨fun b h => by have := hE1 b h; omega, hE2, (hT.step hb1).below (by omega) hb2, ⟨colTab_below (hS.next hb1).col hb2 HSZ.out, (by have := HSZ.out; omega)⟩, hBel.trans ((hb1.mono hBel.size).trans (hb2.mono hsz)), _, hv4, ?_, ?_⟩, ⟨by omega, fun b hb hlt' => ?_⟩⟩
      · rw [HF.out, List.length_append, List.flatMap_append]
        exact hr2
      · intro b hb hEb
        rcases hnew with h | h
        · exact hvE b (h ▸ hb) hEb
        · rw [hb] at h
          cases h
          have := hE1 _ hEb
          simp at this
          omega
      · have hbP : b ≠ Y.heap.size := fun e => hE2 (e ▸ hb)
        have h1 : (w1.setCell ⟨Y.heap.size, 0, none⟩ (.slice (some ⟨g', 0, none⟩) (q.length + 1) cap')).heap[b]? = w1.heap[b]? := (grownBy_setCell' w1 Y.heap.size _).block b (by have := hgrow.size; simp at this; omega) (fun e => by cases e; exact hbP rfl)
        rw [h1, hgrow.block b (by simp; omega) (fun e => hvE b e.symm hb)]
        exact ((Below.refl W1.heap.size W1).alloc (Nat.le_refl _) _).block b (by omega) |>.trans (hb1.block b hlt')
  case done =>
    rintro V hlt ⟨hE1, hE2, hT, hS, hBel, v, hv, hrow, hvE⟩ hK
    have hvc := hv.cell
    rw [List.nil_append] at hrow
    have hll : ((Ic.cubesL n).filter fun x => Ic.prime n on fr x.1 x.2).length ≤ (Ic.cubesL n).length := List.length_filter_le _ _
    have CS := iSort_any _ v V Y.heap.size 62 hrow (by omega)
    have hL := Lib.hid (show Ic.primesS n on fr = Ic.sortL ((Ic.cubesL n).filter fun x => Ic.prime n on fr x.1 x.2) from rfl)
    gi_wp2_with (refine ⟨trivial, ?_⟩; gi_at_call 81; refine (callsIn_wide.2 CS).mono ?_; rintro e V2 ⟨rfl, hg2, hsee⟩; have hv2 := hv.kept hg2 (hv.not_row (by decide) hrow); have hvc2 := hv2.cell)
    have hK2 : V2.heap[Z.heap.size]? = some (.deferred (some [])) := by
      refine (hg2.block Z.heap.size (Array.getElem?_eq_some_iff.1 hK).1 (fun e => ?_)).trans hK
      rcases hrow.2 with ⟨rfl, _⟩ | ⟨g, cap, cur, rfl, _, hgb, _⟩
      · simp [Value.ownBlock] at e
      · obtain rfl : Z.heap.size = g := by simpa [Value.ownBlock] using e
        rw [hgb] at hK; cases hK
    rw [hzZ] at hK2
    have hB2 : Below w.heap.size w V2 := hBel.grown hg2 hBel.size (fun b e => by have := (World.ownsRow.lt hrow b e).1; omega)
    refine ⟨by simp, .inl ⟨_, _, rfl, run_takeDeferred hK2, ?_⟩⟩
    refine ⟨.tuple #[v, .int .i64 0], by simp [results, Tryz.results62, go_sem], v, rfl, ?_, Below.put hB2 _ (by have := hbZ.size; omega)⟩
    rw [hL.out]
    exact hsee.put _ hK2 rfl
end Go.Proofs.YtahjdmdgkkienaaGreatDoor

