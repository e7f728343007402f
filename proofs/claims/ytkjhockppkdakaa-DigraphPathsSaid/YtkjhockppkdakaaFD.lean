/- Reverse of the reference. -/
import Derived.Test.YtkjhockppkdakaaDM
import Derived.Test.YtkjhockppkdakaaDD
namespace Go.Proofs.Ytkjhockppkdakaa
open Go.RowKit Go.Shelf

/-- 'append' of an edge to a row of the call's own, in a region that draws its order. -/
theorem step_append_edge {P : Program} {ops : Array Oper} {o : Oper} {a : Act} {w : World} {K : Act → World → Prop} {Q : Exit → Act → World → Prop} {E : Prop}
    (hg : o.guard = none) (s x : Operand) (t : TypeId) (ho : o.op = Op.call { callee := Callee.builtin Builtin.append, args := #[s, x], argTypes := #[t, t] })
    (e : TypeId) (i : TypeInfo) (ht : P.underlying t = some (.slice e)) (hi : P.info? e = some i) (hz : i.zero = some (.agg #[.int .i64 0, .int .i64 0])) (hsize : i.size = 2) (hby : i.bytes = 16)
    (v : Value) (l : List (Int × Int)) (y : Int × Int) (k : Nat) (hs : a.eval s = v) (hx : a.eval x = .slice (some ⟨k, 0, none⟩) 1 1) (B : Nat) (hown : RowE B e w v l)
    (h0 : w.cell? ⟨k, 0, none⟩ = some (.int .i64 y.1)) (h1 : w.cell? ⟨k, 1, none⟩ = some (.int .i64 y.2)) (hlen : l.length ≤ 1048576) (hB : B ≤ w.heap.size)
    (h : ∀ ao' cap' w', RowE B e w' (.slice ao' (l.length + 1) cap') (l ++ [y]) → Below B w w' → K (a.put o.dst (.slice ao' (l.length + 1) cap')) w') :
    if Region.wanted o (yielded ops a.tmps) = true then Oper.wp P o a w K Q else E := by
  have hw : Region.wanted o (yielded ops a.tmps) = true := by simp [Region.wanted, hg]
  rw [if_pos hw]
  obtain ⟨v', w', hr, h2, h3, h4, h5⟩ := run_append_own_at (P := P) w B t o.type e i (.agg #[.int .i64 0, .int .i64 0]) 2 16 ht hi hz hsize hby rfl (by omega) v l.length _ hown ⟨k, 0, none⟩ 1 1 [.int .i64 y.1, .int .i64 y.2] (by simp)
    (fun j u hj => by
      rw [addr_add]
      rcases j with _ | _ | j
      · simp at hj; subst hj; exact h0
      · simp at hj; subst hj; exact h1
      · simp at hj) (by simp [Value.oneCell']) (by unfold maxLen; omega) (by omega) hB
  have hr2 : RowE B e w' v' (l ++ [y]) := by
    unfold RowE
    rw [List.length_append, List.flatMap_append]
    exact h2
  obtain ⟨ao', cap', rfl⟩ : ∃ ao' cap', v' = .slice ao' (l.length + 1) cap' := by
    rcases h2.2 with ⟨_, h⟩ | ⟨g, cap, cur, rfl, _⟩
    · omega
    · exact ⟨_, _, rfl⟩
  have hK := h ao' cap' w' hr2 ((Below.refl _ _).grown h3 hB (fun g hg => (World.ownsRow.lt hown g hg).1))
  unfold Oper.wp execOp
  simp only [ho, resolve, invoke, builtin, Sem.run_bind, Sem.run_pure, Result.andThen_ok, List.map_toArray, List.map_cons, List.map_nil, hs, hx, hr]
  exact hK

set_option maxHeartbeats 4000000 in
set_option maxRecDepth 100000 in
theorem rReverse_any (n : Int) (E : List (Int × Int)) (v : Value) (w : World) (hv : SeesE w v E) :
    Calls Try.prog 23 #[.agg #[.int .i64 n, v]] w fun e w' => ∃ u, e = .returned (.tuple #[.agg #[.int .i64 (if Dg.chk n E = 0 then n else 0), u], .int .i64 (Dg.chk n E)]) ∧ SeesE w' u (if Dg.chk n E = 0 then Dg.swp E else []) ∧ Below w.heap.size w w' := by
  have CK := fun W h => Lib.hid (rChk_any n v E W h)
  have HV := Lib.hid hv
  obtain ⟨ao, cap, rfl⟩ := hv.slice
  have hCE0 : CellsE w ao E := by
    obtain ⟨ao', cap', h1, _, _, h4⟩ := hv
    simp only [Value.slice.injEq] at h1
    rw [h1.1]; exact h4
  obtain ⟨P0, L0, z0⟩ := gph_new w n (.slice ao E.length cap) 24
  have R0 := gphW_new (w.alloc (.cells #[.int .i64 n, .slice ao E.length cap] 24)) 0 (.slice none 0 0) 24
  rw [z0] at R0
  have BX := fun (W : World) (o : Obj) => (Below.refl W.heap.size W).alloc (Nat.le_refl _) o
  have P1 := P0.step (BX _ (.cells #[.int .i64 0, .slice none 0 0] 24))
  have L1 := below_nxt L0 (BX _ (.cells #[.int .i64 0, .slice none 0 0] 24))
  generalize hX : (w.alloc (.cells #[.int .i64 n, .slice ao E.length cap] 24)).alloc (.cells #[.int .i64 0, .slice none 0 0] 24) = X at *
  obtain ⟨-, p1, p2⟩ := id P1
  have HL := Lib.hid L1
  have HR0 := Lib.hid R0
  clear hv L0 z0 L1 P0
  by_cases hk : Dg.chk n E = 0
  · have hlen : E.length ≤ 4096 := by
      obtain ⟨m, es, _, _, _, h1, h2, _⟩ := Dg.chk_zero hk
      omega
    simp only [hk, if_true] at CK ⊢
    obtain ⟨i0, hi0, hz0, hz1, hz2⟩ := info_edge
    have HA := Lib.hid (fun i (hi : i < E.length) => Dg.swp_at hi)
    have HSL := Lib.hid (fun i => show (Dg.swp (E.take i)).length ≤ 4096 by rw [Dg.swp_len, List.length_take]; omega)
    clear hk R0
    go_enter Try.func23, Try.ntmps23
    go_wp2_with fail
    refine ((CK _ (HV.out.step HL.out)).out).mono ?_
    rintro e w1 ⟨rfl, hb⟩
    have HB1 := Lib.hid (below_nxt HL.out hb)
    have P2 := P1.step hb
    have HR1 := Lib.hid (HR0.out.step hb)
    obtain ⟨-, q1, q2⟩ := id P2
    have G0 := gphW_new w1 n (.slice none 0 0) 24
    have B0 := Lib.hid (BX w1 (.cells #[.int .i64 n, .slice none 0 0] 24))
    have hC1 := hCE0.step (HB1.out.mono (Nat.le_refl _))
    have hsz : w.heap.size + 1 < w1.heap.size := HR1.out.1
    have HP2 := Lib.hid P2
    have hp0 : w.heap.size < w1.heap.size := P2.1
    clear hb p1 p2 P1 hX HR0 hCE0 P2
    go_wp2
    go_loopw [6] (fun s6 wr => ∃ i : Nat, i ≤ E.length ∧ s6 = .int .i64 i ∧ (∃ ua uk uc, GphW wr w1.heap.size n (.slice ua uk uc) ∧ RowE (w1.heap.size + 1) 60 wr (.slice ua uk uc) (Dg.swp (E.take i))) ∧ Hid (Below w1.heap.size w1 wr)) (fun s6 _ => E.length - (intOf s6).toNat)
    case atStart => exact ⟨0, Nat.zero_le _, rfl, ⟨_, _, _, G0, by simpa [Dg.swp] using RowE.nil _ _ _⟩, B0⟩
    case round =>
      clear G0 B0 q1 q2
      obtain ⟨i, hi, rfl, ⟨ua, uk, uc, hG, hrow⟩, HB⟩ := hrel
      have RW := Lib.hid hrow
      have HG := Lib.hid hG
      obtain ⟨-, r1, r2⟩ := HP2.out.step HB.out
      have hwz := HB.out.size
      by_cases hil : i < E.length
      · obtain ⟨g, off, rfl, hg, c1, c2⟩ := hC1.at HB.out hil
        have HAi := Lib.hid (HA.out i hil)
        have hsl := HSL.out i
        clear HA HSL hrow
        generalize Dg.swp (E.take i) = q at *
        generalize E.getD i (0, 0) = y at *
        obtain ⟨g0, g1, g2, g3, g4⟩ := hG
        go_wp2
        go_region_law (refine step_append_edge rfl (.tmp 24) (.tmp 38) 22 rfl 60 i0 Try.underlying22 hi0 hz0 hz1 hz2 (.slice ua uk uc) q (y.2, y.1) wr.heap.size (by simp [Act.eval]) (by simp [Act.eval]) (w1.heap.size + 1) ((RW.out.step (BX _ _)).step ((Below.refl _ _).drew)) (by simp) (by simp) (by omega) (by simp; omega) ?_; intro a5 p5 w5 hr5 hb5; have G5 := ((HG.out.step (BX _ _)).step ((Below.refl _ _).drew)).below (Nat.lt_succ_self _) hb5; have HG5 := Lib.hid G5; have HB5 := Lib.hid (HB.out.trans (((((BX wr (.cells #[.int .i64 y.2, .int .i64 y.1] 60)).drew).mono hwz)).trans (hb5.mono (Nat.le_succ _)))); have HRW5 := Lib.hid hr5; clear hr5 hb5; obtain ⟨k0, k1, k2, k3, k4⟩ := G5)
        all_goals
          go_wp2
          exact ⟨⟨i + 1, by omega, by first | rfl | go_num, ⟨_, _, _, HG5.out.put _, by rw [HAi.out]; exact ownsRow_setCell_below HRW5.out (by simp) _⟩, Lib.hid (HB5.out.setCell (by simp) _)⟩, by simp [intOf]; omega⟩
      · obtain rfl : i = E.length := by omega
        rw [List.take_length] at RW
        obtain ⟨g0, g1, g2, g3, g4⟩ := hG
        have R3 := HR1.out.step HB.out
        have HR3 := Lib.hid R3
        obtain ⟨r0, t1, t2, t3, t4⟩ := R3
        clear hrow
        go_wp2
        obtain ⟨-, e0, e1, -, -⟩ := (HR3.out.put0 n).put (.slice ua uk uc)
        have HBE := Lib.hid (((below_nxt HB1.out HB.out).setCell (p := ⟨w.heap.size + 1, 0, none⟩) (by simp) (.int .i64 n)).setCell (p := ⟨w.heap.size + 1, 1, none⟩) (by simp) (.slice ua uk uc))
        have HRE := Lib.hid (ownsRow_setCell_below (ownsRow_setCell_below RW.out (a := ⟨w.heap.size + 1, 0, none⟩) (by simp; omega) (.int .i64 n)) (a := ⟨w.heap.size + 1, 1, none⟩) (by simp; omega) (.slice ua uk uc))
        exact bodyPost_ret (v := .tuple #[.agg #[.int .i64 n, .slice ua uk uc], .int .i64 0]) (by simp [results, Try.results23, go_sem, e0, e1]) rfl ⟨_, rfl, RowE.sees HRE.out, HBE.out⟩
  · have hne : (Dg.chk n E != 0) = true := by simp [hk]
    simp only [hk, if_false]
    generalize Dg.chk n E = k at *
    clear hk R0
    go_enter Try.func23, Try.ntmps23
    go_wp2_with fail
    refine ((CK _ (HV.out.step HL.out)).out).mono ?_
    rintro e w1 ⟨rfl, hb⟩
    have HB1 := Lib.hid (below_nxt HL.out hb)
    have R1 := HR0.out.step hb
    have HR1 := Lib.hid R1
    obtain ⟨r0, r1, r2, r3, r4⟩ := R1
    clear hb p1 p2 hX HR0
    go_wp2
    obtain ⟨-, e0, e1, -, -⟩ := (HR1.out.put0 0).put (.slice none 0 0)
    have HBE := Lib.hid ((HB1.out.setCell (p := ⟨w.heap.size + 1, 0, none⟩) (by simp) (.int .i64 0)).setCell (p := ⟨w.heap.size + 1, 1, none⟩) (by simp) (.slice none 0 0))
    exact bodyPost_ret (v := .tuple #[.agg #[.int .i64 0, .slice none 0 0], .int .i64 k]) (by simp [results, Try.results23, go_sem, e0, e1]) rfl ⟨_, rfl, ⟨none, 0, rfl, Nat.le_refl _, by omega, fun h => by simp at h⟩, HBE.out⟩
end Go.Proofs.Ytkjhockppkdakaa
