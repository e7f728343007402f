/- The closures of ImplicantGrows. -/
import Derived.Test.YtabflijfbjdpgaaDoorJh
namespace Go.Proofs.YtabflijfbjdpgaaDoor
open Go.RowKit Go.Shelf

theorem setCell_id {w : World} {g i : Nat} {v : Value} (h : w.cell? ⟨g, i, none⟩ = some v) : w.setCell ⟨g, i, none⟩ v = w := by
  have e : (w.setCell ⟨g, i, none⟩ v).heap = w.heap := by
    apply Array.ext_getElem?
    intro k
    simp only [World.setCell, Array.getElem?_modify]
    split
    · rename_i e
      subst e
      unfold World.cell? at h
      cases hk : w.heap[g]? with
      | none => rfl
      | some o =>
        rw [hk] at h
        cases o with
        | cells c t fr =>
          simp at h
          simp only [Option.map_some, Option.some.injEq]
          congr 1
          apply Array.ext_getElem?
          intro j
          simp only [Option.isSome_none, Bool.false_eq_true, if_false, Array.getElem?_setIfInBounds]
          split
          · rename_i e; subst e
            rw [h]
            have := (Array.getElem?_eq_some_iff.1 h).1
            simp [this]
          · rfl
        | _ => simp at h
    · rfl
  cases w
  simp only [World.setCell] at e ⊢
  simp only [World.mk.injEq, and_true]
  exact e

/-- The variable bad is false. -/
def BadI (w : World) (D : Nat) : Prop := D < w.heap.size ∧ w.cell? ⟨D, 0, none⟩ = some (.bool false) ∧ w.frozen? ⟨D, 0, none⟩ = false
theorem BadI.step {w w' : World} {D : Nat} (h : BadI w D) (hb : Below w.heap.size w w') : BadI w' D :=
  ⟨Nat.lt_of_lt_of_le h.1 hb.size, (hb.cell (p := ⟨D, 0, none⟩) h.1).trans h.2.1, by
    have := hb.block D h.1
    have h3 := h.2.2
    unfold World.frozen? at h3 ⊢
    rw [this]; exact h3⟩

set_option maxHeartbeats 2000000 in
set_option maxRecDepth 100000 in
theorem gIn_any (n : Int) (on : Nat) (m : Int) (fr c v d u T G D : Nat) (b : Bool) (w : World) (hc : c < 2 ^ 64) (hv : v < 2 ^ 64) (hd : d < 2 ^ 64) (hu : u < 2 ^ 64) (hi : Ic.insV n c v d u = (b, 0)) (hT : TaskI w T n on m fr) (hG : CubI w G c v) (hD : BadI w D) :
    Calls Tryd.prog 43 #[.agg #[.int .u64 d, .int .u64 u], .pointer (some ⟨T, 0, none⟩), .pointer (some ⟨G, 0, none⟩), .pointer (some ⟨D, 0, none⟩)] w fun e w' => e = .returned (.bool b) ∧ Below w.heap.size w w' := by
  have CI := fun W => Lib.hid (iIns_any n c v d u W hc hv hd hu)
  rw [hi] at CI
  dsimp only at CI
  clear hc hv hd hu hi
  have HD := Lib.hid hD
  obtain ⟨t0, t1, t2, t3, t4⟩ := hT
  obtain ⟨g0, g1, g2, g3, g4⟩ := hG
  obtain ⟨d0, d1, d2⟩ := hD
  go_enter Tryd.func43, Tryd.ntmps43
  go_wp2_with (go_at_call 18; refine ((CI _).out).mono ?_; rintro e w1 ⟨rfl, hb⟩; have HB := Lib.hid ((((Below.refl w.heap.size w).alloc (Nat.le_refl _) _).trans (hb.mono (by simp)))); have D1 := Lib.hid (HD.out.step HB.out); clear hb d1 d2 t1 t2 t3 t4 g1 g2 g3 g4; obtain ⟨d0', d1, d2⟩ := D1.out)
  rw [setCell_id d1]
  go_ret
  exact ⟨rfl, HB.out⟩

set_option maxHeartbeats 2000000 in
set_option maxRecDepth 100000 in
theorem gIndex_any (T G D : Nat) (p : Nat → Bool) (l : List (Nat × Nat)) (ao : Option Addr) (cap : Nat) (w : World) (_ : l.length ≤ 4096) (hcap1 : l.length ≤ cap) (hcap2 : cap ≤ 9223372036854775807) (hC : CellsC w ao l)
    (CF : ∀ i, i < l.length → ∀ W, Below w.heap.size w W → Hid (Calls Tryd.prog 43 #[.agg #[.int .u64 ((l.getD i (0, 0)).1 : Int), .int .u64 ((l.getD i (0, 0)).2 : Int)], .pointer (some ⟨T, 0, none⟩), .pointer (some ⟨G, 0, none⟩), .pointer (some ⟨D, 0, none⟩)] W fun e w' => e = .returned (.bool (p i)) ∧ Below W.heap.size W w')) :
    Calls Tryd.prog 78 #[.slice ao l.length cap, .func (.func 43) #[] #[.pointer (some ⟨T, 0, none⟩), .pointer (some ⟨G, 0, none⟩), .pointer (some ⟨D, 0, none⟩)]] w fun e w' => ∃ r : Int, e = .returned (.int .i64 r) ∧ decide (0 ≤ r) = !((List.range l.length).all fun j => !p j) ∧ Below w.heap.size w w' := by
  have HC := Lib.hid hC
  clear hC
  go_enter Tryd.func78, Tryd.ntmps78
  go_wp2
  go_loopw [8] (fun s8 wr => ∃ i : Nat, i ≤ l.length ∧ s8 = .int .i64 i ∧ Hid (Below w.heap.size w wr) ∧ Hid ((List.range i).all (fun j => !p j) = true)) (fun s8 _ => l.length - (intOf s8).toNat)
  case atStart => exact ⟨0, Nat.zero_le _, rfl, Lib.hid (Below.refl _ _), Lib.hid rfl⟩
  case round =>
    obtain ⟨i, hi, rfl, HB, HA⟩ := hrel
    by_cases hil : i < l.length
    · obtain ⟨g, rfl, hg, c1, c2⟩ := HC.out.at HB.out hil
      have CFi := CF i hil wr HB.out
      have HS := Lib.hid (Ic.all_succ (fun j => !p j) i)
      have HBAD := Lib.hid (fun h => Ic.all_bad (p := fun j => !p j) hil h)
      generalize l.getD i (0, 0) = y at *
      clear CF
      generalize p i = q at *
      cases q with
      | false =>
        go_wp2_with (go_at_call 43; refine (CFi.out).mono ?_; rintro e w3 ⟨rfl, hb⟩; have HB3 := Lib.hid (below_nxt HB.out hb); clear hb)
        exact ⟨⟨i + 1, by omega, rfl, HB3, Lib.hid (by rw [HS.out, HA.out]; rfl)⟩, by simp [intOf]; omega⟩
      | true =>
        go_wp2_with (go_at_call 43; refine (CFi.out).mono ?_; rintro e w3 ⟨rfl, hb⟩; have HB3 := Lib.hid (below_nxt HB.out hb); clear hb)
        go_ret
        exact ⟨i, rfl, by rw [HBAD.out rfl]; simp, HB3.out⟩
    · obtain rfl : i = l.length := by omega
      go_wp2
      go_ret
      exact ⟨-1, rfl, by rw [HA.out]; rfl, HB.out⟩

set_option maxHeartbeats 2000000 in
set_option maxRecDepth 100000 in
theorem gCont_any (T G D : Nat) (p : Nat → Bool) (l : List (Nat × Nat)) (ao : Option Addr) (cap : Nat) (w : World) (hl : l.length ≤ 4096) (hcap1 : l.length ≤ cap) (hcap2 : cap ≤ 9223372036854775807) (hC : CellsC w ao l)
    (CF : ∀ i, i < l.length → ∀ W, Below w.heap.size w W → Hid (Calls Tryd.prog 43 #[.agg #[.int .u64 ((l.getD i (0, 0)).1 : Int), .int .u64 ((l.getD i (0, 0)).2 : Int)], .pointer (some ⟨T, 0, none⟩), .pointer (some ⟨G, 0, none⟩), .pointer (some ⟨D, 0, none⟩)] W fun e w' => e = .returned (.bool (p i)) ∧ Below W.heap.size W w')) :
    Calls Tryd.prog 42 #[.slice ao l.length cap, .func (.func 43) #[] #[.pointer (some ⟨T, 0, none⟩), .pointer (some ⟨G, 0, none⟩), .pointer (some ⟨D, 0, none⟩)]] w fun e w' => e = .returned (.bool (!((List.range l.length).all fun j => !p j))) ∧ Below w.heap.size w w' := by
  have CI := Lib.hid (gIndex_any T G D p l ao cap w hl hcap1 hcap2 hC CF)
  clear CF hC
  generalize (List.range l.length).all (fun j => !p j) = b at *
  go_enter Tryd.func42, Tryd.ntmps42
  go_wp2_with (go_at_call 78; refine (CI.out).mono ?_; rintro e w3 ⟨r, rfl, hr, hb⟩)
  go_ret
  exact ⟨by rw [← hr]; rfl, hb⟩

theorem CellsC.next {w w' : World} {ao : Option Addr} {l : List (Nat × Nat)} (h : CellsC w ao l) (hb : Below w.heap.size w w') : CellsC w' ao l := by
  intro hl
  obtain ⟨g, rfl, hg, hc⟩ := h hl
  exact ⟨g, rfl, Nat.lt_of_lt_of_le hg hb.size, fun i hi => ⟨(hb.cell (p := ⟨g, i * 2, none⟩) hg).trans (hc i hi).1, (hb.cell (p := ⟨g, i * 2 + 1, none⟩) hg).trans (hc i hi).2⟩⟩
/-- What held returns. -/
def heldB (n on : Nat) (l : List (Nat × Nat)) (c v : Nat) : Bool := (Ic.tab n c v &&& on == 0) || !((List.range l.length).all fun j => !Ic.insB c v (l.getD j (0, 0)).1 (l.getD j (0, 0)).2)

set_option maxHeartbeats 4000000 in
set_option maxRecDepth 100000 in
theorem gHeld_any (n on : Nat) (m : Int) (fr c v T D L : Nat) (l : List (Nat × Nat)) (ao : Option Addr) (cap : Nat) (w : World) (hst : St w) (hn : n ≤ 6) (ho : on < 2 ^ 64) (hc : c < 2 ^ n) (hs : Ic.Sub v c) (hf : ∀ i, i < l.length → Ic.Fits n (l.getD i (0, 0))) (hl : l.length ≤ 4096) (hcap1 : l.length ≤ cap) (hcap2 : cap ≤ 9223372036854775807) (hC : CellsC w ao l)
    (hT : TaskI w T n on m fr) (hD : BadI w D) (hL0 : L < w.heap.size) (hL : w.cell? ⟨L, 0, none⟩ = some (.slice ao l.length cap)) :
    Calls Tryd.prog 41 #[.agg #[.int .u64 c, .int .u64 v], .pointer (some ⟨T, 0, none⟩), .pointer (some ⟨D, 0, none⟩), .pointer (some ⟨L, 0, none⟩)] w fun e w' => e = .returned (.bool (heldB n on l c v)) ∧ Below w.heap.size w w' := by
  have hc64 := Ic.w64 hn hc
  have hv64 := Ic.w64 hn (hs.lt hc)
  have hk := Ic.chk_of hn hc hs
  have CT := fun W (h : St W) => Lib.hid (iTab_any n c v W hc64 hv64 h)
  have HTV : Ic.tabV n c v = (((n : Int), Ic.tab n c v), (0 : Int)) := by
    unfold Ic.tabV; rw [if_neg (by rw [hk]; simp), Int.toNat_natCast]
  rw [HTV] at CT
  dsimp only at CT
  have CIN := fun G i (hi : i < l.length) W (h1 : TaskI W T n on m fr) (h2 : CubI W G c v) (h3 : BadI W D) => Lib.hid (gIn_any n on m fr c v (l.getD i (0, 0)).1 (l.getD i (0, 0)).2 T G D (Ic.insB c v (l.getD i (0, 0)).1 (l.getD i (0, 0)).2) W hc64 hv64 (Ic.w64 hn (hf i hi).1) (Ic.w64 hn ((hf i hi).2.lt (hf i hi).1)) (by unfold Ic.insV; rw [if_pos (Ic.chk2_zero.2 ⟨hk, Ic.chk_of hn (hf i hi).1 (hf i hi).2⟩)]) h1 h2 h3)
  have htb := Tt.w64 hn (Ic.tab_lt n c v)
  have e2 := u64_and_nat (Ic.tab n c v) on (by simpa using htb) (by simpa using ho)
  have HG : Hid (heldB n on l c v = ((Ic.tab n c v &&& on == 0) || !((List.range l.length).all fun j => !Ic.insB c v (l.getD j (0, 0)).1 (l.getD j (0, 0)).2))) := Lib.hid rfl
  generalize heldB n on l c v = res at *
  generalize Ic.tab n c v = tb at *
  have HT := Lib.hid hT
  have HD := Lib.hid hD
  have HST := Lib.hid hst
  have HC := Lib.hid hC
  clear hT hst hC hf hs hc hk HTV htb ho
  obtain ⟨d0, d1, d2⟩ := id hD
  clear hD
  obtain ⟨t0, t1, t2, t3, t4⟩ := HT.out
  go_enter Tryd.func41, Tryd.ntmps41
  go_wp2_with (fail)
  obtain ⟨N0, LN, zN⟩ := cub1_new w c v 24
  have HV := Lib.hid LN
  have TV := Lib.hid (HT.out.step LN)
  have DV := Lib.hid (HD.out.step LN)
  have CV := Lib.hid N0
  have LV := Lib.hid ((LN.cell (p := ⟨L, 0, none⟩) hL0).trans hL)
  have hwV := LN.size
  clear N0 LN hL t1 t2 t3 t4 d1 d2
  generalize w.alloc (.cells #[.int .u64 (c : Int), .int .u64 (v : Int)] 24) = V at *
  go_at_call 13
  refine ((CT _ (HST.out.next HV.out)).out).mono ?_
  rintro e w1 ⟨rfl, hb⟩
  have HW := Lib.hid (below_nxt HV.out hb)
  have TW := Lib.hid (TV.out.step hb)
  have DW := Lib.hid (DV.out.step hb)
  have CW := Lib.hid (CV.out.step hb)
  have k1 := (hb.cell (p := ⟨L, 0, none⟩) (by simp only; omega)).trans LV.out
  have kL : L < w1.heap.size := by have := hb.size; omega
  have hset := setCell_id DW.out.2.1
  obtain ⟨t0', t1, t2, t3, t4⟩ := TW.out
  obtain ⟨d0', d1, d2⟩ := DW.out
  clear hb CT TV DV CV LV HV
  by_cases h0 : tb &&& on = 0
  · have h0' : (((tb &&& on : Nat) : Int) == 0) = true := by simp [h0]
    go_wp2
    go_ret
    exact ⟨by rw [HG.out, h0]; rfl, HW.out.trans (((Below.refl _ _).alloc (Nat.le_refl _) _).mono HW.out.size)⟩
  · have h0' : (((tb &&& on : Nat) : Int) == 0) = false := by simp; omega
    go_wp2_with (fail)
    obtain ⟨Z0, LZ, zZ⟩ := tab1_new w1 n tb 32
    have HZ := Lib.hid (below_nxt HW.out LZ)
    have TZ := Lib.hid (TW.out.step LZ)
    have DZ := Lib.hid (DW.out.step LZ)
    have CZ := Lib.hid (CW.out.step LZ)
    clear Z0 LZ t1 t2 t3 t4 d1 d2 k1 hset
    generalize w1.alloc (.cells #[.int .i64 n, .int .u64 (tb : Int)] 32) = Z at *
    go_at_call 42
    refine (gCont_any T w.heap.size D (fun j => Ic.insB c v (l.getD j (0, 0)).1 (l.getD j (0, 0)).2) l ao cap Z hl hcap1 hcap2 ?_ (fun i hi W hW => CIN w.heap.size i hi W (TZ.out.step hW) (CZ.out.step hW) (DZ.out.step hW))).mono ?_
    · exact HC.out.next HZ.out
    rintro e w2 ⟨rfl, hb⟩
    have H2 := Lib.hid (below_nxt HZ.out hb)
    go_wp2
    go_ret
    exact ⟨by rw [HG.out]; simp [h0], H2.out⟩
end Go.Proofs.YtabflijfbjdpgaaDoor
