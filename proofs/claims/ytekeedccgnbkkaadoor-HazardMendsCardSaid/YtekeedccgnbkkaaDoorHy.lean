/- The law HazardMends. -/
import Derived.Test.YtekeedccgnbkkaaDoorHu
import Derived.Test.YtekeedccgnbkkaaDoorHx
namespace Go.Proofs.YtekeedccgnbkkaaDoor
open Go.RowKit Go.Shelf
theorem SeesC.plain {w : World} {v : Value} {l : List (Nat × Nat)} (h : SeesC w v l) : ∀ c, v = .slice none 0 c → c = 0 := by
  intro c hc
  rcases h with ⟨h, _⟩ | ⟨g, cap, h, _⟩
  · rw [h] at hc; cases hc; rfl
  · rw [h] at hc; cases hc

theorem SeesC.room {w : World} {mo : Option Addr} {n mc : Nat} {l : List (Nat × Nat)} (h : SeesC w (.slice mo n mc) l) : mo = none → mc = 0 := by
  rintro rfl
  rcases h with ⟨h, _⟩ | ⟨g, cap, h, _⟩
  · cases h; rfl
  · cases h
theorem CellsO.next {w w' : World} {ao : Option Addr} {l : List (Nat × Nat)} (h : CellsO w ao l) (hb : Below w.heap.size w w') : CellsO w' ao l := by
  intro hl
  obtain ⟨g, off, rfl, hg, h4⟩ := h hl
  exact ⟨g, off, rfl, Nat.lt_of_lt_of_le hg hb.size, fun i hi => ⟨(hb.cell (p := ⟨g, off + i * 2, none⟩) hg).trans (h4 i hi).1, (hb.cell (p := ⟨g, off + i * 2 + 1, none⟩) hg).trans (h4 i hi).2⟩⟩

theorem neq_bool (x y : Bool) (W : World) : (binOp .neq 4 (.bool x) (.bool y)).run Tryd.prog W = .ok (.bool (x != y)) W := by
  cases x <;> cases y <;> kernel_rfl

set_option maxHeartbeats 4000000 in
set_option maxRecDepth 100000 in
theorem mends_any (n : Int) (l : List (Nat × Nat)) (v : Value) (w : World) (hw : Hz.W64 l) (hs : SeesO w v l) (ha : Al w) (hpl : ∀ c, v = .slice none 0 c → c = 0) :
    Calls Tryd.prog 4 #[.int .i64 n, v] w fun e w' => e = .returned (.bool true) ∧ Below w.heap.size w w' := by
  have CR := fun W h => Lib.hid (right_any n l v W hw h)
  have HSE := Lib.hid hs
  have HA := Lib.hid ha
  cases hr : Hz.rgt n l
  · rw [hr] at CR
    clear hs ha hr
    go_enter Tryd.func4, Tryd.ntmps4
    go_wp2_with (first | (go_at_call 6; (with_reducible refine ((CR _ HSE.out).out).mono ?_); rintro e w1 ⟨rfl, hb⟩; have HB1 := Lib.hid hb) | (go_at_call 7; (with_reducible refine (awake_any _ (HA.out.next HB1.out)).mono ?_); rintro e w2 ⟨rfl, hb2⟩))
    go_ret
    exact ⟨rfl, below_nxt HB1.out hb2⟩
  · obtain ⟨m, rfl, hm, hlen, ho⟩ := Hz.rgt_nat hw hr
    rw [hr] at CR
    clear hs ha hr
    have h6 : m ≤ 6 := by omega
    obtain ⟨i0, hi0, hz0, hz1, hz2⟩ := info_cube
    have CT := fun W h h' => Lib.hid (hTable_ok m l v W h6 (by omega) ho hw h h')
    have CH := fun W h h1 h2 => Lib.hid (hHaz_ok m l v W h6 (by omega) ho hw h h1 h2)
    have CM := fun W h h1 h2 => Lib.hid (hMend_ok m l v W h6 (by omega) ho hw h h1 h2)
    have CC := fun W h => Lib.hid (sClone_any l v W (by omega) h hpl)
    have hML := Hz.mend_len m l
    have hBL5 := Hz.bad_len5 hm l
    have hMN := Hz.mend_nil (l := l) h6
    have hoA : Hz.Ok m (l ++ Hz.mend m l) := Hz.ok_append ho (Hz.mend_ok m l)
    have hwA : Hz.W64 (l ++ Hz.mend m l) := fun p hp => by
      obtain ⟨h1, h2⟩ := hoA p hp
      exact ⟨Ic.w64 h6 h1, Ic.w64 h6 (h2.lt h1)⟩
    have hlA : (l ++ Hz.mend m l).length ≤ 256 := by rw [List.length_append]; omega
    have CT2 := fun u W h h' => Lib.hid (hTable_ok m (l ++ Hz.mend m l) u W h6 hlA hoA hwA h h')
    have CH2 := fun u W h h1 h2 => Lib.hid (hHaz_ok m (l ++ Hz.mend m l) u W h6 hlA hoA hwA h h1 h2)
    rw [Hz.mend_made h6] at CT2
    rw [Hz.mend_none h6] at CH2
    generalize Hz.made m l = md at *
    generalize Hz.mend m l = M at *
    generalize Hz.bad m l = LB at *
    clear hoA hwA ho hw
    go_enter Tryd.func4, Tryd.ntmps4
    go_wp2_with fail
    refine ((CR _ HSE.out).out).mono ?_
    rintro e w1 ⟨rfl, hb⟩
    have HB1 := Lib.hid hb
    clear hb
    go_wp2_with fail
    refine ((CT _ (HSE.out.step HB1.out) (HA.out.next HB1.out).st).out).mono ?_
    rintro e w3 ⟨rfl, hb⟩
    have HB3 := Lib.hid (below_nxt HB1.out hb)
    clear hb
    have hBL := (Below.refl w3.heap.size w3).alloc (Nat.le_refl _) (.cells #[.int .i64 (m : Int), .int .u64 ((md : Nat) : Int)] 29)
    obtain ⟨TB, -, -⟩ := tab1_new w3 m md 29
    have HB4 := Lib.hid (below_nxt HB3.out hBL)
    have HTB := Lib.hid TB
    clear hBL TB
    go_wp2_with fail
    refine ((CH _ (HSE.out.step HB4.out) (HA.out.next HB4.out).st (HA.out.next HB4.out).sz).out).mono ?_
    rintro e w5 ⟨bv, rfl, hbv, hb⟩
    have HB5 := Lib.hid (below_nxt HB4.out hb)
    have HT5 := Lib.hid (HTB.out.step hb)
    obtain ⟨bo, bc, rfl, hbc1, hbc2, -⟩ := hbv.opened
    clear hb hbv
    go_wp2_with fail
    refine ((CM _ (HSE.out.step HB5.out) (HA.out.next HB5.out).st (HA.out.next HB5.out).sz).out).mono ?_
    rintro e w6 ⟨mv, rfl, hmv, hb⟩
    have HB6 := Lib.hid (below_nxt HB5.out hb)
    have HT6 := Lib.hid (HT5.out.step hb)
    have HMV := Lib.hid hmv
    obtain ⟨mo, mc, rfl, hmc1, hmc2, hmC⟩ := hmv.o.opened
    clear hb hmv
    have HRM := Lib.hid (HMV.out.room)
    have HMC := Lib.hid hmC
    have hsz6 := HB6.out.size
    have ht6 : w3.heap.size < w6.heap.size := HT6.out.1
    obtain ⟨nm, hnm⟩ : ∃ nm, M.length = nm := ⟨_, rfl⟩
    obtain ⟨nb, hnb⟩ : ∃ nb, LB.length = nb := ⟨_, rfl⟩
    have hb0 : ((nm : Int) == 0) = ((nb : Int) == 0) := by
      rw [Bool.eq_iff_iff, beq_iff_eq, beq_iff_eq, ← hnm, ← hnb]
      have e1 : ((M.length : Nat) : Int) = 0 ↔ M = [] := by rw [← List.length_eq_zero_iff]; omega
      have e2 : ((LB.length : Nat) : Int) = 0 ↔ LB = [] := by rw [← List.length_eq_zero_iff]; omega
      rw [e1, e2]; exact hMN
    have hlen2 : l.length + M.length ≤ 1048576 := by omega
    have hle : ¬ ((nb : Int) < (nm : Int)) := by rw [← hnm, ← hnb]; omega
    have hle2 : ((nm : Int) > (nb : Int)) = False := by rw [gt_iff_lt]; exact eq_false hle
    rw [hnm, hnb]
    have HNM := Lib.hid hnm
    have HL2 := Lib.hid hlen2
    clear CT CH CM hMN hmC hnm hnb hlen2
    cases hbb : ((nb : Int) == 0)
    all_goals
      rw [hbb] at hb0
      have hne1 := neq_bool
      go_wp2_with fail
      refine ((CC _ (HSE.out.step HB6.out)).out).mono ?_
      rintro e w7 ⟨cv, rfl, hrow, hb⟩
      have HB7 := Lib.hid (below_nxt HB6.out hb)
      have RW7 := Lib.hid hrow
      have HT7 := Lib.hid (HT6.out.step hb)
      have HMC7 := Lib.hid (HMC.out.next hb)
      have hz7 := hb.size
      clear hb hrow
      have HX : Value.slice mo nm mc = .slice mo M.length mc := by rw [HNM.out]
      go_wp2_with (at_builtin; refine wpList_append_cubs rfl _ _ 22 rfl 48 i0 Tryd.underlying22 hi0 hz0 hz1 hz2 _ l M mo mc rfl (by first | rfl | exact HX) HMC7.out HRM.out w6.heap.size RW7.out HL2.out hz7 ?_; intro v8 w8 hr8 hb8; have HB8 := Lib.hid (HB7.out.trans (hb8.mono hsz6)); have HS8 := Lib.hid hr8.sees.o; have HT8 := Lib.hid (HT7.out.below ht6 hb8); clear hb8 hr8)
      refine ((CT2 v8 _ HS8.out (HA.out.next HB8.out).st).out).mono ?_
      rintro e w9 ⟨rfl, hb⟩
      have HB9 := Lib.hid (below_nxt HB8.out hb)
      have HS9 := Lib.hid (HS8.out.step hb)
      have HT9 := Lib.hid (HT8.out.step hb)
      clear hb
      have hBL := (Below.refl w9.heap.size w9).alloc (Nat.le_refl _) (.cells #[.int .i64 (m : Int), .int .u64 ((md : Nat) : Int)] 29)
      obtain ⟨TU, -, -⟩ := tab1_new w9 m md 29
      have HBA := Lib.hid (below_nxt HB9.out hBL)
      have HSA := Lib.hid (HS9.out.step hBL)
      have HTA := Lib.hid (HT9.out.step hBL)
      have HTU := Lib.hid TU
      clear hBL TU
      go_wp2_with fail
      refine ((CH2 v8 _ HSA.out (HA.out.next HBA.out).st (HA.out.next HBA.out).sz).out).mono ?_
      rintro e wA ⟨zv, rfl, hzv, hb⟩
      have HBB := Lib.hid (below_nxt HBA.out hb)
      obtain ⟨t0, t1, t2, t3, t4⟩ := HTA.out.step hb
      obtain ⟨u0, u1, u2, u3, u4⟩ := HTU.out.step hb
      obtain ⟨zo, zc, rfl, hzc1, hzc2, -⟩ := hzv.opened
      clear hb hzv
      rw [List.length_nil]
      go_wp2_with (go_at_call 7; (with_reducible refine (awake_any _ (HA.out.next HBB.out)).mono ?_); rintro e wB ⟨rfl, hbB⟩)
      go_ret
      exact ⟨rfl, below_nxt HBB.out hbB⟩
end Go.Proofs.YtekeedccgnbkkaaDoor
