/- Put of the reference, for all lists. -/
import Derived.Test.YthjkcncfppndkaaDoorGW
import Derived.Laws.Cover1
import Derived.Sort.Walk0
namespace Pt
def putS (l : List ByteArray) (s : ByteArray) : Nat → List ByteArray × Bool
  | 0 => ([], false)
  | i + 1 =>
    let o := if !(putS l s i).2 && !Go.Op.bytesLess (l.getD i ⟨#[]⟩).toList s.toList then (putS l s i).1 ++ [s] else (putS l s i).1
    (if (l.getD i ⟨#[]⟩).toList == s.toList then o else o ++ [l.getD i ⟨#[]⟩], (putS l s i).2 || !Go.Op.bytesLess (l.getD i ⟨#[]⟩).toList s.toList)
def putV (l : List ByteArray) (s : ByteArray) : List ByteArray := if (putS l s l.length).2 then (putS l s l.length).1 else (putS l s l.length).1 ++ [s]
theorem putS_len (l : List ByteArray) (s : ByteArray) : ∀ i, (putS l s i).1.length ≤ 2 * i
  | 0 => by simp [putS]
  | i + 1 => by
    have := putS_len l s i
    simp only [putS]
    split <;> split <;> simp <;> omega
end Pt
namespace Go.Proofs.YthjkcncfppndkaaDoor
open Go.RowKit
set_option maxHeartbeats 4000000 in
set_option maxRecDepth 100000 in
theorem put_any (v : Value) (l : List ByteArray) (s : ByteArray) (w : World) (hv : SeeS w v l) (hlen : l.length ≤ 1000) : Calls Tryd.prog 72 #[v, .string s] w fun e w' => ∃ u, e = .returned u ∧ RowS w.heap.size w' u (Pt.putV l s) ∧ Below w.heap.size w w' := by
  obtain ⟨i0, hi0, hz0, hz1, hz2⟩ := info_str
  have HV := Lib.hid hv
  obtain ⟨a, c, rfl, -, -⟩ := hv.at
  clear hv
  have HL0 := Lib.hid hlen
  have zl : (l.length : Int) ≤ 1000 := by omega
  clear hlen
  go_enter Tryd.func72, Tryd.ntmps72
  go_wp2
  go_loopw [5, 6, 7] (fun s5 s6 s7 wr => ∃ i : Nat, i ≤ l.length ∧ s7 = .int .i64 (i : Int) ∧ s6 = .bool (Pt.putS l s i).2 ∧ Hid (RowS w.heap.size wr s5 (Pt.putS l s i).1) ∧ Hid (Below w.heap.size w wr)) (fun _ _ s7 _ => l.length - (intOf s7).toNat)
  case atStart => exact ⟨0, Nat.zero_le _, rfl, rfl, Lib.hid (RowS.nil _ _), Lib.hid (Below.refl _ _)⟩
  case round =>
    obtain ⟨i, hi, rfl, rfl, HR, HB⟩ := hrel
    have HLen := Lib.hid (show (Pt.putS l s i).1.length ≤ 3000 by have := Pt.putS_len l s i; have := HL0.out; omega)
    obtain ⟨ra, rc, rfl⟩ := HR.out.form
    by_cases hil : i < l.length
    · have zi : (i : Int) < (l.length : Int) := by omega
      obtain ⟨a2, c2, he, -, hc⟩ := HV.out.at
      simp only [Value.slice.injEq] at he
      obtain ⟨rfl, -, rfl⟩ := he
      obtain ⟨g, off, rfl, cw⟩ := hc i hil
      have HGW := Lib.hid (World.block_lt_of_cell? w ⟨g, off + i, none⟩ cw)
      have HCW := Lib.hid cw
      have c0 := (HB.out.cell (p := ⟨g, off + i, none⟩) HGW.out).trans cw
      clear cw
      have HS := Lib.hid (show Pt.putS l s (i + 1) = _ from rfl)
      clear hc
      have hNil := Lib.hid hil
      generalize hx : l.getD i ⟨#[]⟩ = x at *
      have HX := Lib.hid hx
      clear hx
      generalize ho : (Pt.putS l s i).1 = o at *
      generalize hd : (Pt.putS l s i).2 = d at *
      have HO := Lib.hid ho
      have HD := Lib.hid hd
      clear ho hd
      cases hlt : Op.bytesLess x.toList s.toList <;> cases heq : (x.toList == s.toList) <;> cases d
      · have hne : ¬ x.toList = s.toList := by simpa using heq
        have HE := Lib.hid (show Pt.putS l s (i + 1) = ((o ++ [s]) ++ [x], true) by simp only [Pt.putS]; rw [HX.out, HO.out, HD.out, hlt, heq]; rfl)
        clear HS
        go_wp2_with (first | (at_builtin; (refine wpList_append_one rfl _ _ 37 rfl i0 Tryd.underlying37 hi0 hz0 hz1 hz2 _ o s _ rfl rfl w.heap.size (HR.out.step ((Below.refl _ _).alloc (Nat.le_refl _) _)) (cell_new rfl rfl) (by have := HLen.out; first | omega | (simp only [List.length_append, List.length_cons, List.length_nil]; omega)) (Nat.le_trans HB.out.size (by simp)) ?_; intro v_a w_a hr hb; have HR_a := Lib.hid hr; have HB_a := Lib.hid ((HB.out.alloc HB.out.size _).trans hb); clear hr hb; have c1 := (HB_a.out.cell (p := ⟨g, off + i, none⟩) HGW.out).trans HCW.out; clear c0)) | (at_builtin; (refine wpList_append_one rfl _ _ 37 rfl i0 Tryd.underlying37 hi0 hz0 hz1 hz2 _ (o ++ [s]) x _ rfl rfl w.heap.size (HR_a.out.step ((Below.refl _ _).alloc (Nat.le_refl _) _)) (cell_new rfl rfl) (by have := HLen.out; first | omega | (simp only [List.length_append, List.length_cons, List.length_nil]; omega)) (Nat.le_trans HB_a.out.size (by simp)) ?_; intro v_b w_b hr hb; have HR_b := Lib.hid hr; have HB_b := Lib.hid ((HB_a.out.alloc HB_a.out.size _).trans hb); clear hr hb)))
        exact ⟨⟨i + 1, by have := hNil.out; omega, by first | rfl | go_num, by rw [HE.out], Lib.hid (by rw [HE.out]; exact HR_b.out), HB_b⟩, by have := hNil.out; simp [intOf]; omega⟩
      · have hne : ¬ x.toList = s.toList := by simpa using heq
        have HE := Lib.hid (show Pt.putS l s (i + 1) = ((o) ++ [x], true) by simp only [Pt.putS]; rw [HX.out, HO.out, HD.out, hlt, heq]; rfl)
        clear HS
        go_wp2_with (at_builtin; (refine wpList_append_one rfl _ _ 37 rfl i0 Tryd.underlying37 hi0 hz0 hz1 hz2 _ (o) x _ rfl rfl w.heap.size (HR.out.step ((Below.refl _ _).alloc (Nat.le_refl _) _)) (cell_new rfl rfl) (by have := HLen.out; first | omega | (simp only [List.length_append, List.length_cons, List.length_nil]; omega)) (Nat.le_trans HB.out.size (by simp)) ?_; intro v_b w_b hr hb; have HR_b := Lib.hid hr; have HB_b := Lib.hid ((HB.out.alloc HB.out.size _).trans hb); clear hr hb))
        exact ⟨⟨i + 1, by have := hNil.out; omega, by first | rfl | go_num, by rw [HE.out], Lib.hid (by rw [HE.out]; exact HR_b.out), HB_b⟩, by have := hNil.out; simp [intOf]; omega⟩
      · have hne : x.toList = s.toList := by simpa using heq
        have hlt2 := hlt
        rw [beq_iff_eq.1 heq] at hlt2
        have HE := Lib.hid (show Pt.putS l s (i + 1) = (o ++ [s], true) by simp only [Pt.putS]; rw [HX.out, HO.out, HD.out, hlt, heq]; rfl)
        clear HS
        go_wp2_with (at_builtin; (refine wpList_append_one rfl _ _ 37 rfl i0 Tryd.underlying37 hi0 hz0 hz1 hz2 _ o s _ rfl rfl w.heap.size (HR.out.step ((Below.refl _ _).alloc (Nat.le_refl _) _)) (cell_new rfl rfl) (by have := HLen.out; first | omega | (simp only [List.length_append, List.length_cons, List.length_nil]; omega)) (Nat.le_trans HB.out.size (by simp)) ?_; intro v_a w_a hr hb; have HR_a := Lib.hid hr; have HB_a := Lib.hid ((HB.out.alloc HB.out.size _).trans hb); clear hr hb; have c1 := (HB_a.out.cell (p := ⟨g, off + i, none⟩) HGW.out).trans HCW.out; clear c0))
        exact ⟨⟨i + 1, by have := hNil.out; omega, by first | rfl | go_num, by rw [HE.out], Lib.hid (by rw [HE.out]; exact HR_a.out), HB_a⟩, by have := hNil.out; simp [intOf]; omega⟩
      · have hne : x.toList = s.toList := by simpa using heq
        have hlt2 := hlt
        rw [beq_iff_eq.1 heq] at hlt2
        have HE := Lib.hid (show Pt.putS l s (i + 1) = (o, true) by simp only [Pt.putS]; rw [HX.out, HO.out, HD.out, hlt, heq]; rfl)
        clear HS
        go_wp2
        exact ⟨⟨i + 1, by have := hNil.out; omega, by first | rfl | go_num, by rw [HE.out], Lib.hid (by rw [HE.out]; exact HR.out), HB⟩, by have := hNil.out; simp [intOf]; omega⟩
      · have hne : ¬ x.toList = s.toList := by simpa using heq
        have HE := Lib.hid (show Pt.putS l s (i + 1) = ((o) ++ [x], false) by simp only [Pt.putS]; rw [HX.out, HO.out, HD.out, hlt, heq]; rfl)
        clear HS
        go_wp2_with (at_builtin; (refine wpList_append_one rfl _ _ 37 rfl i0 Tryd.underlying37 hi0 hz0 hz1 hz2 _ (o) x _ rfl rfl w.heap.size (HR.out.step ((Below.refl _ _).alloc (Nat.le_refl _) _)) (cell_new rfl rfl) (by have := HLen.out; first | omega | (simp only [List.length_append, List.length_cons, List.length_nil]; omega)) (Nat.le_trans HB.out.size (by simp)) ?_; intro v_b w_b hr hb; have HR_b := Lib.hid hr; have HB_b := Lib.hid ((HB.out.alloc HB.out.size _).trans hb); clear hr hb))
        exact ⟨⟨i + 1, by have := hNil.out; omega, by first | rfl | go_num, by rw [HE.out], Lib.hid (by rw [HE.out]; exact HR_b.out), HB_b⟩, by have := hNil.out; simp [intOf]; omega⟩
      · have hne : ¬ x.toList = s.toList := by simpa using heq
        have HE := Lib.hid (show Pt.putS l s (i + 1) = ((o) ++ [x], true) by simp only [Pt.putS]; rw [HX.out, HO.out, HD.out, hlt, heq]; rfl)
        clear HS
        go_wp2_with (at_builtin; (refine wpList_append_one rfl _ _ 37 rfl i0 Tryd.underlying37 hi0 hz0 hz1 hz2 _ (o) x _ rfl rfl w.heap.size (HR.out.step ((Below.refl _ _).alloc (Nat.le_refl _) _)) (cell_new rfl rfl) (by have := HLen.out; first | omega | (simp only [List.length_append, List.length_cons, List.length_nil]; omega)) (Nat.le_trans HB.out.size (by simp)) ?_; intro v_b w_b hr hb; have HR_b := Lib.hid hr; have HB_b := Lib.hid ((HB.out.alloc HB.out.size _).trans hb); clear hr hb))
        exact ⟨⟨i + 1, by have := hNil.out; omega, by first | rfl | go_num, by rw [HE.out], Lib.hid (by rw [HE.out]; exact HR_b.out), HB_b⟩, by have := hNil.out; simp [intOf]; omega⟩
      · exfalso
        rw [beq_iff_eq.1 heq, Go.Proofs.bytesLess_eq] at hlt
        exact absurd (of_decide_eq_true hlt) (List.lt_irrefl _)
      · exfalso
        rw [beq_iff_eq.1 heq, Go.Proofs.bytesLess_eq] at hlt
        exact absurd (of_decide_eq_true hlt) (List.lt_irrefl _)
    · obtain rfl : i = l.length := by omega
      have hpv : Pt.putV l s = if (Pt.putS l s l.length).2 then (Pt.putS l s l.length).1 else (Pt.putS l s l.length).1 ++ [s] := rfl
      have HPV := Lib.hid hpv
      clear hpv
      generalize (Pt.putS l s l.length).1 = o at *
      generalize (Pt.putS l s l.length).2 = d at *
      cases d
      · go_wp2_with (at_builtin; (refine wpList_append_one rfl _ _ 37 rfl i0 Tryd.underlying37 hi0 hz0 hz1 hz2 _ o s _ rfl rfl w.heap.size (HR.out.step ((Below.refl _ _).alloc (Nat.le_refl _) _)) (cell_new rfl rfl) (by have := HLen.out; first | omega | (simp only [List.length_append, List.length_cons, List.length_nil]; omega)) (Nat.le_trans HB.out.size (by simp)) ?_; intro v_a w_a hr hb; have HR_a := Lib.hid hr; have HB_a := Lib.hid ((HB.out.alloc HB.out.size _).trans hb); clear hr hb))
        go_ret
        exact ⟨_, rfl, by have := HPV.out; simp only [Bool.false_eq_true, if_false] at this; rw [this]; exact HR_a.out, HB_a.out⟩
      · go_wp2
        go_ret
        exact ⟨_, rfl, by have := HPV.out; simp only [if_true] at this; rw [this]; exact HR.out, HB.out⟩
end Go.Proofs.YthjkcncfppndkaaDoor
