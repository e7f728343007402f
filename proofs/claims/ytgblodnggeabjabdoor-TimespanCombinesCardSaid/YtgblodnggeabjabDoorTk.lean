/- The contracts of Parse of package timespan and of the reference. -/
import Derived.Test.YtgblodnggeabjabDoorTj
import Derived.Test.YtgblodnggeabjabDoorTg
namespace Tm
open Fr
theorem par_long {s : List UInt8} (h : ¬ s.length ≤ 24) : parV s = ((0, 0), 4) := by unfold parV; rw [if_neg (fun g => h g.1)]
theorem par_one {s : List UInt8} (h : numOk (cut2 s).1 = false) : parV s = ((0, 0), 4) := by unfold parV; rw [if_neg (fun g => by rw [h] at g; exact absurd g.2.1 (by simp))]
theorem par_two {s : List UInt8} (h : numOk (sndT s) = false) : parV s = ((0, 0), 4) := by unfold parV; rw [if_neg (fun g => by rw [h] at g; exact absurd g.2.2 (by simp))]
theorem par_rest {s : List UInt8} (h0 : s.length ≤ 24) (h1 : numOk (cut2 s).1 = true) (h2 : numOk (sndT s) = true) {x y : Int} (hx : (((dv (cut2 s).1 : Nat) : Int)) = x) (hy : (((dv (sndT s) : Nat) : Int)) = y) :
    parV s = if chk x y ≠ 0 then ((0, 0), chk x y) else if (cut2 s).2.isSome = true ∧ x = y then ((0, 0), 3) else ((x, y), 0) := by
  subst hx hy
  unfold parV
  rw [if_pos ⟨h0, h1, h2⟩]
  simp only [Int.natCast_inj]
end Tm
namespace Go.Proofs.YtgblodnggeabjabDoor
open Go.RowKit

theorem ofV_good {x y : Int} (h : Tm.chk x y = 0) : Tm.ofV x y = ((x, y), 0) := by unfold Tm.ofV; rw [if_pos h]
theorem ofV_bad {x y : Int} (h : ¬ Tm.chk x y = 0) : Tm.ofV x y = ((0, 0), Tm.chk x y) := by unfold Tm.ofV; rw [if_neg h]
def sndB (s : ByteArray) : ByteArray := ⟨(Tm.sndT s.data.toList).toArray⟩
theorem cut2_len (l : List UInt8) : (Tm.cut2 l).1.length ≤ l.length ∧ ((Tm.cut2 l).2.getD []).length ≤ l.length := by
  have h := Tm.cut2_join l
  have h1 := congrArg List.length h
  cases hc : (Tm.cut2 l).2 with
  | none => rw [hc] at h1; simp at h1 ⊢; omega
  | some m => rw [hc] at h1; simp at h1 ⊢; omega

set_option maxRecDepth 100000 in
theorem tParse_long (s : ByteArray) (w : World) (h24 : (24 : Int) < (s.size : Int)) :
    Calls Tryd.prog 36 #[.string s] w fun e w' => e = .returned (.tuple #[.agg #[.int .i64 (Tm.parV s.data.toList).1.1, .int .i64 (Tm.parV s.data.toList).1.2], .int .i64 (Tm.parV s.data.toList).2]) ∧ Below w.heap.size w w' := by
  have hB0 : Below w.heap.size w (w.alloc (.cells #[.int .i64 0, .int .i64 0] 23)) := (Below.refl _ _).alloc (Nat.le_refl _) _
  have hs := hB0.size
  have HF := Lib.hid (pairI_new w 0 0 23)
  have HE := Lib.hid (Tm.par_long (s := s.data.toList) (by show ¬ s.size ≤ 24; omega))
  generalize Tm.parV s.data.toList = r at *
  clear HF hs hB0
  go_enter Tryd.func36, Tryd.ntmps36
  go_wp2
  exact bodyPost_ret (v := .tuple #[.agg #[.int .i64 0, .int .i64 0], .int .i64 4]) (by simp [results, Tryd.results36, go_sem]) rfl ⟨end_span HE.out, (Below.refl _ _).alloc (Nat.le_refl _) _⟩

set_option maxRecDepth 100000 in
set_option maxHeartbeats 1000000 in
theorem tParse_true (s : ByteArray) (w : World) (hst : St w) (h24 : (s.size : Int) ≤ 24) (hsome : (Tm.cut2 s.data.toList).2.isSome = true) :
    Calls Tryd.prog 36 #[.string s] w fun e w' => e = .returned (.tuple #[.agg #[.int .i64 (Tm.parV s.data.toList).1.1, .int .i64 (Tm.parV s.data.toList).1.2], .int .i64 (Tm.parV s.data.toList).2]) ∧ Below w.heap.size w w' := by
  have hB0 : Below w.heap.size w (w.alloc (.cells #[.int .i64 0, .int .i64 0] 23)) := (Below.refl _ _).alloc (Nat.le_refl _) _
  have hs := hB0.size
  have HF := Lib.hid (pairI_new w 0 0 23)
  have CC := fun W (hW : Below w.heap.size w W) => Lib.hid (cut_any s W (hst.next hW) (by omega))
  rw [hsome] at CC
  have hlen := cut2_len s.data.toList
  have hl : s.data.toList.length = s.size := rfl
  have N1 := fun W => Lib.hid (tIsNumber_any (fstB s) W (by show (Tm.cut2 s.data.toList).1.length ≤ 1000000; omega))
  have N2 := fun W => Lib.hid (tIsNumber_any (restB s) W (by show ((Tm.cut2 s.data.toList).2.getD []).length ≤ 1000000; omega))
  have V1 := fun W h => Lib.hid (tValue_any (fstB s) W h)
  have V2 := fun W h => Lib.hid (tValue_any (restB s) W h)
  have e2 : (restB s).data.toList = Tm.sndT s.data.toList := by
    unfold Tm.sndT
    cases hc : (Tm.cut2 s.data.toList).2 with
    | none => rw [hc] at hsome; cases hsome
    | some m => show ((Tm.cut2 s.data.toList).2.getD []) = _; rw [hc]; rfl
  have e1 : (fstB s).data.toList = (Tm.cut2 s.data.toList).1 := rfl
  rw [e1] at N1 V1
  rw [e2] at N2 V2
  have hl24 : s.data.toList.length ≤ 24 := by omega
  cases n1 : Tm.numOk (Tm.cut2 s.data.toList).1 with
  | false =>
    have HE := Lib.hid (Tm.par_one n1)
    rw [n1] at N1
    generalize Tm.parV s.data.toList = r at *
    generalize fstB s = a at *
    generalize restB s = b at *
    clear V1 V2 N2 n1 hsome e1 e2 hlen hst
    go_enter Tryd.func36, Tryd.ntmps36
    go_wp2_with fail
    refine ((CC _ hB0).out).mono ?_
    rintro e w1 ⟨rfl, hb1⟩
    obtain ⟨r0, r1, r2, r3, r4⟩ := HF.out.below (by simp) hb1
    have hB1 := hB0.trans (hb1.mono hs)
    clear hb1 CC HF hs
    go_wp2_with (go_at_call 57; refine ((N1 _).out).mono ?_; rintro e w2 ⟨rfl, rfl⟩)
    have hfin := (hB1.setCell (p := ⟨w.heap.size, 0, none⟩) (by simp) (.int .i64 0)).setCell (p := ⟨w.heap.size, 1, none⟩) (by simp) (.int .i64 0)
    exact bodyPost_ret (v := .tuple #[.agg #[.int .i64 0, .int .i64 0], .int .i64 4]) (by simp [results, Tryd.results36, go_sem, r1, r2]) rfl ⟨end_span HE.out, hfin⟩
  | true =>
    rw [n1] at N1
    cases n2 : Tm.numOk (Tm.sndT s.data.toList) with
    | false =>
      have HE := Lib.hid (Tm.par_two n2)
      rw [n2] at N2
      generalize Tm.parV s.data.toList = r at *
      generalize fstB s = a at *
      generalize restB s = b at *
      clear V1 V2 n1 n2 hsome e1 e2 hlen hst
      go_enter Tryd.func36, Tryd.ntmps36
      go_wp2_with fail
      refine ((CC _ hB0).out).mono ?_
      rintro e w1 ⟨rfl, hb1⟩
      obtain ⟨r0, r1, r2, r3, r4⟩ := HF.out.below (by simp) hb1
      have hB1 := hB0.trans (hb1.mono hs)
      clear hb1 CC HF hs
      go_wp2_with (go_at_call 57; (first | (with_reducible refine ((N1 _).out).mono ?_) | (with_reducible refine ((N2 _).out).mono ?_)); rintro e w2 ⟨rfl, rfl⟩)
      have hfin := (hB1.setCell (p := ⟨w.heap.size, 0, none⟩) (by simp) (.int .i64 0)).setCell (p := ⟨w.heap.size, 1, none⟩) (by simp) (.int .i64 0)
      exact bodyPost_ret (v := .tuple #[.agg #[.int .i64 0, .int .i64 0], .int .i64 4]) (by simp [results, Tryd.results36, go_sem, r1, r2]) rfl ⟨end_span HE.out, hfin⟩
    | true =>
      rw [n2] at N2
      have U1 := fun W => V1 W n1
      have U2 := fun W => V2 W n2
      have HR := Lib.hid (fun x y => Tm.par_rest (s := s.data.toList) hl24 n1 n2 (x := x) (y := y))
      obtain ⟨x, hx⟩ : ∃ x : Int, ((Fr.dv (Tm.cut2 s.data.toList).1 : Nat) : Int) = x := ⟨_, rfl⟩
      obtain ⟨y, hy⟩ : ∃ y : Int, ((Fr.dv (Tm.sndT s.data.toList) : Nat) : Int) = y := ⟨_, rfl⟩
      have HE := Lib.hid (HR.out x y hx hy)
      rw [hsome] at HE
      rw [hx] at U1
      rw [hy] at U2
      have CO := fun W => Lib.hid (tOf_any x y W)
      generalize Tm.parV s.data.toList = r at *
      generalize fstB s = a at *
      generalize restB s = b at *
      clear V1 V2 n1 n2 hsome e1 e2 hlen hst HR hx hy hl24
      by_cases hc : Tm.chk x y = 0
      · rw [ofV_good hc] at CO
        by_cases he : x = y
        · have HE1 := Lib.hid (HE.out.trans ((if_neg (by simpa using hc)).trans (if_pos ⟨rfl, he⟩)))
          subst he
          clear hc HE
          go_enter Tryd.func36, Tryd.ntmps36
          go_wp2_with fail
          refine ((CC _ hB0).out).mono ?_
          rintro e w1 ⟨rfl, hb1⟩
          obtain ⟨r0, r1, r2, r3, r4⟩ := HF.out.below (by simp) hb1
          have hB1 := hB0.trans (hb1.mono hs)
          clear hb1 CC HF hs
          go_wp2_with (first
            | (go_at_call 57; (first | (with_reducible refine ((N1 _).out).mono ?_) | (with_reducible refine ((N2 _).out).mono ?_)); rintro e w2 ⟨rfl, rfl⟩)
            | (go_at_call 58; (first | (with_reducible refine ((U1 _).out).mono ?_) | (with_reducible refine ((U2 _).out).mono ?_)); rintro e w2 ⟨rfl, rfl⟩)
            | fail)
          refine ((CO _).out).mono ?_
          rintro e w2 ⟨rfl, hb2⟩
          have HP : PairI w1 w.heap.size 0 0 := ⟨r0, r1, r2, r3, r4⟩
          obtain ⟨s0, s1, s2, s3, s4⟩ := HP.below r0 hb2
          have hB2 := hB1.trans (hb2.mono hB1.size)
          clear hb2 hB1 HP r0 r1 r2 r3 r4
          go_wp2
          have hfin0 := (hB2.setCell (p := ⟨w.heap.size, 0, none⟩) (by simp) (.int .i64 0)).setCell (p := ⟨w.heap.size, 1, none⟩) (by simp) (.int .i64 0)
          have hsz : w.heap.size < ((w2.setCell ⟨w.heap.size, 0, none⟩ (.int .i64 0)).setCell ⟨w.heap.size, 1, none⟩ (.int .i64 0)).heap.size := by simp <;> omega
          have a0 : ∀ o, (((w2.setCell ⟨w.heap.size, 0, none⟩ (.int .i64 0)).setCell ⟨w.heap.size, 1, none⟩ (.int .i64 0)).alloc o).cell? ⟨w.heap.size, 0, none⟩ = some (.int .i64 0) := fun o => by
            rw [cell_old _ _ _ hsz]
            simp [go_sem, s1]
          have a1 : ∀ o, (((w2.setCell ⟨w.heap.size, 0, none⟩ (.int .i64 0)).setCell ⟨w.heap.size, 1, none⟩ (.int .i64 0)).alloc o).cell? ⟨w.heap.size, 1, none⟩ = some (.int .i64 0) := fun o => by
            rw [cell_old _ _ _ hsz]
            simp [go_sem, s2]
          exact bodyPost_ret (v := .tuple #[.agg #[.int .i64 0, .int .i64 0], .int .i64 3]) (by simp [results, Tryd.results36, go_sem, a0, a1]) rfl ⟨end_span HE1.out, hfin0.alloc hfin0.size _⟩
        · have HE1 := Lib.hid (HE.out.trans ((if_neg (by simpa using hc)).trans (if_neg (fun g => he g.2))))
          have hne : (x == y) = false := by simpa using he
          clear hc HE he
          go_enter Tryd.func36, Tryd.ntmps36
          go_wp2_with fail
          refine ((CC _ hB0).out).mono ?_
          rintro e w1 ⟨rfl, hb1⟩
          obtain ⟨r0, r1, r2, r3, r4⟩ := HF.out.below (by simp) hb1
          have hB1 := hB0.trans (hb1.mono hs)
          clear hb1 CC HF hs
          go_wp2_with (first
            | (go_at_call 57; (first | (with_reducible refine ((N1 _).out).mono ?_) | (with_reducible refine ((N2 _).out).mono ?_)); rintro e w2 ⟨rfl, rfl⟩)
            | (go_at_call 58; (first | (with_reducible refine ((U1 _).out).mono ?_) | (with_reducible refine ((U2 _).out).mono ?_)); rintro e w2 ⟨rfl, rfl⟩)
            | fail)
          refine ((CO _).out).mono ?_
          rintro e w2 ⟨rfl, hb2⟩
          have HP : PairI w1 w.heap.size 0 0 := ⟨r0, r1, r2, r3, r4⟩
          obtain ⟨s0, s1, s2, s3, s4⟩ := HP.below r0 hb2
          have hB2 := hB1.trans (hb2.mono hB1.size)
          clear hb2 hB1 HP r0 r1 r2 r3 r4
          go_wp2
          have hfin0 := (hB2.setCell (p := ⟨w.heap.size, 0, none⟩) (by simp) (.int .i64 x)).setCell (p := ⟨w.heap.size, 1, none⟩) (by simp) (.int .i64 y)
          have hsz : w.heap.size < ((w2.setCell ⟨w.heap.size, 0, none⟩ (.int .i64 x)).setCell ⟨w.heap.size, 1, none⟩ (.int .i64 y)).heap.size := by simp <;> omega
          have a0 : ∀ o, (((w2.setCell ⟨w.heap.size, 0, none⟩ (.int .i64 x)).setCell ⟨w.heap.size, 1, none⟩ (.int .i64 y)).alloc o).cell? ⟨w.heap.size, 0, none⟩ = some (.int .i64 x) := fun o => by
            rw [cell_old _ _ _ hsz]
            simp [go_sem, s1]
          have a1 : ∀ o, (((w2.setCell ⟨w.heap.size, 0, none⟩ (.int .i64 x)).setCell ⟨w.heap.size, 1, none⟩ (.int .i64 y)).alloc o).cell? ⟨w.heap.size, 1, none⟩ = some (.int .i64 y) := fun o => by
            rw [cell_old _ _ _ hsz]
            simp [go_sem, s2]
          exact bodyPost_ret (v := .tuple #[.agg #[.int .i64 x, .int .i64 y], .int .i64 0]) (by simp [results, Tryd.results36, go_sem, a0, a1]) rfl ⟨end_span HE1.out, hfin0.alloc hfin0.size _⟩
      · rw [ofV_bad hc] at CO
        have HE1 := Lib.hid (HE.out.trans (if_pos hc))
        have hne : (Tm.chk x y != 0) = true := by simpa using hc
        generalize Tm.chk x y = c at *
        clear hc HE
        go_enter Tryd.func36, Tryd.ntmps36
        go_wp2_with fail
        refine ((CC _ hB0).out).mono ?_
        rintro e w1 ⟨rfl, hb1⟩
        obtain ⟨r0, r1, r2, r3, r4⟩ := HF.out.below (by simp) hb1
        have hB1 := hB0.trans (hb1.mono hs)
        clear hb1 CC HF hs
        go_wp2_with (first
          | (go_at_call 57; (first | (with_reducible refine ((N1 _).out).mono ?_) | (with_reducible refine ((N2 _).out).mono ?_)); rintro e w2 ⟨rfl, rfl⟩)
          | (go_at_call 58; (first | (with_reducible refine ((U1 _).out).mono ?_) | (with_reducible refine ((U2 _).out).mono ?_)); rintro e w2 ⟨rfl, rfl⟩)
          | fail)
        refine ((CO _).out).mono ?_
        rintro e w2 ⟨rfl, hb2⟩
        have HP : PairI w1 w.heap.size 0 0 := ⟨r0, r1, r2, r3, r4⟩
        obtain ⟨s0, s1, s2, s3, s4⟩ := HP.below r0 hb2
        have hB2 := hB1.trans (hb2.mono hB1.size)
        clear hb2 hB1 HP r0 r1 r2 r3 r4
        go_wp2
        have hfin0 := (hB2.setCell (p := ⟨w.heap.size, 0, none⟩) (by simp) (.int .i64 0)).setCell (p := ⟨w.heap.size, 1, none⟩) (by simp) (.int .i64 0)
        have hsz : w.heap.size < ((w2.setCell ⟨w.heap.size, 0, none⟩ (.int .i64 0)).setCell ⟨w.heap.size, 1, none⟩ (.int .i64 0)).heap.size := by simp <;> omega
        have a0 : ∀ o, (((w2.setCell ⟨w.heap.size, 0, none⟩ (.int .i64 0)).setCell ⟨w.heap.size, 1, none⟩ (.int .i64 0)).alloc o).cell? ⟨w.heap.size, 0, none⟩ = some (.int .i64 0) := fun o => by
          rw [cell_old _ _ _ hsz]
          simp [go_sem, s1]
        have a1 : ∀ o, (((w2.setCell ⟨w.heap.size, 0, none⟩ (.int .i64 0)).setCell ⟨w.heap.size, 1, none⟩ (.int .i64 0)).alloc o).cell? ⟨w.heap.size, 1, none⟩ = some (.int .i64 0) := fun o => by
          rw [cell_old _ _ _ hsz]
          simp [go_sem, s2]
        exact bodyPost_ret (v := .tuple #[.agg #[.int .i64 0, .int .i64 0], .int .i64 c]) (by simp [results, Tryd.results36, go_sem, a0, a1]) rfl ⟨end_span HE1.out, hfin0.alloc hfin0.size _⟩

set_option maxRecDepth 100000 in
set_option maxHeartbeats 1000000 in
theorem tParse_false (s : ByteArray) (w : World) (hst : St w) (h24 : (s.size : Int) ≤ 24) (hsome : (Tm.cut2 s.data.toList).2.isSome = false) :
    Calls Tryd.prog 36 #[.string s] w fun e w' => e = .returned (.tuple #[.agg #[.int .i64 (Tm.parV s.data.toList).1.1, .int .i64 (Tm.parV s.data.toList).1.2], .int .i64 (Tm.parV s.data.toList).2]) ∧ Below w.heap.size w w' := by
  have hB0 : Below w.heap.size w (w.alloc (.cells #[.int .i64 0, .int .i64 0] 23)) := (Below.refl _ _).alloc (Nat.le_refl _) _
  have hs := hB0.size
  have HF := Lib.hid (pairI_new w 0 0 23)
  have CC := fun W (hW : Below w.heap.size w W) => Lib.hid (cut_any s W (hst.next hW) (by omega))
  rw [hsome] at CC
  have hlen := cut2_len s.data.toList
  have hl : s.data.toList.length = s.size := rfl
  have N1 := fun W => Lib.hid (tIsNumber_any (fstB s) W (by show (Tm.cut2 s.data.toList).1.length ≤ 1000000; omega))
  have N2 := fun W => Lib.hid (tIsNumber_any (fstB s) W (by show ((Tm.cut2 s.data.toList).1).length ≤ 1000000; omega))
  have V1 := fun W h => Lib.hid (tValue_any (fstB s) W h)
  have V2 := fun W h => Lib.hid (tValue_any (fstB s) W h)
  have e2 : (fstB s).data.toList = Tm.sndT s.data.toList := by
    unfold Tm.sndT
    cases hc : (Tm.cut2 s.data.toList).2 with
    | none => rfl
    | some m => rw [hc] at hsome; cases hsome
  have e1 : (fstB s).data.toList = (Tm.cut2 s.data.toList).1 := rfl
  rw [e1] at N1 V1
  rw [e2] at N2 V2
  have hl24 : s.data.toList.length ≤ 24 := by omega
  cases n1 : Tm.numOk (Tm.cut2 s.data.toList).1 with
  | false =>
    have HE := Lib.hid (Tm.par_one n1)
    rw [n1] at N1
    generalize Tm.parV s.data.toList = r at *
    generalize fstB s = a at *
    generalize restB s = b at *
    clear V1 V2 N2 n1 hsome e1 e2 hlen hst
    go_enter Tryd.func36, Tryd.ntmps36
    go_wp2_with fail
    refine ((CC _ hB0).out).mono ?_
    rintro e w1 ⟨rfl, hb1⟩
    obtain ⟨r0, r1, r2, r3, r4⟩ := HF.out.below (by simp) hb1
    have hB1 := hB0.trans (hb1.mono hs)
    clear hb1 CC HF hs
    go_wp2_with (go_at_call 57; refine ((N1 _).out).mono ?_; rintro e w2 ⟨rfl, rfl⟩)
    have hfin := (hB1.setCell (p := ⟨w.heap.size, 0, none⟩) (by simp) (.int .i64 0)).setCell (p := ⟨w.heap.size, 1, none⟩) (by simp) (.int .i64 0)
    exact bodyPost_ret (v := .tuple #[.agg #[.int .i64 0, .int .i64 0], .int .i64 4]) (by simp [results, Tryd.results36, go_sem, r1, r2]) rfl ⟨end_span HE.out, hfin⟩
  | true =>
    rw [n1] at N1
    cases n2 : Tm.numOk (Tm.sndT s.data.toList) with
    | false =>
      rw [← e2, e1, n1] at n2
      cases n2
    | true =>
      rw [n2] at N2
      have U1 := fun W => V1 W n1
      have U2 := fun W => V2 W n2
      have HR := Lib.hid (fun x y => Tm.par_rest (s := s.data.toList) hl24 n1 n2 (x := x) (y := y))
      obtain ⟨x, hx⟩ : ∃ x : Int, ((Fr.dv (Tm.cut2 s.data.toList).1 : Nat) : Int) = x := ⟨_, rfl⟩
      obtain ⟨y, hy⟩ : ∃ y : Int, ((Fr.dv (Tm.sndT s.data.toList) : Nat) : Int) = y := ⟨_, rfl⟩
      have HE := Lib.hid (HR.out x y hx hy)
      have hxy : x = y := by rw [← hx, ← hy, ← e2, e1]
      rw [hsome] at HE
      rw [hx] at U1
      rw [hy] at U2
      have CO := fun W => Lib.hid (tOf_any x y W)
      generalize Tm.parV s.data.toList = r at *
      generalize fstB s = a at *
      generalize restB s = b at *
      clear V1 V2 n1 n2 hsome e1 e2 hlen hst HR hx hy hl24
      subst hxy
      by_cases hc : Tm.chk x x = 0
      · rw [ofV_good hc] at CO
        by_cases he : x = x
        · have HE1 := Lib.hid (HE.out.trans ((if_neg (by simpa using hc)).trans (if_neg (fun g => by simp at g))))
          clear he
          clear hc HE
          go_enter Tryd.func36, Tryd.ntmps36
          go_wp2_with fail
          refine ((CC _ hB0).out).mono ?_
          rintro e w1 ⟨rfl, hb1⟩
          obtain ⟨r0, r1, r2, r3, r4⟩ := HF.out.below (by simp) hb1
          have hB1 := hB0.trans (hb1.mono hs)
          clear hb1 CC HF hs
          go_wp2_with (first
            | (go_at_call 57; (first | (with_reducible refine ((N1 _).out).mono ?_) | (with_reducible refine ((N2 _).out).mono ?_)); rintro e w2 ⟨rfl, rfl⟩)
            | (go_at_call 58; (first | (with_reducible refine ((U1 _).out).mono ?_) | (with_reducible refine ((U2 _).out).mono ?_)); rintro e w2 ⟨rfl, rfl⟩)
            | fail)
          refine ((CO _).out).mono ?_
          rintro e w2 ⟨rfl, hb2⟩
          have HP : PairI w1 w.heap.size 0 0 := ⟨r0, r1, r2, r3, r4⟩
          obtain ⟨s0, s1, s2, s3, s4⟩ := HP.below r0 hb2
          have hB2 := hB1.trans (hb2.mono hB1.size)
          clear hb2 hB1 HP r0 r1 r2 r3 r4
          go_wp2
          have hfin0 := (hB2.setCell (p := ⟨w.heap.size, 0, none⟩) (by simp) (.int .i64 x)).setCell (p := ⟨w.heap.size, 1, none⟩) (by simp) (.int .i64 x)
          have hsz : w.heap.size < ((w2.setCell ⟨w.heap.size, 0, none⟩ (.int .i64 x)).setCell ⟨w.heap.size, 1, none⟩ (.int .i64 x)).heap.size := by simp <;> omega
          have a0 : ∀ o, (((w2.setCell ⟨w.heap.size, 0, none⟩ (.int .i64 x)).setCell ⟨w.heap.size, 1, none⟩ (.int .i64 x)).alloc o).cell? ⟨w.heap.size, 0, none⟩ = some (.int .i64 x) := fun o => by
            rw [cell_old _ _ _ hsz]
            simp [go_sem, s1]
          have a1 : ∀ o, (((w2.setCell ⟨w.heap.size, 0, none⟩ (.int .i64 x)).setCell ⟨w.heap.size, 1, none⟩ (.int .i64 x)).alloc o).cell? ⟨w.heap.size, 1, none⟩ = some (.int .i64 x) := fun o => by
            rw [cell_old _ _ _ hsz]
            simp [go_sem, s2]
          exact bodyPost_ret (v := .tuple #[.agg #[.int .i64 x, .int .i64 x], .int .i64 0]) (by simp [results, Tryd.results36, go_sem, a0, a1]) rfl ⟨end_span HE1.out, hfin0.alloc hfin0.size _⟩
        · exact absurd rfl he
      · rw [ofV_bad hc] at CO
        have HE1 := Lib.hid (HE.out.trans (if_pos hc))
        have hne : (Tm.chk x x != 0) = true := by simpa using hc
        generalize Tm.chk x x = c at *
        clear hc HE
        go_enter Tryd.func36, Tryd.ntmps36
        go_wp2_with fail
        refine ((CC _ hB0).out).mono ?_
        rintro e w1 ⟨rfl, hb1⟩
        obtain ⟨r0, r1, r2, r3, r4⟩ := HF.out.below (by simp) hb1
        have hB1 := hB0.trans (hb1.mono hs)
        clear hb1 CC HF hs
        go_wp2_with (first
          | (go_at_call 57; (first | (with_reducible refine ((N1 _).out).mono ?_) | (with_reducible refine ((N2 _).out).mono ?_)); rintro e w2 ⟨rfl, rfl⟩)
          | (go_at_call 58; (first | (with_reducible refine ((U1 _).out).mono ?_) | (with_reducible refine ((U2 _).out).mono ?_)); rintro e w2 ⟨rfl, rfl⟩)
          | fail)
        refine ((CO _).out).mono ?_
        rintro e w2 ⟨rfl, hb2⟩
        have HP : PairI w1 w.heap.size 0 0 := ⟨r0, r1, r2, r3, r4⟩
        obtain ⟨s0, s1, s2, s3, s4⟩ := HP.below r0 hb2
        have hB2 := hB1.trans (hb2.mono hB1.size)
        clear hb2 hB1 HP r0 r1 r2 r3 r4
        go_wp2
        have hfin0 := (hB2.setCell (p := ⟨w.heap.size, 0, none⟩) (by simp) (.int .i64 0)).setCell (p := ⟨w.heap.size, 1, none⟩) (by simp) (.int .i64 0)
        have hsz : w.heap.size < ((w2.setCell ⟨w.heap.size, 0, none⟩ (.int .i64 0)).setCell ⟨w.heap.size, 1, none⟩ (.int .i64 0)).heap.size := by simp <;> omega
        have a0 : ∀ o, (((w2.setCell ⟨w.heap.size, 0, none⟩ (.int .i64 0)).setCell ⟨w.heap.size, 1, none⟩ (.int .i64 0)).alloc o).cell? ⟨w.heap.size, 0, none⟩ = some (.int .i64 0) := fun o => by
          rw [cell_old _ _ _ hsz]
          simp [go_sem, s1]
        have a1 : ∀ o, (((w2.setCell ⟨w.heap.size, 0, none⟩ (.int .i64 0)).setCell ⟨w.heap.size, 1, none⟩ (.int .i64 0)).alloc o).cell? ⟨w.heap.size, 1, none⟩ = some (.int .i64 0) := fun o => by
          rw [cell_old _ _ _ hsz]
          simp [go_sem, s2]
        exact bodyPost_ret (v := .tuple #[.agg #[.int .i64 0, .int .i64 0], .int .i64 c]) (by simp [results, Tryd.results36, go_sem, a0, a1]) rfl ⟨end_span HE1.out, hfin0.alloc hfin0.size _⟩

theorem tParse_any (s : ByteArray) (w : World) (hst : St w) (hs : s.size ≤ 9223372036854775807) :
    Calls Tryd.prog 36 #[.string s] w fun e w' => e = .returned (.tuple #[.agg #[.int .i64 (Tm.parV s.data.toList).1.1, .int .i64 (Tm.parV s.data.toList).1.2], .int .i64 (Tm.parV s.data.toList).2]) ∧ Below w.heap.size w w' := by
  by_cases h24 : (24 : Int) < (s.size : Int)
  · exact tParse_long s w h24
  · cases hsome : (Tm.cut2 s.data.toList).2.isSome with
    | true => exact tParse_true s w hst (by omega) hsome
    | false => exact tParse_false s w hst (by omega) hsome

end Go.Proofs.YtgblodnggeabjabDoor
