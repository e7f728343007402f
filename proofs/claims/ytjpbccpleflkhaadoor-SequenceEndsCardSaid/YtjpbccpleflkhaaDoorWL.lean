/- The call of the statement SequenceEnds. -/
import Derived.Test.YtjpbccpleflkhaaDoorG17
import Derived.Test.YtjpbccpleflkhaaDoorG14
namespace Go.Proofs.YtjpbccpleflkhaaDoor
open Go.RowKit Go.Shelf
set_option maxHeartbeats 16000000 in
set_option maxRecDepth 100000 in
theorem ends14_any (n : Int) (v : Value) (L : List Sk.Stp) (k : Int) (w : World) (hst : StQ w) (hs : SeeT w v L) : Calls Tryd.prog 5 #[.agg #[.int .i64 n, v], .int .i64 k] w fun e w' => e = .returned (.bool true) ∧ Below w.heap.size w w' := by
  have HST := Lib.hid hst
  have HS := Lib.hid hs
  obtain ⟨ao, cap, rfl, -⟩ := hs
  have CF := fun V (h : SeeT V (.slice ao L.length cap) L) => Lib.hid (rFew14_any n (.slice ao L.length cap) L V h)
  obtain ⟨P0, L0, z0⟩ := boxP_new w (.int .i64 n) (.slice ao L.length cap) 32
  have HL0 := Lib.hid L0
  have HP0 := Lib.hid P0
  obtain ⟨p0, p1, p2⟩ := P0
  clear L0 z0 hst
  cases hf : Sq.fewV L
  · rw [hf] at CF
    clear hf
    go_enter Tryd.func5, Tryd.ntmps5
    go_wp2_with fail
    refine ((CF _ (HS.out.step HL0.out)).out).mono ?_
    rintro e w1 ⟨rfl, hb1⟩
    have HB1 := Lib.hid (below_nxt HL0.out hb1)
    clear hb1 p0 p1 p2
    go_wp2_with fail
    refine (awake14_any _ (HST.out.step HB1.out)).mono ?_
    rintro e wz ⟨rfl, hbz⟩
    have HBz := Lib.hid (below_nxt HB1.out hbz)
    clear hbz
    go_wp2
    go_ret
    exact ⟨rfl, HBz.out⟩
  · rw [hf] at CF
    obtain ⟨E, e1, hE⟩ : ∃ E e1, Sq.endV n L k = (E, e1) := ⟨_, _, rfl⟩
    obtain ⟨M, e2, hM⟩ : ∃ M e2, Sq.movV n L k = (M, e2) := ⟨_, _, rfl⟩
    obtain ⟨R, e3, hR⟩ : ∃ R e3, Sq.repV n L = (R, e3) := ⟨_, _, rfl⟩
    have C1 : ∀ V, SeeT V (.slice ao L.length cap) L → Hid (Calls Tryd.prog 26 #[.agg #[.int .i64 n, .slice ao L.length cap], .int .i64 k] V fun e w' => ∃ ao cap, e = .returned (.tuple #[.slice ao E.length cap, .int .i64 e1]) ∧ SeeB w' (.slice ao E.length cap) E ∧ Below V.heap.size V w') := fun V h => Lib.hid (by have g := qEnd_any n (.slice ao L.length cap) L k V h; rw [hE] at g; exact g)
    have C2 : ∀ V, SeeT V (.slice ao L.length cap) L → Hid (Calls Tryd.prog 27 #[.agg #[.int .i64 n, .slice ao L.length cap], .int .i64 k] V fun e w' => ∃ ao cap, e = .returned (.tuple #[.slice ao E.length cap, .int .i64 e1]) ∧ SeeB w' (.slice ao E.length cap) E ∧ Below V.heap.size V w') := fun V h => Lib.hid (by have g := rEnd_any n (.slice ao L.length cap) L k V h; rw [hE] at g; exact g)
    have C3 : ∀ V, SeeT V (.slice ao L.length cap) L → Hid (Calls Tryd.prog 28 #[.agg #[.int .i64 n, .slice ao L.length cap], .int .i64 k] V fun e w' => ∃ ao cap, e = .returned (.tuple #[.slice ao M.length cap, .int .i64 e2]) ∧ SeeI w' (.slice ao M.length cap) M ∧ Below V.heap.size V w') := fun V h => Lib.hid (by have g := qMov_any n (.slice ao L.length cap) L k V h; rw [hM] at g; exact g)
    have C4 : ∀ V, SeeT V (.slice ao L.length cap) L → Hid (Calls Tryd.prog 29 #[.agg #[.int .i64 n, .slice ao L.length cap], .int .i64 k] V fun e w' => ∃ ao cap, e = .returned (.tuple #[.slice ao M.length cap, .int .i64 e2]) ∧ SeeI w' (.slice ao M.length cap) M ∧ Below V.heap.size V w') := fun V h => Lib.hid (by have g := rMov_any n (.slice ao L.length cap) L k V h; rw [hM] at g; exact g)
    have C5 : ∀ V, SeeT V (.slice ao L.length cap) L → Hid (Calls Tryd.prog 32 #[.agg #[.int .i64 n, .slice ao L.length cap]] V fun e w' => ∃ ao cap, e = .returned (.tuple #[.slice ao R.length cap, .int .i64 e3]) ∧ SeeI w' (.slice ao R.length cap) R ∧ Below V.heap.size V w') := fun V h => Lib.hid (by have g := qRep_any n (.slice ao L.length cap) L V h; rw [hR] at g; exact g)
    have C6 : ∀ V, SeeT V (.slice ao L.length cap) L → Hid (Calls Tryd.prog 33 #[.agg #[.int .i64 n, .slice ao L.length cap]] V fun e w' => ∃ ao cap, e = .returned (.tuple #[.slice ao R.length cap, .int .i64 e3]) ∧ SeeI w' (.slice ao R.length cap) R ∧ Below V.heap.size V w') := fun V h => Lib.hid (by have g := rRep_any n (.slice ao L.length cap) L V h; rw [hR] at g; exact g)
    have CB : ∀ u u2 V, SeeB V u E → SeeB V u2 E → Hid (Calls Tryd.prog 30 #[u, u2] V fun e w' => e = .returned (.bool true) ∧ Below V.heap.size V w') := fun u u2 V h1 h2 => Lib.hid (by have g := eqB_any u u2 E E V h1 h2; rw [decide_eq_true rfl] at g; exact g)
    have CI : ∀ (l : List Int) u u2 V, SeeI V u l → SeeI V u2 l → Hid (Calls Tryd.prog 31 #[u, u2] V fun e w' => e = .returned (.bool true) ∧ Below V.heap.size V w') := fun l u u2 V h1 h2 => Lib.hid (by have g := eqI_any u u2 l l V h1 h2; rw [decide_eq_true rfl] at g; exact g)
    have h11 : (e1 == e1) = true := by simp
    have h22 : (e2 == e2) = true := by simp
    have h33 : (e3 == e3) = true := by simp
    clear hf hE hM hR
    go_enter Tryd.func5, Tryd.ntmps5
    go_wp2_with fail
    refine ((CF _ (HS.out.step HL0.out)).out).mono ?_
    rintro e w1 ⟨rfl, hb1⟩
    have HB1 := Lib.hid (below_nxt HL0.out hb1)
    have HP1 := Lib.hid (HP0.out.step hb1)
    clear hb1 p0 p1 p2
    obtain ⟨p0, p1, p2⟩ := HP1.out
    go_wp2_with fail
    refine ((C1 _ (HS.out.step HB1.out)).out).mono ?_
    rintro e w2 ⟨aEA, cEA, rfl, hse, hb⟩
    have HB2 := Lib.hid (below_nxt HB1.out hb)
    have HP2 := Lib.hid (HP1.out.step hb)
    have EA2 := Lib.hid hse
    clear hse hb p0 p1 p2
    obtain ⟨p0, p1, p2⟩ := HP2.out
    go_wp2_with fail
    refine ((C2 _ (HS.out.step HB2.out)).out).mono ?_
    rintro e w3 ⟨aEB, cEB, rfl, hse, hb⟩
    have HB3 := Lib.hid (below_nxt HB2.out hb)
    have HP3 := Lib.hid (HP2.out.step hb)
    have EB3 := Lib.hid hse
    have EA3 := Lib.hid (EA2.out.step hb)
    clear hse hb p0 p1 p2
    obtain ⟨p0, p1, p2⟩ := HP3.out
    go_wp2_with fail
    refine ((C3 _ (HS.out.step HB3.out)).out).mono ?_
    rintro e w4 ⟨aMA, cMA, rfl, hse, hb⟩
    have HB4 := Lib.hid (below_nxt HB3.out hb)
    have HP4 := Lib.hid (HP3.out.step hb)
    have MA4 := Lib.hid hse
    have EA4 := Lib.hid (EA3.out.step hb)
    have EB4 := Lib.hid (EB3.out.step hb)
    clear hse hb p0 p1 p2
    obtain ⟨p0, p1, p2⟩ := HP4.out
    go_wp2_with fail
    refine ((C4 _ (HS.out.step HB4.out)).out).mono ?_
    rintro e w5 ⟨aMB, cMB, rfl, hse, hb⟩
    have HB5 := Lib.hid (below_nxt HB4.out hb)
    have HP5 := Lib.hid (HP4.out.step hb)
    have MB5 := Lib.hid hse
    have EA5 := Lib.hid (EA4.out.step hb)
    have EB5 := Lib.hid (EB4.out.step hb)
    have MA5 := Lib.hid (MA4.out.step hb)
    clear hse hb p0 p1 p2
    obtain ⟨p0, p1, p2⟩ := HP5.out
    go_wp2_with fail
    refine ((CB _ _ _ EA5.out EB5.out).out).mono ?_
    rintro e w6 ⟨rfl, hb⟩
    have HB6 := Lib.hid (below_nxt HB5.out hb)
    have HP6 := Lib.hid (HP5.out.step hb)
    have EA6 := Lib.hid (EA5.out.step hb)
    have EB6 := Lib.hid (EB5.out.step hb)
    have MA6 := Lib.hid (MA5.out.step hb)
    have MB6 := Lib.hid (MB5.out.step hb)
    clear hb p0 p1 p2
    obtain ⟨p0, p1, p2⟩ := HP6.out
    go_wp2_with fail
    refine ((CI M _ _ _ MA6.out MB6.out).out).mono ?_
    rintro e w7 ⟨rfl, hb⟩
    have HB7 := Lib.hid (below_nxt HB6.out hb)
    have HP7 := Lib.hid (HP6.out.step hb)
    have EA7 := Lib.hid (EA6.out.step hb)
    have EB7 := Lib.hid (EB6.out.step hb)
    have MA7 := Lib.hid (MA6.out.step hb)
    have MB7 := Lib.hid (MB6.out.step hb)
    clear hb p0 p1 p2
    obtain ⟨p0, p1, p2⟩ := HP7.out
    go_wp2_with fail
    refine ((C5 _ (HS.out.step HB7.out)).out).mono ?_
    rintro e w8 ⟨aRA, cRA, rfl, hse, hb⟩
    have HB8 := Lib.hid (below_nxt HB7.out hb)
    have HP8 := Lib.hid (HP7.out.step hb)
    have RA8 := Lib.hid hse
    clear hse hb p0 p1 p2
    obtain ⟨p0, p1, p2⟩ := HP8.out
    go_wp2_with fail
    refine ((C6 _ (HS.out.step HB8.out)).out).mono ?_
    rintro e w9 ⟨aRB, cRB, rfl, hse, hb⟩
    have HB9 := Lib.hid (below_nxt HB8.out hb)
    have HP9 := Lib.hid (HP8.out.step hb)
    have RB9 := Lib.hid hse
    have RA9 := Lib.hid (RA8.out.step hb)
    clear hse hb p0 p1 p2
    obtain ⟨p0, p1, p2⟩ := HP9.out
    go_wp2_with fail
    refine ((CI R _ _ _ RA9.out RB9.out).out).mono ?_
    rintro e w10 ⟨rfl, hb⟩
    have HB10 := Lib.hid (below_nxt HB9.out hb)
    have HP10 := Lib.hid (HP9.out.step hb)
    have RA10 := Lib.hid (RA9.out.step hb)
    have RB10 := Lib.hid (RB9.out.step hb)
    clear hb p0 p1 p2
    obtain ⟨p0, p1, p2⟩ := HP10.out
    go_wp2_with fail
    refine (awake14_any _ (HST.out.step HB10.out)).mono ?_
    rintro e wz ⟨rfl, hbz⟩
    have HBz := Lib.hid (below_nxt HB10.out hbz)
    clear hbz
    go_wp2
    go_ret
    exact ⟨rfl, HBz.out⟩
end Go.Proofs.YtjpbccpleflkhaaDoor
