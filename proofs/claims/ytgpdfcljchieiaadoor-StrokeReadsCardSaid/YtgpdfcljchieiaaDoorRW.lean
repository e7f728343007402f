/- The call of the statement StrokeReads. -/
import Derived.Test.YtgpdfcljchieiaaDoorRQ
import Derived.Test.YtgpdfcljchieiaaDoorRS
import Derived.Test.YtgpdfcljchieiaaDoorRV
namespace Go.Proofs.YtgpdfcljchieiaaDoor
open Go.RowKit
theorem cls2_any (u : Value) (l : List Sk.Str) (n : Int) (w : World) (hu : SeeK w u l) : Calls Tryd.prog 37 #[.agg #[u, .int .i64 n]] w fun e w' => e = .returned (.bool !decide (l.length ≤ 40)) ∧ Below w.heap.size w w' := by
  have HU := Lib.hid hu
  obtain ⟨ao, cap, rfl, -⟩ := hu
  have F := fun W (h : SeeK W (.slice ao l.length cap) l) => Lib.hid (rFew_any (.slice ao l.length cap) (.slice none 0 0) l n [] W h (SeeB.nil W))
  rw [show (decide (([] : List Bool).length ≤ 40)) = true from rfl, Bool.and_true] at F
  obtain ⟨P0, L0, z0⟩ := boxP_new w (.slice ao l.length cap) (.int .i64 n) 39
  have HL := Lib.hid L0
  obtain ⟨p0, p1, p2⟩ := P0
  clear L0 z0
  generalize decide (l.length ≤ 40) = q at *
  go_enter Tryd.func37, Tryd.ntmps37
  go_wp2_with fail
  refine ((F _ (HU.out.step HL.out)).out).mono ?_
  rintro e w1 ⟨rfl, hb1⟩
  have HB1 := Lib.hid (below_nxt HL.out hb1)
  clear hb1
  go_wp2
  go_ret
  exact ⟨rfl, HB1.out⟩
set_option maxHeartbeats 4000000 in
set_option maxRecDepth 100000 in
theorem idx2_any (v : Value) (L : List Sk.Stp) (w : World) (hs : SeeT w v L) : Calls Tryd.prog 48 #[v, .func (.func 37) #[] #[]] w fun e w' => ∃ r : Int, e = .returned (.int .i64 r) ∧ decide (0 ≤ r) = Sk.many L ∧ Below w.heap.size w w' := by
  obtain ⟨ao, cap, rfl, hcap1, hcap2, hC⟩ := hs
  have HC := Lib.hid hC
  clear hC
  have HAt := Lib.hid (fun i (hi : i < L.length) h => Sk.many_at hi h)
  have HNo := Lib.hid (fun h => Sk.many_no (L := L) h)
  generalize Sk.many L = q at *
  go_enter Tryd.func48, Tryd.ntmps48
  go_wp2
  go_loopw [8] (fun s8 wr => ∃ i : Nat, i ≤ L.length ∧ s8 = .int .i64 (i : Int) ∧ Hid (∀ a, a < i → decide ((L.getD a Sk.t0).1.length ≤ 40) = true) ∧ Hid (Below w.heap.size w wr)) (fun s8 _ => L.length - (intOf s8).toNat)
  case atStart => exact ⟨0, Nat.zero_le _, rfl, Lib.hid (fun a h => by omega), Lib.hid (Below.refl _ _)⟩
  case round =>
    obtain ⟨i, hi, rfl, HJ, HBW⟩ := hrel
    by_cases hil : i < L.length
    · obtain ⟨g, off, ak, ck, rfl, hg, c1, c2, hk⟩ := (HC.out.step HBW.out).at (Below.refl _ _) hil
      have HAi := Lib.hid (HAt.out i hil)
      have HJ2 : Hid (decide ((L.getD i Sk.t0).1.length ≤ 40) = true → ∀ a, a < i + 1 → decide ((L.getD a Sk.t0).1.length ≤ 40) = true) := Lib.hid (fun h a ha => by
        by_cases e : a = i
        · rw [e]; exact h
        · exact HJ.out a (by omega))
      clear HAt HNo HJ
      generalize L.getD i Sk.t0 = y at *
      obtain ⟨l, n⟩ := y
      simp only at c1 c2 hk HAi HJ2
      have HK := Lib.hid hk
      have CF := fun W (h : SeeK W (.slice ak l.length ck) l) => Lib.hid (cls2_any (.slice ak l.length ck) l n W h)
      generalize decide (l.length ≤ 40) = f at *
      clear hk
      cases f
      · have hq := HAi.out rfl
        subst hq
        go_wp2_with fail
        refine ((CF _ HK.out).out).mono ?_
        rintro e w1 ⟨rfl, hb1⟩
        have HB1 := Lib.hid (below_nxt HBW.out hb1)
        clear hb1 CF c1 c2
        go_wp2
        go_ret
        exact ⟨_, rfl, decide_eq_true (by omega), HB1.out⟩
      · have HJ3 := Lib.hid (HJ2.out rfl)
        clear HAi HJ2
        go_wp2_with fail
        refine ((CF _ HK.out).out).mono ?_
        rintro e w1 ⟨rfl, hb1⟩
        have HB1 := Lib.hid (below_nxt HBW.out hb1)
        clear hb1 CF c1 c2
        go_wp2
        exact ⟨⟨i + 1, by omega, by first | rfl | go_num, HJ3, HB1⟩, by simp [intOf]; omega⟩
    · obtain rfl : i = L.length := by omega
      have hq := HNo.out HJ.out
      subst hq
      go_wp2
      go_ret
      exact ⟨-1, rfl, by decide, HBW.out⟩
theorem con2_any (v : Value) (L : List Sk.Stp) (w : World) (hs : SeeT w v L) : Calls Tryd.prog 25 #[v, .func (.func 37) #[] #[]] w fun e w' => e = .returned (.bool (Sk.many L)) ∧ Below w.heap.size w w' := by
  have C := fun W (h : SeeT W v L) => Lib.hid (idx2_any v L W h)
  have HS := Lib.hid hs
  obtain ⟨ao, cap, rfl, -⟩ := hs
  generalize Sk.many L = q at *
  go_enter Tryd.func25, Tryd.ntmps25
  go_wp2_with fail
  refine ((C _ HS.out).out).mono ?_
  rintro e w1 ⟨r, rfl, hr, hb1⟩
  have HB1 := Lib.hid hb1
  clear hb1
  subst hr
  go_wp2
  go_ret
  exact ⟨rfl, HB1.out⟩
set_option maxHeartbeats 16000000 in
set_option maxRecDepth 100000 in
theorem reads_any (v : Value) (L : List Sk.Stp) (t : ByteArray) (w : World) (hst : StQ w) (hs : SeeT w v L) : Calls Tryd.prog 8 #[v, .string t] w fun e w' => e = .returned (.bool true) ∧ Below w.heap.size w w' := by
  have HST := Lib.hid hst
  have HS := Lib.hid hs
  obtain ⟨ao, cap, rfl, -⟩ := hs
  have CC := fun W (h : SeeT W (.slice ao L.length cap) L) => Lib.hid (con2_any (.slice ao L.length cap) L W h)
  clear hst
  by_cases h128 : 128 < L.length
  · have h' : decide (128 < (L.length : Int)) = true := decide_eq_true (by omega)
    clear CC
    go_enter Tryd.func8, Tryd.ntmps8
    go_wp2_with fail
    refine (awake_any _ (HST.out)).mono ?_
    rintro e wz ⟨rfl, hbz⟩
    have HBz := Lib.hid (hbz)
    clear hbz
    go_wp2
    go_ret
    exact ⟨rfl, HBz.out⟩
  have h' : decide (128 < (L.length : Int)) = false := decide_eq_false (by omega)
  cases hm : Sk.many L <;> rw [hm] at CC <;> clear hm
  · by_cases h800 : 800 < t.size
    · have h8' : decide (800 < (t.size : Int)) = true := decide_eq_true (by omega)
      go_enter Tryd.func8, Tryd.ntmps8
      go_wp2_with fail
      refine ((CC _ HS.out).out).mono ?_
      rintro e w1 ⟨rfl, hb⟩
      have HB1 := Lib.hid (hb)
      clear hb
      go_wp2_with fail
      refine (awake_any _ (HST.out.step HB1.out)).mono ?_
      rintro e wz ⟨rfl, hbz⟩
      have HBz := Lib.hid (below_nxt HB1.out hbz)
      clear hbz
      go_wp2
      go_ret
      exact ⟨rfl, HBz.out⟩
    have h8' : decide (800 < (t.size : Int)) = false := decide_eq_false (by omega)
    obtain ⟨M, mk, me, hpv⟩ : ∃ M mk me, Sk.parV t.data.toList = (M, mk, me) := ⟨_, _, _, rfl⟩
    by_cases hq : (Sk.fmtV L).2 = 0
    · have hfl : Sk.chkF L = 0 ∧ L.length ≤ 64 := by
        unfold Sk.fmtV at hq
        by_cases h1 : 64 < L.length
        · rw [if_pos h1] at hq; simp at hq
        rw [if_neg h1] at hq
        by_cases h2 : Sk.chkF L = 0
        · exact ⟨h2, by omega⟩
        · rw [if_neg h2] at hq; exact absurd hq h2
      have hfv : Sk.fmtV L = (Sk.fmtT L, 0) := by unfold Sk.fmtV; rw [if_neg (by omega), if_pos hfl.1]
      have C1 : ∀ W, StQ W → SeeT W (.slice ao L.length cap) L → Hid (Calls Tryd.prog 27 #[.slice ao L.length cap] W fun e w' => e = .returned (.tuple #[.string ⟨(Sk.fmtT L).toArray⟩, .int .i64 0]) ∧ Below W.heap.size W w') := fun W h g => Lib.hid (by have q := sFmt_any _ L W h.st g; rw [hfv] at q; exact q)
      have C2 : ∀ W, StQ W → Hid (Calls Tryd.prog 29 #[.string ⟨(Sk.fmtT L).toArray⟩] W fun e w' => ∃ ao cap, e = .returned (.tuple #[.slice ao L.length cap, .int .i64 0, .int .i64 0]) ∧ SeeT w' (.slice ao L.length cap) L ∧ Below W.heap.size W w') := fun W h => Lib.hid (by
        have g := sPar_any ⟨(Sk.fmtT L).toArray⟩ W h
        rw [show (⟨(Sk.fmtT L).toArray⟩ : ByteArray).data.toList = Sk.fmtT L by simp, Sk.par_fmt hfl.1 hfl.2] at g
        exact g)
      have C3 : ∀ W v2, SeeT W (.slice ao L.length cap) L → SeeT W v2 L → Hid (Calls Tryd.prog 31 #[.slice ao L.length cap, v2] W fun e w' => e = .returned (.bool true) ∧ Below W.heap.size W w') := fun W v2 h g => Lib.hid (by have q := rSmT_any _ v2 L L W h g; rw [decide_eq_true rfl] at q; exact q)
      clear hfl hfv hq
      generalize (⟨(Sk.fmtT L).toArray⟩ : ByteArray) = F at *
      by_cases he : me = 0
      · subst he
        have he : (M, mk, (0 : Int)) = (M, mk, 0) := rfl
        have D1 : ∀ W, StQ W → Hid (Calls Tryd.prog 29 #[.string t] W fun e w' => ∃ ao cap, e = .returned (.tuple #[.slice ao M.length cap, .int .i64 mk, .int .i64 0]) ∧ SeeT w' (.slice ao M.length cap) M ∧ Below W.heap.size W w') := fun W h => Lib.hid (by have g := sPar_any t W h; rw [hpv, he] at g; exact g)
        have hfm : Sk.fmtV M = (t.data.toList, 0) := Sk.fmt_par (k := mk) (by rw [hpv, he])
        have D2 : ∀ W v, SeeT W v M → StQ W → Hid (Calls Tryd.prog 27 #[v] W fun e w' => e = .returned (.tuple #[.string t, .int .i64 0]) ∧ Below W.heap.size W w') := fun W v g h => Lib.hid (by have q := sFmt_any v M W h.st g; rw [hfm] at q; exact q)
        clear hfm hpv he
        go_enter Tryd.func8, Tryd.ntmps8
        go_wp2_with fail
        refine ((CC _ HS.out).out).mono ?_
        rintro e w1 ⟨rfl, hb⟩
        have HB1 := Lib.hid (hb)
        clear hb
        go_wp2_with fail
        refine ((C1 _ (HST.out.step HB1.out) (HS.out.step HB1.out)).out).mono ?_
        rintro e w2 ⟨rfl, hb⟩
        have HB2 := Lib.hid (below_nxt HB1.out hb)
        clear hb
        go_wp2_with fail
        refine ((C2 _ (HST.out.step HB2.out)).out).mono ?_
        rintro e w3 ⟨lo, lcap, rfl, hl, hb⟩
        have HB3 := Lib.hid (below_nxt HB2.out hb)
        have HL := Lib.hid hl
        clear hl
        clear hb
        go_wp2_with fail
        refine ((C3 _ _ (HS.out.step HB3.out) HL.out).out).mono ?_
        rintro e w4 ⟨rfl, hb⟩
        have HB4 := Lib.hid (below_nxt HB3.out hb)
        clear hb
        go_wp2_with fail
        refine ((D1 _ (HST.out.step HB4.out)).out).mono ?_
        rintro e w5 ⟨mo, mcap, rfl, hm, hb⟩
        have HB5 := Lib.hid (below_nxt HB4.out hb)
        have HM := Lib.hid hm
        clear hm
        clear hb
        go_wp2_with fail
        refine ((D2 _ _ HM.out (HST.out.step HB5.out)).out).mono ?_
        rintro e w6 ⟨rfl, hb⟩
        have HB6 := Lib.hid (below_nxt HB5.out hb)
        clear hb
        go_wp2_with fail
        refine (awake_any _ (HST.out.step HB6.out)).mono ?_
        rintro e wz ⟨rfl, hbz⟩
        have HBz := Lib.hid (below_nxt HB6.out hbz)
        clear hbz
        go_wp2
        go_ret
        exact ⟨rfl, HBz.out⟩
      · have D1 : ∀ W, StQ W → Hid (Calls Tryd.prog 29 #[.string t] W fun e w' => ∃ ao n cap, ∃ k : Int, e = .returned (.tuple #[.slice ao n cap, .int .i64 k, .int .i64 me]) ∧ Below W.heap.size W w') := fun W h => Lib.hid ((sPar_any t W h).mono (by rintro e w' ⟨ao, cap, rfl, -, hb⟩; rw [hpv]; exact ⟨ao, _, cap, _, rfl, hb⟩))
        have hme : (me == 0) = false := by rw [beq_eq_false_iff_ne]; exact he
        clear hpv he
        go_enter Tryd.func8, Tryd.ntmps8
        go_wp2_with fail
        refine ((CC _ HS.out).out).mono ?_
        rintro e w1 ⟨rfl, hb⟩
        have HB1 := Lib.hid (hb)
        clear hb
        go_wp2_with fail
        refine ((C1 _ (HST.out.step HB1.out) (HS.out.step HB1.out)).out).mono ?_
        rintro e w2 ⟨rfl, hb⟩
        have HB2 := Lib.hid (below_nxt HB1.out hb)
        clear hb
        go_wp2_with fail
        refine ((C2 _ (HST.out.step HB2.out)).out).mono ?_
        rintro e w3 ⟨lo, lcap, rfl, hl, hb⟩
        have HB3 := Lib.hid (below_nxt HB2.out hb)
        have HL := Lib.hid hl
        clear hl
        clear hb
        go_wp2_with fail
        refine ((C3 _ _ (HS.out.step HB3.out) HL.out).out).mono ?_
        rintro e w4 ⟨rfl, hb⟩
        have HB4 := Lib.hid (below_nxt HB3.out hb)
        clear hb
        go_wp2_with fail
        refine ((D1 _ (HST.out.step HB4.out)).out).mono ?_
        rintro e w5 ⟨mo, mlen, mcap, mk, rfl, hb⟩
        have HB5 := Lib.hid (below_nxt HB4.out hb)
        clear hb
        go_wp2_with fail
        refine (awake_any _ (HST.out.step HB5.out)).mono ?_
        rintro e wz ⟨rfl, hbz⟩
        have HBz := Lib.hid (below_nxt HB5.out hbz)
        clear hbz
        go_wp2
        go_ret
        exact ⟨rfl, HBz.out⟩
    · have C1 : ∀ W, StQ W → SeeT W (.slice ao L.length cap) L → Hid (Calls Tryd.prog 27 #[.slice ao L.length cap] W fun e w' => e = .returned (.tuple #[.string ⟨(Sk.fmtV L).1.toArray⟩, .int .i64 (Sk.fmtV L).2]) ∧ Below W.heap.size W w') := fun W h g => Lib.hid (sFmt_any _ L W h.st g)
      generalize (Sk.fmtV L).2 = fq at *
      generalize (⟨(Sk.fmtV L).1.toArray⟩ : ByteArray) = F at *
      have hfq : (fq == 0) = false := by rw [beq_eq_false_iff_ne]; exact hq
      clear hq
      by_cases he : me = 0
      · subst he
        have he : (M, mk, (0 : Int)) = (M, mk, 0) := rfl
        have D1 : ∀ W, StQ W → Hid (Calls Tryd.prog 29 #[.string t] W fun e w' => ∃ ao cap, e = .returned (.tuple #[.slice ao M.length cap, .int .i64 mk, .int .i64 0]) ∧ SeeT w' (.slice ao M.length cap) M ∧ Below W.heap.size W w') := fun W h => Lib.hid (by have g := sPar_any t W h; rw [hpv, he] at g; exact g)
        have hfm : Sk.fmtV M = (t.data.toList, 0) := Sk.fmt_par (k := mk) (by rw [hpv, he])
        have D2 : ∀ W v, SeeT W v M → StQ W → Hid (Calls Tryd.prog 27 #[v] W fun e w' => e = .returned (.tuple #[.string t, .int .i64 0]) ∧ Below W.heap.size W w') := fun W v g h => Lib.hid (by have q := sFmt_any v M W h.st g; rw [hfm] at q; exact q)
        clear hfm hpv he
        go_enter Tryd.func8, Tryd.ntmps8
        go_wp2_with fail
        refine ((CC _ HS.out).out).mono ?_
        rintro e w1 ⟨rfl, hb⟩
        have HB1 := Lib.hid (hb)
        clear hb
        go_wp2_with fail
        refine ((C1 _ (HST.out.step HB1.out) (HS.out.step HB1.out)).out).mono ?_
        rintro e w2 ⟨rfl, hb⟩
        have HB2 := Lib.hid (below_nxt HB1.out hb)
        clear hb
        go_wp2_with fail
        refine ((D1 _ (HST.out.step HB2.out)).out).mono ?_
        rintro e w5 ⟨mo, mcap, rfl, hm, hb⟩
        have HB5 := Lib.hid (below_nxt HB2.out hb)
        have HM := Lib.hid hm
        clear hm
        clear hb
        go_wp2_with fail
        refine ((D2 _ _ HM.out (HST.out.step HB5.out)).out).mono ?_
        rintro e w6 ⟨rfl, hb⟩
        have HB6 := Lib.hid (below_nxt HB5.out hb)
        clear hb
        go_wp2_with fail
        refine (awake_any _ (HST.out.step HB6.out)).mono ?_
        rintro e wz ⟨rfl, hbz⟩
        have HBz := Lib.hid (below_nxt HB6.out hbz)
        clear hbz
        go_wp2
        go_ret
        exact ⟨rfl, HBz.out⟩
      · have D1 : ∀ W, StQ W → Hid (Calls Tryd.prog 29 #[.string t] W fun e w' => ∃ ao n cap, ∃ k : Int, e = .returned (.tuple #[.slice ao n cap, .int .i64 k, .int .i64 me]) ∧ Below W.heap.size W w') := fun W h => Lib.hid ((sPar_any t W h).mono (by rintro e w' ⟨ao, cap, rfl, -, hb⟩; rw [hpv]; exact ⟨ao, _, cap, _, rfl, hb⟩))
        have hme : (me == 0) = false := by rw [beq_eq_false_iff_ne]; exact he
        clear hpv he
        go_enter Tryd.func8, Tryd.ntmps8
        go_wp2_with fail
        refine ((CC _ HS.out).out).mono ?_
        rintro e w1 ⟨rfl, hb⟩
        have HB1 := Lib.hid (hb)
        clear hb
        go_wp2_with fail
        refine ((C1 _ (HST.out.step HB1.out) (HS.out.step HB1.out)).out).mono ?_
        rintro e w2 ⟨rfl, hb⟩
        have HB2 := Lib.hid (below_nxt HB1.out hb)
        clear hb
        go_wp2_with fail
        refine ((D1 _ (HST.out.step HB2.out)).out).mono ?_
        rintro e w5 ⟨mo, mlen, mcap, mk, rfl, hb⟩
        have HB5 := Lib.hid (below_nxt HB2.out hb)
        clear hb
        go_wp2_with fail
        refine (awake_any _ (HST.out.step HB5.out)).mono ?_
        rintro e wz ⟨rfl, hbz⟩
        have HBz := Lib.hid (below_nxt HB5.out hbz)
        clear hbz
        go_wp2
        go_ret
        exact ⟨rfl, HBz.out⟩
  · clear h'
    have h' : decide (128 < (L.length : Int)) = false := decide_eq_false (by omega)
    go_enter Tryd.func8, Tryd.ntmps8
    go_wp2_with fail
    refine ((CC _ HS.out).out).mono ?_
    rintro e w1 ⟨rfl, hb⟩
    have HB1 := Lib.hid (hb)
    clear hb
    go_wp2_with fail
    refine (awake_any _ (HST.out.step HB1.out)).mono ?_
    rintro e wz ⟨rfl, hbz⟩
    have HBz := Lib.hid (below_nxt HB1.out hbz)
    clear hbz
    go_wp2
    go_ret
    exact ⟨rfl, HBz.out⟩
theorem readsC (v : Value) (L : List Sk.Stp) (t : ByteArray) (w : World) (hst : StQ w) (hs : SeeT w v L) (_ : t.size ≤ 9223372036854775807) : Calls Tryd.prog 8 #[v, .string t] w fun e w' => e = .returned (.bool true) ∧ Below w.heap.size w w' := reads_any v L t w hst hs
end Go.Proofs.YtgpdfcljchieiaaDoor
