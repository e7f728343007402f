/- The statement EnclosureMeets. -/
import Derived.Test.YtldclpdmcopgnaaGreatDoorEM
namespace Go.Proofs.YtldclpdmcopgnaaGreatDoor
open Go.RowKit
theorem qmin {a b : Rat} (L : Rat) (h : L = if b < a then b else a) : ¬ a < L ∧ ¬ b < L ∧ (L = a ∨ L = b) := by
  subst h; split <;> grind
theorem qmax {a b : Rat} (L : Rat) (h : L = if a < b then b else a) : ¬ L < a ∧ ¬ L < b ∧ (L = a ∨ L = b) := by
  subst h; split <;> grind
theorem chkE_mk {l h : List UInt8} (a : Fr.chk l = 0) (b : Fr.chk h = 0) (c : ¬ Fr.rat h < Fr.rat l) : Fr.chkE l h = 0 := by
  unfold Fr.chkE
  rw [if_neg (by simpa using a), if_neg (by simpa using b), if_neg c]
theorem chk2_mk {l h m k : ByteArray} (a : Fr.chkE l.data.toList h.data.toList = 0) (b : Fr.chkE m.data.toList k.data.toList = 0) : chk2 l h m k = 0 := by
  unfold chk2
  rw [if_pos a, b]
theorem witV_mk {l h m k : ByteArray} (a : chk2 l h m k = 0) (c : ¬ Fr.rat l.data.toList < Fr.rat m.data.toList ∧ ¬ Fr.rat k.data.toList < Fr.rat h.data.toList) : witV l h m k = (true, 0) := by
  unfold witV
  rw [if_neg (by simpa using a), decide_eq_true c]
theorem meets_math {l h m k : ByteArray} (z1 : Fr.chkE l.data.toList h.data.toList = 0) (z2 : Fr.chkE m.data.toList k.data.toList = 0) :
    (∃ n : Int, cmpV l h m k = (n, 0) ∧ cmpV m k l h = (-n, 0) ∧ decide (¬ Fr.rat (leastB h k).data.toList < Fr.rat (greatB l m).data.toList) = (n == 0) ∧ -1 ≤ n ∧ n ≤ 1) ∧
    witV l h (leastB l m) (greatB h k) = (true, 0) ∧ witV m k (leastB l m) (greatB h k) = (true, 0) ∧
    (¬ Fr.rat (leastB h k).data.toList < Fr.rat (greatB l m).data.toList → witV (greatB l m) (leastB h k) l h = (true, 0) ∧ witV (greatB l m) (leastB h k) m k = (true, 0)) := by
  obtain ⟨kl, kh, o1⟩ := chkE_zero z1
  obtain ⟨km, kk, o2⟩ := chkE_zero z2
  have a1 : Fr.rat (leastB h k).data.toList = if Fr.rat k.data.toList < Fr.rat h.data.toList then Fr.rat k.data.toList else Fr.rat h.data.toList := by
    unfold leastB
    by_cases e : Fr.rat k.data.toList < Fr.rat h.data.toList
    · rw [if_pos e, if_pos e]
    · rw [if_neg e, if_neg e]
  have a2 : Fr.rat (leastB l m).data.toList = if Fr.rat m.data.toList < Fr.rat l.data.toList then Fr.rat m.data.toList else Fr.rat l.data.toList := by
    unfold leastB
    by_cases e : Fr.rat m.data.toList < Fr.rat l.data.toList
    · rw [if_pos e, if_pos e]
    · rw [if_neg e, if_neg e]
  have a3 : Fr.rat (greatB h k).data.toList = if Fr.rat h.data.toList < Fr.rat k.data.toList then Fr.rat k.data.toList else Fr.rat h.data.toList := by
    unfold greatB
    by_cases e : Fr.rat h.data.toList < Fr.rat k.data.toList
    · rw [if_pos e, if_pos e]
    · rw [if_neg e, if_neg e]
  have a4 : Fr.rat (greatB l m).data.toList = if Fr.rat l.data.toList < Fr.rat m.data.toList then Fr.rat m.data.toList else Fr.rat l.data.toList := by
    unfold greatB
    by_cases e : Fr.rat l.data.toList < Fr.rat m.data.toList
    · rw [if_pos e, if_pos e]
    · rw [if_neg e, if_neg e]
  have c1 : Fr.chk (leastB h k).data.toList = 0 := by
    rcases leastB_or h k with e | e
    · rw [e]; exact kh
    · rw [e]; exact kk
  have c2 : Fr.chk (leastB l m).data.toList = 0 := by
    rcases leastB_or l m with e | e
    · rw [e]; exact kl
    · rw [e]; exact km
  have c3 : Fr.chk (greatB h k).data.toList = 0 := by
    rcases greatB_or h k with e | e
    · rw [e]; exact kh
    · rw [e]; exact kk
  have c4 : Fr.chk (greatB l m).data.toList = 0 := by
    rcases greatB_or l m with e | e
    · rw [e]; exact kl
    · rw [e]; exact km
  obtain ⟨x1, x2, x3⟩ := qmin _ a1
  obtain ⟨y1, y2, y3⟩ := qmin _ a2
  obtain ⟨u1, u2, u3⟩ := qmax _ a3
  obtain ⟨v1, v2, v3⟩ := qmax _ a4
  clear a1 a2 a3 a4
  have hz : Fr.chkE (leastB l m).data.toList (greatB h k).data.toList = 0 := chkE_mk c2 c3 (by clear x1 x2 x3 v1 v2 v3 c1 c2 c3 c4 z1 z2 kl kh km kk; grind)
  refine ⟨?_, witV_mk (chk2_mk z1 hz) ⟨y1, u1⟩, witV_mk (chk2_mk z2 hz) ⟨y2, u2⟩, fun hn => ?_⟩
  · have w1 : ¬ chk2 l h m k ≠ 0 := by simpa using chk2_mk z1 z2
    have w2 : ¬ chk2 m k l h ≠ 0 := by simpa using chk2_mk z2 z1
    unfold cmpV
    rw [if_neg w1, if_neg w2]
    clear w1 w2 c1 c2 c3 c4 z1 z2 kl kh km kk hz y1 y2 y3 u1 u2 u3
    by_cases b1 : Fr.rat h.data.toList < Fr.rat m.data.toList
    · have b2 : ¬ Fr.rat k.data.toList < Fr.rat l.data.toList := by clear x1 x2 x3 v1 v2 v3; grind
      refine ⟨-1, by rw [if_pos b1], ?_, ?_, by decide, by decide⟩
      · rw [if_neg b2, if_pos b1]; rfl
      · exact decide_eq_false (by clear x3 v3; grind)
    · by_cases b2 : Fr.rat k.data.toList < Fr.rat l.data.toList
      · refine ⟨1, by rw [if_neg b1, if_pos b2], ?_, ?_, by decide, by decide⟩
        · rw [if_pos b2]
        · exact decide_eq_false (by clear x3 v3; grind)
      · refine ⟨0, by rw [if_neg b1, if_neg b2], ?_, ?_, by decide, by decide⟩
        · rw [if_neg b2, if_neg b1]; rfl
        · exact decide_eq_true (by clear x1 x2 v1 v2; rcases x3 with e | e <;> rcases v3 with f | f <;> rw [e, f] <;> assumption)
  · have hz2 : Fr.chkE (greatB l m).data.toList (leastB h k).data.toList = 0 := chkE_mk c4 c1 hn
    exact ⟨witV_mk (chk2_mk hz2 z1) ⟨v1, x1⟩, witV_mk (chk2_mk hz2 z2) ⟨v2, x2⟩⟩
set_option maxRecDepth 100000 in
set_option maxHeartbeats 8000000 in
theorem meets_any (l h m k : ByteArray) (w : World) (hst : St w) (sl : l.size ≤ 9223372036854775807) (sh : h.size ≤ 9223372036854775807) (sm : m.size ≤ 9223372036854775807) (sk : k.size ≤ 9223372036854775807) :
    Calls Tryz.prog 9 #[.agg #[.string l, .string h], .agg #[.string m, .string k]] w fun e w' => e = .returned (.bool true) ∧ Below w.heap.size w w' := by
  have CA := fun W (hW : Below w.heap.size w W) => Lib.hid (awake02_any W (hst.next hW))
  have HB0 := Lib.hid (two_below w l h m k)
  unfold Two at HB0
  have P0 := Lib.hid (pair_next w l h m k 24 24).1
  have Q0 := Lib.hid (pair_next w l h m k 24 24).2
  have HX0 := (Below.refl ((w.alloc (.cells #[.string l, .string h] 24)).alloc (.cells #[.string m, .string k] 24)).heap.size ((w.alloc (.cells #[.string l, .string h] 24)).alloc (.cells #[.string m, .string k] 24))).alloc (Nat.le_refl _) (.cells #[.string l, .string h, .string m, .string k] 24)
  have HBQ := Lib.hid (below_nx HB0.out HX0)
  have PQ0 := Lib.hid (P0.out.below HX0)
  have QQ0 := Lib.hid (Q0.out.below HX0)
  have QD := Lib.hid (quad_new ((w.alloc (.cells #[.string l, .string h] 24)).alloc (.cells #[.string m, .string k] 24)) l h m k 24)
  rw [show ((w.alloc (.cells #[.string l, .string h] 24)).alloc (.cells #[.string m, .string k] 24)).heap.size = w.heap.size + 1 + 1 by simp] at QD
  clear HX0
  by_cases hr : RightE l h m k
  · have CR := fun W g hg => Lib.hid (right_yes l h m k g W hg hr.1.1 hr.1.2 hr.2.1 hr.2.2)
    obtain ⟨⟨⟨s1, s2⟩, z1⟩, ⟨s3, s4⟩, z2⟩ := hr
    have h0 := chk2_mk z1 z2
    obtain ⟨⟨n, n1, n2, n3, n4, n5⟩, t1, t2, t3⟩ := meets_math z1 z2
    have sa : (leastB l m).size ≤ 800 := by rcases leastB_or l m with e | e <;> rw [e] <;> omega
    have sb : (greatB h k).size ≤ 800 := by rcases greatB_or h k with e | e <;> rw [e] <;> omega
    have sc : (greatB l m).size ≤ 800 := by rcases greatB_or l m with e | e <;> rw [e] <;> omega
    have sd : (leastB h k).size ≤ 800 := by rcases leastB_or h k with e | e <;> rw [e] <;> omega
    have C1 := fun W (hW : Below w.heap.size w W) => Lib.hid (eMeet_any l h m k W (hst.next hW) (by omega) (by omega) (by omega) (by omega))
    have C2 := fun W (hW : Below w.heap.size w W) => Lib.hid (eHull_any l h m k W (hst.next hW) (by omega) (by omega) (by omega) (by omega))
    have C3 := fun W (hW : Below w.heap.size w W) => Lib.hid (eCompare_any l h m k W (hst.next hW) (by omega) (by omega) (by omega) (by omega))
    have C4 := fun W (hW : Below w.heap.size w W) => Lib.hid (eCompare_any m k l h W (hst.next hW) (by omega) (by omega) (by omega) (by omega))
    have C5 := fun W (hW : Below w.heap.size w W) => Lib.hid (eWithin_any l h (leastB l m) (greatB h k) W (hst.next hW) (by omega) (by omega) sa sb)
    have C6 := fun W (hW : Below w.heap.size w W) => Lib.hid (eWithin_any m k (leastB l m) (greatB h k) W (hst.next hW) (by omega) (by omega) sa sb)
    have C7 := fun W (hW : Below w.heap.size w W) => Lib.hid (eWithin_any (greatB l m) (leastB h k) l h W (hst.next hW) sc sd (by omega) (by omega))
    have C8 := fun W (hW : Below w.heap.size w W) => Lib.hid (eWithin_any (greatB l m) (leastB h k) m k W (hst.next hW) sc sd (by omega) (by omega))
    unfold MeetPost at C1
    unfold HullPost at C2
    rw [h0] at C1 C2
    rw [n1] at C3
    rw [n2] at C4
    rw [t1] at C5
    rw [t2] at C6
    simp only [true_and, if_true] at C1 C2 C3 C4 C5 C6
    clear n1 n2 t1 t2 sa sb sc sd h0 z1 z2 s1 s2 s3 s4 hst sl sh sm sk
    generalize leastB l m = aa at *
    generalize greatB h k = bb at *
    generalize greatB l m = lo at *
    generalize leastB h k = hi at *
    by_cases hok : ¬ Fr.rat hi.data.toList < Fr.rat lo.data.toList
    · obtain ⟨t7, t8⟩ := t3 hok
      rw [t7] at C7
      rw [t8] at C8
      rw [if_pos hok, decide_eq_true hok] at C1
      rw [decide_eq_true hok] at n3
      have n0 : n = 0 := by simpa using n3.symm
      subst n0
      simp only [Int.neg_zero] at C3 C4 C7 C8
      clear t3 t7 t8 hok n3 n4 n5
      obtain ⟨-, a1, a2, -, -⟩ := P0.out
      obtain ⟨-, a3, a4, -, -⟩ := Q0.out
      go_enter Tryz.func9, Tryz.ntmps9
      go_wp2_with fail
      clear a1 a2 a3 a4
      refine ((CR _ _ QD.out).out).mono ?_
      rintro e w1 ⟨rfl, hb⟩
      have HB := Lib.hid (below_nx HBQ.out hb)
      have P0 := Lib.hid (PQ0.out.below hb)
      have Q0 := Lib.hid (QQ0.out.below hb)
      clear hb HB0 CR QD HBQ PQ0 QQ0
      obtain ⟨z0, a1, a2, -, -⟩ := P0.out
      obtain ⟨z1, a3, a4, -, -⟩ := Q0.out
      go_wp2_with fail
      clear z0 z1 a1 a2 a3 a4
      refine ((C1 _ HB.out).out).mono ?_
      rintro e w2 ⟨rfl, hb⟩
      have P0 := Lib.hid (P0.out.below hb)
      have Q0 := Lib.hid (Q0.out.below hb)
      have HB := Lib.hid (below_nx HB.out hb)
      clear hb C1
      obtain ⟨z0, a1, a2, -, -⟩ := P0.out
      obtain ⟨z1, a3, a4, -, -⟩ := Q0.out
      go_wp2_with fail
      clear z0 z1 a1 a2 a3 a4
      have HX := Lib.hid ((Below.refl w2.heap.size w2).alloc (Nat.le_refl _) (.cells #[.string lo, .string hi] 24))
      have P0 := Lib.hid (P0.out.below HX.out)
      have Q0 := Lib.hid (Q0.out.below HX.out)
      have P1 := Lib.hid (pair_new w2 lo hi 24)
      have HB := Lib.hid (below_nx HB.out HX.out)
      clear HX
      refine ((C2 _ HB.out).out).mono ?_
      rintro e w3 ⟨rfl, hb⟩
      have P0 := Lib.hid (P0.out.below hb)
      have Q0 := Lib.hid (Q0.out.below hb)
      have P1 := Lib.hid (P1.out.below hb)
      have HB := Lib.hid (below_nx HB.out hb)
      clear hb C2
      obtain ⟨z0, a1, a2, -, -⟩ := P0.out
      obtain ⟨z1, a3, a4, -, -⟩ := Q0.out
      go_wp2_with fail
      clear z0 z1 a1 a2 a3 a4
      have HX := Lib.hid ((Below.refl w3.heap.size w3).alloc (Nat.le_refl _) (.cells #[.string aa, .string bb] 24))
      have P0 := Lib.hid (P0.out.below HX.out)
      have Q0 := Lib.hid (Q0.out.below HX.out)
      have P1 := Lib.hid (P1.out.below HX.out)
      have P2 := Lib.hid (pair_new w3 aa bb 24)
      have HB := Lib.hid (below_nx HB.out HX.out)
      clear HX
      refine ((C3 _ HB.out).out).mono ?_
      rintro e w4 ⟨rfl, hb⟩
      have P0 := Lib.hid (P0.out.below hb)
      have Q0 := Lib.hid (Q0.out.below hb)
      have P1 := Lib.hid (P1.out.below hb)
      have P2 := Lib.hid (P2.out.below hb)
      have HB := Lib.hid (below_nx HB.out hb)
      clear hb C3
      obtain ⟨z0, a1, a2, -, -⟩ := P0.out
      obtain ⟨z1, a3, a4, -, -⟩ := Q0.out
      go_wp2_with fail
      clear z0 z1 a1 a2 a3 a4
      refine ((C4 _ HB.out).out).mono ?_
      rintro e w5 ⟨rfl, hb⟩
      have P0 := Lib.hid (P0.out.below hb)
      have Q0 := Lib.hid (Q0.out.below hb)
      have P1 := Lib.hid (P1.out.below hb)
      have P2 := Lib.hid (P2.out.below hb)
      have HB := Lib.hid (below_nx HB.out hb)
      clear hb C4
      obtain ⟨z0, a1, a2, -, -⟩ := P0.out
      obtain ⟨z1, a3, a4, -, -⟩ := Q0.out
      go_wp2_with fail
      clear z0 z1 a1 a2 a3 a4
      have HX := Lib.hid ((Below.refl w5.heap.size w5).alloc (Nat.le_refl _) (.cells #[.string l, .string h, .string m, .string k] 24))
      have KK := Lib.hid (show Below w.heap.size w _ ∧ Pair _ w2.heap.size lo hi ∧ Pair _ w3.heap.size aa bb ∧ Quad _ w5.heap.size l h m k from ⟨below_nx HB.out HX.out, P1.out.below HX.out, P2.out.below HX.out, quad_new w5 l h m k 24⟩)
      clear HX HB P0 Q0 P1 P2
      go_loopw [75] (fun u75 wr => ∃ j : Nat, j ≤ 2 ∧ u75 = .int .i64 j ∧ Hid (Below w.heap.size w wr ∧ Pair wr w2.heap.size lo hi ∧ Pair wr w3.heap.size aa bb ∧ Quad wr w5.heap.size l h m k)) (fun u75 _ => 2 - (intOf u75).toNat)
      case atStart => exact ⟨0, by omega, rfl, KK⟩
      case round =>
        clear KK
        obtain ⟨j, hj, rfl, KI⟩ := hrel
        obtain ⟨hbel, P1, P2, QD⟩ := KI.out
        have hj3 : j = 0 ∨ j = 1 ∨ j = 2 := by omega
        rcases hj3 with rfl | rfl | rfl
        · have HX := (Below.refl wr.heap.size wr).alloc (Nat.le_refl _) (.cells #[.string l, .string h] 24)
          have hb0 := below_nx hbel HX
          have T1 := P1.below HX
          have T2 := P2.below HX
          have T3 := pair_new wr l h 24
          have T4 := QD.below QD.1 HX
          obtain ⟨-, g1, g2, g3, g4⟩ := QD
          obtain ⟨-, b1, b2, -, -⟩ := T2
          go_wp2_with fail
          clear g1 g2 g3 g4 b1 b2
          refine ((C5 _ hb0).out).mono ?_
          rintro e w6 ⟨rfl, hb⟩
          have hb1 := below_nx hb0 hb
          have T1 := T1.below hb
          have T2 := (P2.below HX).below hb
          have T3 := T3.below hb
          have T4 := T4.below T4.1 hb
          clear hb
          have K1 := Lib.hid T1
          have K2 := Lib.hid T2
          have K3 := Lib.hid T3
          have K4 := Lib.hid T4
          obtain ⟨-, b1, b2, -, -⟩ := T1
          obtain ⟨-, b3, b4, -, -⟩ := T3
          clear T2 T4
          go_wp2_with fail
          clear b1 b2 b3 b4
          refine ((C7 _ hb1).out).mono ?_
          rintro e w7 ⟨rfl, hb⟩
          have hb2 := below_nx hb1 hb
          have T1 := K1.out.below hb
          have T2 := K2.out.below hb
          have T4 := K4.out.below K4.out.1 hb
          clear K1 K2 K3 K4 hb
          have KN := Lib.hid (And.intro hb2 (And.intro T1 (And.intro T2 T4)))
          clear T1 T2 T4 
          go_wp2
          go_roundw
          case rel => exact ⟨1, by omega, by go_num, KN⟩
          case measure => simp [intOf]
        · have HX := (Below.refl wr.heap.size wr).alloc (Nat.le_refl _) (.cells #[.string m, .string k] 24)
          have hb0 := below_nx hbel HX
          have T1 := P1.below HX
          have T2 := P2.below HX
          have T3 := pair_new wr m k 24
          have T4 := QD.below QD.1 HX
          obtain ⟨-, g1, g2, g3, g4⟩ := QD
          obtain ⟨-, b1, b2, -, -⟩ := T2
          go_wp2_with fail
          clear g1 g2 g3 g4 b1 b2
          refine ((C6 _ hb0).out).mono ?_
          rintro e w6 ⟨rfl, hb⟩
          have hb1 := below_nx hb0 hb
          have T1 := T1.below hb
          have T2 := (P2.below HX).below hb
          have T3 := T3.below hb
          have T4 := T4.below T4.1 hb
          clear hb
          have K1 := Lib.hid T1
          have K2 := Lib.hid T2
          have K3 := Lib.hid T3
          have K4 := Lib.hid T4
          obtain ⟨-, b1, b2, -, -⟩ := T1
          obtain ⟨-, b3, b4, -, -⟩ := T3
          clear T2 T4
          go_wp2_with fail
          clear b1 b2 b3 b4
          refine ((C8 _ hb1).out).mono ?_
          rintro e w7 ⟨rfl, hb⟩
          have hb2 := below_nx hb1 hb
          have T1 := K1.out.below hb
          have T2 := K2.out.below hb
          have T4 := K4.out.below K4.out.1 hb
          clear K1 K2 K3 K4 hb
          have KN := Lib.hid (And.intro hb2 (And.intro T1 (And.intro T2 T4)))
          clear T1 T2 T4 
          go_wp2
          go_roundw
          case rel => exact ⟨2, by omega, by go_num, KN⟩
          case measure => simp [intOf]
        · clear KI P1 P2 QD
          go_wp2_with fail
          refine ((CA _ hbel).out).mono ?_
          rintro e w8 ⟨rfl, hb⟩
          have hb9 := below_nx hbel hb
          go_wp2
          go_ret
          exact ⟨rfl, hb9⟩
    · rw [if_neg hok, decide_eq_false hok] at C1
      rw [decide_eq_false hok] at n3
      have n0 : n = -1 ∨ n = 1 := by
        have : n ≠ 0 := fun e => by subst e; exact absurd n3 (by decide)
        omega
      clear t3 hok n3 n4 n5 C7 C8
      rcases n0 with rfl | rfl
      · obtain ⟨-, a1, a2, -, -⟩ := P0.out
        obtain ⟨-, a3, a4, -, -⟩ := Q0.out
        go_enter Tryz.func9, Tryz.ntmps9
        go_wp2_with fail
        clear a1 a2 a3 a4
        refine ((CR _ _ QD.out).out).mono ?_
        rintro e w1 ⟨rfl, hb⟩
        have HB := Lib.hid (below_nx HBQ.out hb)
        have P0 := Lib.hid (PQ0.out.below hb)
        have Q0 := Lib.hid (QQ0.out.below hb)
        clear hb HB0 CR QD HBQ PQ0 QQ0
        obtain ⟨z0, a1, a2, -, -⟩ := P0.out
        obtain ⟨z1, a3, a4, -, -⟩ := Q0.out
        go_wp2_with fail
        clear z0 z1 a1 a2 a3 a4
        refine ((C1 _ HB.out).out).mono ?_
        rintro e w2 ⟨rfl, hb⟩
        have P0 := Lib.hid (P0.out.below hb)
        have Q0 := Lib.hid (Q0.out.below hb)
        have HB := Lib.hid (below_nx HB.out hb)
        clear hb C1
        obtain ⟨z0, a1, a2, -, -⟩ := P0.out
        obtain ⟨z1, a3, a4, -, -⟩ := Q0.out
        go_wp2_with fail
        clear z0 z1 a1 a2 a3 a4
        have HX := Lib.hid ((Below.refl w2.heap.size w2).alloc (Nat.le_refl _) (.cells #[.string ⟨#[]⟩, .string ⟨#[]⟩] 24))
        have P0 := Lib.hid (P0.out.below HX.out)
        have Q0 := Lib.hid (Q0.out.below HX.out)
        have P1 := Lib.hid (pair_new w2 ⟨#[]⟩ ⟨#[]⟩ 24)
        have HB := Lib.hid (below_nx HB.out HX.out)
        clear HX
        refine ((C2 _ HB.out).out).mono ?_
        rintro e w3 ⟨rfl, hb⟩
        have P0 := Lib.hid (P0.out.below hb)
        have Q0 := Lib.hid (Q0.out.below hb)
        have P1 := Lib.hid (P1.out.below hb)
        have HB := Lib.hid (below_nx HB.out hb)
        clear hb C2
        obtain ⟨z0, a1, a2, -, -⟩ := P0.out
        obtain ⟨z1, a3, a4, -, -⟩ := Q0.out
        go_wp2_with fail
        clear z0 z1 a1 a2 a3 a4
        have HX := Lib.hid ((Below.refl w3.heap.size w3).alloc (Nat.le_refl _) (.cells #[.string aa, .string bb] 24))
        have P0 := Lib.hid (P0.out.below HX.out)
        have Q0 := Lib.hid (Q0.out.below HX.out)
        have P1 := Lib.hid (P1.out.below HX.out)
        have P2 := Lib.hid (pair_new w3 aa bb 24)
        have HB := Lib.hid (below_nx HB.out HX.out)
        clear HX
        refine ((C3 _ HB.out).out).mono ?_
        rintro e w4 ⟨rfl, hb⟩
        have P0 := Lib.hid (P0.out.below hb)
        have Q0 := Lib.hid (Q0.out.below hb)
        have P1 := Lib.hid (P1.out.below hb)
        have P2 := Lib.hid (P2.out.below hb)
        have HB := Lib.hid (below_nx HB.out hb)
        clear hb C3
        obtain ⟨z0, a1, a2, -, -⟩ := P0.out
        obtain ⟨z1, a3, a4, -, -⟩ := Q0.out
        go_wp2_with fail
        clear z0 z1 a1 a2 a3 a4
        refine ((C4 _ HB.out).out).mono ?_
        rintro e w5 ⟨rfl, hb⟩
        have P0 := Lib.hid (P0.out.below hb)
        have Q0 := Lib.hid (Q0.out.below hb)
        have P1 := Lib.hid (P1.out.below hb)
        have P2 := Lib.hid (P2.out.below hb)
        have HB := Lib.hid (below_nx HB.out hb)
        clear hb C4
        obtain ⟨z0, a1, a2, -, -⟩ := P0.out
        obtain ⟨z1, a3, a4, -, -⟩ := Q0.out
        go_wp2_with fail
        clear z0 z1 a1 a2 a3 a4
        have HX := Lib.hid ((Below.refl w5.heap.size w5).alloc (Nat.le_refl _) (.cells #[.string l, .string h, .string m, .string k] 24))
        have KK := Lib.hid (show Below w.heap.size w _ ∧ Pair _ w2.heap.size ⟨#[]⟩ ⟨#[]⟩ ∧ Pair _ w3.heap.size aa bb ∧ Quad _ w5.heap.size l h m k from ⟨below_nx HB.out HX.out, P1.out.below HX.out, P2.out.below HX.out, quad_new w5 l h m k 24⟩)
        clear HX HB P0 Q0 P1 P2
        go_loopw [75] (fun u75 wr => ∃ j : Nat, j ≤ 2 ∧ u75 = .int .i64 j ∧ Hid (Below w.heap.size w wr ∧ Pair wr w2.heap.size ⟨#[]⟩ ⟨#[]⟩ ∧ Pair wr w3.heap.size aa bb ∧ Quad wr w5.heap.size l h m k)) (fun u75 _ => 2 - (intOf u75).toNat)
        case atStart => exact ⟨0, by omega, rfl, KK⟩
        case round =>
          clear KK
          obtain ⟨j, hj, rfl, KI⟩ := hrel
          obtain ⟨hbel, P1, P2, QD⟩ := KI.out
          have hj3 : j = 0 ∨ j = 1 ∨ j = 2 := by omega
          rcases hj3 with rfl | rfl | rfl
          · have HX := (Below.refl wr.heap.size wr).alloc (Nat.le_refl _) (.cells #[.string l, .string h] 24)
            have hb0 := below_nx hbel HX
            have T1 := P1.below HX
            have T2 := P2.below HX
            have T3 := pair_new wr l h 24
            have T4 := QD.below QD.1 HX
            obtain ⟨-, g1, g2, g3, g4⟩ := QD
            obtain ⟨-, b1, b2, -, -⟩ := T2
            go_wp2_with fail
            clear g1 g2 g3 g4 b1 b2
            refine ((C5 _ hb0).out).mono ?_
            rintro e w6 ⟨rfl, hb⟩
            have hb1 := below_nx hb0 hb
            have T1 := T1.below hb
            have T2 := (P2.below HX).below hb
            have T3 := T3.below hb
            have T4 := T4.below T4.1 hb
            clear hb
            have KN := Lib.hid (And.intro hb1 (And.intro T1 (And.intro T2 T4)))
            clear T1 T2 T4 T3
            go_wp2
            go_roundw
            case rel => exact ⟨1, by omega, by go_num, KN⟩
            case measure => simp [intOf]
          · have HX := (Below.refl wr.heap.size wr).alloc (Nat.le_refl _) (.cells #[.string m, .string k] 24)
            have hb0 := below_nx hbel HX
            have T1 := P1.below HX
            have T2 := P2.below HX
            have T3 := pair_new wr m k 24
            have T4 := QD.below QD.1 HX
            obtain ⟨-, g1, g2, g3, g4⟩ := QD
            obtain ⟨-, b1, b2, -, -⟩ := T2
            go_wp2_with fail
            clear g1 g2 g3 g4 b1 b2
            refine ((C6 _ hb0).out).mono ?_
            rintro e w6 ⟨rfl, hb⟩
            have hb1 := below_nx hb0 hb
            have T1 := T1.below hb
            have T2 := (P2.below HX).below hb
            have T3 := T3.below hb
            have T4 := T4.below T4.1 hb
            clear hb
            have KN := Lib.hid (And.intro hb1 (And.intro T1 (And.intro T2 T4)))
            clear T1 T2 T4 T3
            go_wp2
            go_roundw
            case rel => exact ⟨2, by omega, by go_num, KN⟩
            case measure => simp [intOf]
          · clear KI P1 P2 QD
            go_wp2_with fail
            refine ((CA _ hbel).out).mono ?_
            rintro e w8 ⟨rfl, hb⟩
            have hb9 := below_nx hbel hb
            go_wp2
            go_ret
            exact ⟨rfl, hb9⟩
      · obtain ⟨-, a1, a2, -, -⟩ := P0.out
        obtain ⟨-, a3, a4, -, -⟩ := Q0.out
        go_enter Tryz.func9, Tryz.ntmps9
        go_wp2_with fail
        clear a1 a2 a3 a4
        refine ((CR _ _ QD.out).out).mono ?_
        rintro e w1 ⟨rfl, hb⟩
        have HB := Lib.hid (below_nx HBQ.out hb)
        have P0 := Lib.hid (PQ0.out.below hb)
        have Q0 := Lib.hid (QQ0.out.below hb)
        clear hb HB0 CR QD HBQ PQ0 QQ0
        obtain ⟨z0, a1, a2, -, -⟩ := P0.out
        obtain ⟨z1, a3, a4, -, -⟩ := Q0.out
        go_wp2_with fail
        clear z0 z1 a1 a2 a3 a4
        refine ((C1 _ HB.out).out).mono ?_
        rintro e w2 ⟨rfl, hb⟩
        have P0 := Lib.hid (P0.out.below hb)
        have Q0 := Lib.hid (Q0.out.below hb)
        have HB := Lib.hid (below_nx HB.out hb)
        clear hb C1
        obtain ⟨z0, a1, a2, -, -⟩ := P0.out
        obtain ⟨z1, a3, a4, -, -⟩ := Q0.out
        go_wp2_with fail
        clear z0 z1 a1 a2 a3 a4
        have HX := Lib.hid ((Below.refl w2.heap.size w2).alloc (Nat.le_refl _) (.cells #[.string ⟨#[]⟩, .string ⟨#[]⟩] 24))
        have P0 := Lib.hid (P0.out.below HX.out)
        have Q0 := Lib.hid (Q0.out.below HX.out)
        have P1 := Lib.hid (pair_new w2 ⟨#[]⟩ ⟨#[]⟩ 24)
        have HB := Lib.hid (below_nx HB.out HX.out)
        clear HX
        refine ((C2 _ HB.out).out).mono ?_
        rintro e w3 ⟨rfl, hb⟩
        have P0 := Lib.hid (P0.out.below hb)
        have Q0 := Lib.hid (Q0.out.below hb)
        have P1 := Lib.hid (P1.out.below hb)
        have HB := Lib.hid (below_nx HB.out hb)
        clear hb C2
        obtain ⟨z0, a1, a2, -, -⟩ := P0.out
        obtain ⟨z1, a3, a4, -, -⟩ := Q0.out
        go_wp2_with fail
        clear z0 z1 a1 a2 a3 a4
        have HX := Lib.hid ((Below.refl w3.heap.size w3).alloc (Nat.le_refl _) (.cells #[.string aa, .string bb] 24))
        have P0 := Lib.hid (P0.out.below HX.out)
        have Q0 := Lib.hid (Q0.out.below HX.out)
        have P1 := Lib.hid (P1.out.below HX.out)
        have P2 := Lib.hid (pair_new w3 aa bb 24)
        have HB := Lib.hid (below_nx HB.out HX.out)
        clear HX
        refine ((C3 _ HB.out).out).mono ?_
        rintro e w4 ⟨rfl, hb⟩
        have P0 := Lib.hid (P0.out.below hb)
        have Q0 := Lib.hid (Q0.out.below hb)
        have P1 := Lib.hid (P1.out.below hb)
        have P2 := Lib.hid (P2.out.below hb)
        have HB := Lib.hid (below_nx HB.out hb)
        clear hb C3
        obtain ⟨z0, a1, a2, -, -⟩ := P0.out
        obtain ⟨z1, a3, a4, -, -⟩ := Q0.out
        go_wp2_with fail
        clear z0 z1 a1 a2 a3 a4
        refine ((C4 _ HB.out).out).mono ?_
        rintro e w5 ⟨rfl, hb⟩
        have P0 := Lib.hid (P0.out.below hb)
        have Q0 := Lib.hid (Q0.out.below hb)
        have P1 := Lib.hid (P1.out.below hb)
        have P2 := Lib.hid (P2.out.below hb)
        have HB := Lib.hid (below_nx HB.out hb)
        clear hb C4
        obtain ⟨z0, a1, a2, -, -⟩ := P0.out
        obtain ⟨z1, a3, a4, -, -⟩ := Q0.out
        go_wp2_with fail
        clear z0 z1 a1 a2 a3 a4
        have HX := Lib.hid ((Below.refl w5.heap.size w5).alloc (Nat.le_refl _) (.cells #[.string l, .string h, .string m, .string k] 24))
        have KK := Lib.hid (show Below w.heap.size w _ ∧ Pair _ w2.heap.size ⟨#[]⟩ ⟨#[]⟩ ∧ Pair _ w3.heap.size aa bb ∧ Quad _ w5.heap.size l h m k from ⟨below_nx HB.out HX.out, P1.out.below HX.out, P2.out.below HX.out, quad_new w5 l h m k 24⟩)
        clear HX HB P0 Q0 P1 P2
        go_loopw [75] (fun u75 wr => ∃ j : Nat, j ≤ 2 ∧ u75 = .int .i64 j ∧ Hid (Below w.heap.size w wr ∧ Pair wr w2.heap.size ⟨#[]⟩ ⟨#[]⟩ ∧ Pair wr w3.heap.size aa bb ∧ Quad wr w5.heap.size l h m k)) (fun u75 _ => 2 - (intOf u75).toNat)
        case atStart => exact ⟨0, by omega, rfl, KK⟩
        case round =>
          clear KK
          obtain ⟨j, hj, rfl, KI⟩ := hrel
          obtain ⟨hbel, P1, P2, QD⟩ := KI.out
          have hj3 : j = 0 ∨ j = 1 ∨ j = 2 := by omega
          rcases hj3 with rfl | rfl | rfl
          · have HX := (Below.refl wr.heap.size wr).alloc (Nat.le_refl _) (.cells #[.string l, .string h] 24)
            have hb0 := below_nx hbel HX
            have T1 := P1.below HX
            have T2 := P2.below HX
            have T3 := pair_new wr l h 24
            have T4 := QD.below QD.1 HX
            obtain ⟨-, g1, g2, g3, g4⟩ := QD
            obtain ⟨-, b1, b2, -, -⟩ := T2
            go_wp2_with fail
            clear g1 g2 g3 g4 b1 b2
            refine ((C5 _ hb0).out).mono ?_
            rintro e w6 ⟨rfl, hb⟩
            have hb1 := below_nx hb0 hb
            have T1 := T1.below hb
            have T2 := (P2.below HX).below hb
            have T3 := T3.below hb
            have T4 := T4.below T4.1 hb
            clear hb
            have KN := Lib.hid (And.intro hb1 (And.intro T1 (And.intro T2 T4)))
            clear T1 T2 T4 T3
            go_wp2
            go_roundw
            case rel => exact ⟨1, by omega, by go_num, KN⟩
            case measure => simp [intOf]
          · have HX := (Below.refl wr.heap.size wr).alloc (Nat.le_refl _) (.cells #[.string m, .string k] 24)
            have hb0 := below_nx hbel HX
            have T1 := P1.below HX
            have T2 := P2.below HX
            have T3 := pair_new wr m k 24
            have T4 := QD.below QD.1 HX
            obtain ⟨-, g1, g2, g3, g4⟩ := QD
            obtain ⟨-, b1, b2, -, -⟩ := T2
            go_wp2_with fail
            clear g1 g2 g3 g4 b1 b2
            refine ((C6 _ hb0).out).mono ?_
            rintro e w6 ⟨rfl, hb⟩
            have hb1 := below_nx hb0 hb
            have T1 := T1.below hb
            have T2 := (P2.below HX).below hb
            have T3 := T3.below hb
            have T4 := T4.below T4.1 hb
            clear hb
            have KN := Lib.hid (And.intro hb1 (And.intro T1 (And.intro T2 T4)))
            clear T1 T2 T4 T3
            go_wp2
            go_roundw
            case rel => exact ⟨2, by omega, by go_num, KN⟩
            case measure => simp [intOf]
          · clear KI P1 P2 QD
            go_wp2_with fail
            refine ((CA _ hbel).out).mono ?_
            rintro e w8 ⟨rfl, hb⟩
            have hb9 := below_nx hbel hb
            go_wp2
            go_ret
            exact ⟨rfl, hb9⟩
  · have CR := fun W g hg => Lib.hid (right_no l h m k g W hg ⟨sl, sh⟩ ⟨sm, sk⟩ hr)
    clear hst hr sl sh sm sk
    obtain ⟨-, a1, a2, -, -⟩ := P0.out
    obtain ⟨-, a3, a4, -, -⟩ := Q0.out
    go_enter Tryz.func9, Tryz.ntmps9
    go_wp2_with fail
    clear a1 a2 a3 a4
    refine ((CR _ _ QD.out).out).mono ?_
    rintro e w1 ⟨rfl, hb⟩
    have HB := Lib.hid (below_nx HBQ.out hb)
    clear hb HB0 CR
    go_wp2_with fail
    refine ((CA _ HB.out).out).mono ?_
    rintro e w3 ⟨rfl, hb⟩
    have HB := Lib.hid (below_nx HB.out hb)
    clear hb
    go_wp2
    go_ret
    exact ⟨rfl, HB.out⟩
end Go.Proofs.YtldclpdmcopgnaaGreatDoor
