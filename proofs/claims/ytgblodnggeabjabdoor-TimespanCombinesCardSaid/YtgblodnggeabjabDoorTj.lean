/- The contracts of dots of the reference, of Format of both. -/
import Derived.Test.YtgblodnggeabjabDoorTi
import Derived.Deep.RegionHeld3
namespace Go.Proofs.YtgblodnggeabjabDoor
open Go.RowKit

theorem getD_byte (s : ByteArray) (j : Nat) (hj : j < s.size) : s.data.toList.getD j 0 = s[j]'hj := by
  rw [List.getD_eq_getElem?_getD, List.getElem?_eq_getElem (by show j < s.data.toList.length; exact hj)]
  rfl
theorem drop_byte (s : ByteArray) (j : Nat) (hj : j < s.size) : s.data.toList.drop j = s[j]'hj :: s.data.toList.drop (j + 1) := by
  rw [List.drop_eq_getElem_cons (by show j < s.data.toList.length; exact hj)]
  rfl

set_option maxRecDepth 100000 in
set_option maxHeartbeats 1000000 in
theorem rDots_any (s : ByteArray) (w : World) (hs : s.size ≤ 1000000) : Calls Tryd.prog 59 #[.string s] w fun e w' => e = .returned (.int .i64 (((Tm.cut2 s.data.toList).1.length : Nat) : Int)) ∧ w = w' := by
  obtain ⟨R, hR⟩ : ∃ R, (Tm.cut2 s.data.toList).1.length = R := ⟨_, rfl⟩
  rw [hR]
  have HR := Lib.hid hR
  clear hR
  go_enter Tryd.func59, Tryd.ntmps59
  go_wp2
  go_loop [3] (fun u3 => ∃ j : Nat, j ≤ s.size ∧ u3 = .int .i64 j ∧ Hid ((Tm.cut2 s.data.toList).1.length = j + (Tm.cut2 (s.data.toList.drop j)).1.length)) (fun u3 => s.size - (intOf u3).toNat)
  case atStart => exact ⟨0, Nat.zero_le _, rfl, Lib.hid (by rw [List.drop_zero]; omega)⟩
  case round =>
    obtain ⟨j, hj, rfl, HJ⟩ := hrel
    by_cases hjd : j + 1 < s.size
    · have hj0 : j < s.size := by omega
      have hcut := Tm.cut2_two (s[j]'hj0) (s[j + 1]'hjd) (s.data.toList.drop (j + 1 + 1))
      rw [← drop_byte s (j + 1) hjd, ← drop_byte s j hj0] at hcut
      by_cases hc : s[j]'hj0 = 46
      · have f1 : ((s[j]'hj0).toNat : Int) = 46 := by rw [hc]; rfl
        by_cases hd : s[j + 1]'hjd = 46
        · have f2 : ((s[j + 1]'hjd).toNat : Int) = 46 := by rw [hd]; rfl
          rw [if_pos ⟨hc, hd⟩] at hcut
          have HF := Lib.hid (show j = R by have h := HJ.out; rw [HR.out, hcut] at h; simpa using h.symm)
          clear hc hd hcut
          go_wp2
          go_ret
          exact ⟨ret_int (by rw [HF.out]), rfl⟩
        · have f2 : ¬ ((s[j + 1]'hjd).toNat : Int) = 46 := by
            intro h; exact hd (UInt8.toNat_inj.1 (by show (s[j + 1]'hjd).toNat = 46; omega))
          rw [if_neg (fun h => hd h.2)] at hcut
          have HS := Lib.hid (show (Tm.cut2 s.data.toList).1.length = (j + 1) + (Tm.cut2 (s.data.toList.drop (j + 1))).1.length by rw [HJ.out, hcut, List.length_cons]; omega)
          clear hc hd hcut
          go_wp2
          go_round
          case rel => exact ⟨j + 1, by omega, by go_num, HS⟩
          case measure => simp [intOf]; omega
      · have f1 : ¬ ((s[j]'hj0).toNat : Int) = 46 := by
          intro h; exact hc (UInt8.toNat_inj.1 (by show (s[j]'hj0).toNat = 46; omega))
        rw [if_neg (fun h => hc h.1)] at hcut
        have HS := Lib.hid (show (Tm.cut2 s.data.toList).1.length = (j + 1) + (Tm.cut2 (s.data.toList.drop (j + 1))).1.length by rw [HJ.out, hcut, List.length_cons]; omega)
        clear hc hcut
        go_wp2
        go_round
        case rel => exact ⟨j + 1, by omega, by go_num, HS⟩
        case measure => simp [intOf]; omega
    · have HF := Lib.hid (show s.size = R by
        have h := HJ.out
        rw [HR.out] at h
        have hl : s.data.toList.length = s.size := rfl
        by_cases hj0 : j < s.size
        · rw [drop_byte s j hj0, List.drop_eq_nil_of_le (by omega), Tm.cut2_one] at h
          simp at h; omega
        · rw [List.drop_eq_nil_of_le (by omega), Tm.cut2_nil] at h
          simp at h; omega)
      go_wp2
      go_ret
      exact ⟨ret_int (by rw [HF.out]), rfl⟩

theorem ret_si {a b : ByteArray} {c d : Int} (h : a = b) (h2 : c = d) : Ending.returned (.tuple #[.string a, .int .i64 c]) = Ending.returned (.tuple #[.string b, .int .i64 d]) := by rw [h, h2]
theorem fmt_bad {l h : Int} (hc : ¬ Tm.chk l h = 0) : Tm.fmtV l h = ([], Tm.chk l h) := by unfold Tm.fmtV; rw [if_neg hc]
theorem fmt_good {l h : Int} (hc : Tm.chk l h = 0) : Tm.fmtV l h = (Tm.txt l h, 0) := by unfold Tm.fmtV; rw [if_pos hc]
theorem txt_more {l h : Int} (hc : l < h) : Tm.txt l h = Fr.render l.toNat ++ 46 :: 46 :: Fr.render h.toNat := by unfold Tm.txt; rw [if_pos hc]
theorem txt_same {l h : Int} (hc : ¬ l < h) : Tm.txt l h = Fr.render l.toNat := by unfold Tm.txt; rw [if_neg hc]

set_option maxRecDepth 100000 in
theorem tFormat_any (l h : Int) (w : World) (hst : St w) :
    Calls Tryd.prog 34 #[.agg #[.int .i64 l, .int .i64 h]] w fun e w' => e = .returned (.tuple #[.string ⟨(Tm.fmtV l h).1.toArray⟩, .int .i64 (Tm.fmtV l h).2]) ∧ Below w.heap.size w w' := by
  have CC := fun W => Lib.hid (tCheck_any l h W)
  have hB0 : Below w.heap.size w (w.alloc (.cells #[.int .i64 l, .int .i64 h] 23)) := (Below.refl _ _).alloc (Nat.le_refl _) _
  have hs := hB0.size
  have HF := Lib.hid (pairI_new w l h 23)
  by_cases hc : Tm.chk l h = 0
  · rw [fmt_good hc]
    rw [hc] at CC
    have hz := Tm.chk_zero.1 hc
    have CL := fun W (hW : Below w.heap.size w W) => Lib.hid (itoa_any l W (hst.next hW) (by omega) (by omega))
    have CH := fun W (hW : Below w.heap.size w W) => Lib.hid (itoa_any h W (hst.next hW) (by omega) (by omega))
    have s1 := Tm.render_seven (n := l.toNat) (by omega)
    have s2 := Tm.render_seven (n := h.toNat) (by omega)
    have s3 : (ByteArray.mk (Fr.render l.toNat).toArray).size ≤ 7 := by simpa [ByteArray.size] using s1
    have s4 : (ByteArray.mk (Fr.render h.toNat).toArray).size ≤ 7 := by simpa [ByteArray.size] using s2
    clear hc hst s1 s2
    by_cases hlt : l < h
    · rw [txt_more hlt]
      generalize Fr.render l.toNat = a at *
      generalize Fr.render h.toNat = b at *
      have HC := Lib.hid (show (ByteArray.mk a.toArray) ++ ((ByteArray.mk #[46, 46]) ++ ⟨b.toArray⟩) = ⟨(a ++ 46 :: 46 :: b).toArray⟩ by
        rw [show (ByteArray.mk #[46, 46]) = ⟨[46, 46].toArray⟩ from rfl, cat_lists, cat_lists]; rfl)
      have s5 : (ByteArray.mk #[46, 46]).size ≤ 2 := Nat.le_refl _
      have s6 : ((ByteArray.mk #[46, 46]) ++ ⟨b.toArray⟩).size ≤ 9 := by rw [ByteArray.size_append]; omega
      go_enter Tryd.func34, Tryd.ntmps34
      go_wp2_with fail
      refine ((CC _).out).mono ?_
      rintro e w1 ⟨rfl, hb1⟩
      obtain ⟨p0, p1, p2, p3, p4⟩ := HF.out.below (by simp) hb1
      have hB1 := hB0.trans (hb1.mono hs)
      go_wp2_with fail
      refine ((CL _ hB1).out).mono ?_
      rintro e w2 ⟨rfl, hb2⟩
      have hB2 := hB1.trans (hb2.mono hB1.size)
      have HR : PairI w1 w.heap.size l h := ⟨p0, p1, p2, p3, p4⟩
      obtain ⟨q0, q1, q2, q3, q4⟩ := HR.below p0 hb2
      clear hb1 hb2 HR p1 p2 p3 p4 HF CC CL hB1
      go_wp2_with fail
      refine ((CH _ hB2).out).mono ?_
      rintro e w3 ⟨rfl, hb3⟩
      have hB3 := hB2.trans (hb3.mono hB2.size)
      go_wp2
      go_ret2
      exact ⟨ret_si HC.out rfl, hB3⟩
    · rw [txt_same hlt]
      generalize Fr.render l.toNat = a at *
      go_enter Tryd.func34, Tryd.ntmps34
      go_wp2_with fail
      refine ((CC _).out).mono ?_
      rintro e w1 ⟨rfl, hb1⟩
      obtain ⟨p0, p1, p2, p3, p4⟩ := HF.out.below (by simp) hb1
      have hB1 := hB0.trans (hb1.mono hs)
      go_wp2_with fail
      refine ((CL _ hB1).out).mono ?_
      rintro e w2 ⟨rfl, hb2⟩
      have hB2 := hB1.trans (hb2.mono hB1.size)
      have HR : PairI w1 w.heap.size l h := ⟨p0, p1, p2, p3, p4⟩
      obtain ⟨q0, q1, q2, q3, q4⟩ := HR.below p0 hb2
      clear hb1 hb2 HR p1 p2 p3 p4 HF CC CL hB1
      go_wp2
      go_ret2
      exact ⟨rfl, hB2⟩
  · rw [fmt_bad hc]
    have hne : (Tm.chk l h != 0) = true := by simpa using hc
    generalize Tm.chk l h = c at *
    clear hc hst
    go_enter Tryd.func34, Tryd.ntmps34
    go_wp2_with fail
    refine ((CC _).out).mono ?_
    rintro e w1 ⟨rfl, hb1⟩
    go_wp2
    go_ret2
    exact ⟨rfl, hB0.trans (hb1.mono hs)⟩

set_option maxRecDepth 100000 in
theorem rFormat_any (l h : Int) (w : World) :
    Calls Tryd.prog 35 #[.agg #[.int .i64 l, .int .i64 h]] w fun e w' => e = .returned (.tuple #[.string ⟨(Tm.fmtV l h).1.toArray⟩, .int .i64 (Tm.fmtV l h).2]) ∧ Below w.heap.size w w' := by
  have CC := fun W => Lib.hid (rCheck_any l h W)
  have hB0 : Below w.heap.size w (w.alloc (.cells #[.int .i64 l, .int .i64 h] 23)) := (Below.refl _ _).alloc (Nat.le_refl _) _
  have hs := hB0.size
  have HF := Lib.hid (pairI_new w l h 23)
  by_cases hc : Tm.chk l h = 0
  · rw [fmt_good hc]
    rw [hc] at CC
    have hz := Tm.chk_zero.1 hc
    have CL := fun W => rDigits_any l.toNat W (by omega)
    have CH := fun W => rDigits_any h.toNat W (by omega)
    rw [show ((l.toNat : Nat) : Int) = l by omega] at CL
    rw [show ((h.toNat : Nat) : Int) = h by omega] at CH
    have DL := fun W => Lib.hid (CL W)
    have DH := fun W => Lib.hid (CH W)
    clear CL CH
    have s1 := Tm.render_seven (n := l.toNat) (by omega)
    have s2 := Tm.render_seven (n := h.toNat) (by omega)
    have s3 : (ByteArray.mk (Fr.render l.toNat).toArray).size ≤ 7 := by simpa [ByteArray.size] using s1
    have s4 : (ByteArray.mk (Fr.render h.toNat).toArray).size ≤ 7 := by simpa [ByteArray.size] using s2
    clear hc
    by_cases hlt : l < h
    · rw [txt_more hlt]
      generalize Fr.render l.toNat = a at *
      generalize Fr.render h.toNat = b at *
      have HC := Lib.hid (show ((ByteArray.mk a.toArray) ++ (ByteArray.mk #[46, 46])) ++ ⟨b.toArray⟩ = ⟨(a ++ 46 :: 46 :: b).toArray⟩ by
        rw [show (ByteArray.mk #[46, 46]) = ⟨[46, 46].toArray⟩ from rfl, cat_lists, cat_lists, List.append_assoc]; rfl)
      have s5 : (ByteArray.mk #[46, 46]).size ≤ 2 := Nat.le_refl _
      have s6 : ((ByteArray.mk a.toArray) ++ (ByteArray.mk #[46, 46])).size ≤ 9 := by rw [ByteArray.size_append]; omega
      have s7 : ¬ 9223372036854775807 < a.length + 2 := by omega
      have s8 : ¬ 9223372036854775807 < a.length + 2 + b.length := by omega
      have hne : (l == h) = false := by simpa using (show ¬ l = h by omega)
      go_enter Tryd.func35, Tryd.ntmps35
      go_wp2_with fail
      refine ((CC _).out).mono ?_
      rintro e w1 ⟨rfl, hb1⟩
      obtain ⟨p0, p1, p2, p3, p4⟩ := HF.out.below (by simp) hb1
      have hB1 := hB0.trans (hb1.mono hs)
      clear hb1 HF CC p3 p4
      go_wp2_with fail
      go_region_held3 (fun W => W.cell? ⟨w.heap.size, 0, none⟩ = some (.int .i64 l) ∧ W.cell? ⟨w.heap.size, 1, none⟩ = some (.int .i64 h))
        (first | (go_split_ands; refine ⟨?_, ?_⟩ <;> assumption) | go_keep)
        (first
          | (go_at_call 55; (with_reducible refine ((DL _).out).mono ?_); rintro e w2 ⟨rfl, rfl⟩)
          | (go_at_call 55; (with_reducible refine ((DH _).out).mono ?_); rintro e w2 ⟨rfl, rfl⟩))
      go_wp2
      go_ret2
      exact ⟨ret_si HC.out rfl, hB1.drew⟩
    · rw [txt_same hlt]
      have he : (l == h) = true := by simpa using (show l = h by omega)
      generalize Fr.render l.toNat = a at *
      go_enter Tryd.func35, Tryd.ntmps35
      go_wp2_with fail
      refine ((CC _).out).mono ?_
      rintro e w1 ⟨rfl, hb1⟩
      obtain ⟨p0, p1, p2, p3, p4⟩ := HF.out.below (by simp) hb1
      have hB1 := hB0.trans (hb1.mono hs)
      clear hb1 HF CC p3 p4
      go_wp2_with (go_at_call 55; refine ((DL _).out).mono ?_; rintro e w2 ⟨rfl, rfl⟩)
      go_ret2
      exact ⟨rfl, hB1⟩
  · rw [fmt_bad hc]
    have hne : (Tm.chk l h != 0) = true := by simpa using hc
    generalize Tm.chk l h = c at *
    clear hc
    go_enter Tryd.func35, Tryd.ntmps35
    go_wp2_with fail
    refine ((CC _).out).mono ?_
    rintro e w1 ⟨rfl, hb1⟩
    go_wp2
    go_ret2
    exact ⟨rfl, hB0.trans (hb1.mono hs)⟩

end Go.Proofs.YtgblodnggeabjabDoor
