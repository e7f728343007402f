/- The contract of Div of package enclosure for positive divisors. -/
import Derived.Test.YtldclpdmcopgnaaGreatDoorEy
namespace Go.Proofs.YtldclpdmcopgnaaGreatDoor
open Go.RowKit
/-- What 1 divided by a number is. -/
def divO (k : ByteArray) : List UInt8 × Int := bi (ByteArray.mk #[49]).data.toList k.data.toList (divV (Fr.rat (ByteArray.mk #[49]).data.toList) (Fr.rat k.data.toList))
set_option maxRecDepth 100000 in
theorem divLow_any (m k : ByteArray) (g : Nat) (w : World) (hst : St w) (hP : Pair w g m k) (hk : k.size ≤ 800) :
    Calls Tryz.prog 74 #[.pointer (some ⟨g, 0, none⟩)] w (OutPost w (divO k)) := by
  have C := Lib.hid (fDiv_any ⟨#[49]⟩ k w hst (by decide) hk)
  obtain ⟨p0, p1, p2, p3, p4⟩ := hP
  unfold divO
  generalize bi (ByteArray.mk #[49]).data.toList k.data.toList (divV (Fr.rat (ByteArray.mk #[49]).data.toList) (Fr.rat k.data.toList)) = o at *
  obtain ⟨x, c⟩ := o
  unfold OutPost at *
  simp only [] at *
  generalize (⟨x.toArray⟩ : ByteArray) = y at *
  clear hst
  go_enter Tryz.func74, Tryz.ntmps74
  go_wp2_with fail
  refine (C.out).mono ?_
  rintro e w1 ⟨rfl, hb1⟩
  go_wp2
  go_ret2
  exact ⟨rfl, hb1⟩
set_option maxRecDepth 100000 in
theorem divHigh_any (m k : ByteArray) (g : Nat) (w : World) (hst : St w) (hP : Pair w g m k) (hk : m.size ≤ 800) :
    Calls Tryz.prog 75 #[.pointer (some ⟨g, 0, none⟩)] w (OutPost w (divO m)) := by
  have C := Lib.hid (fDiv_any ⟨#[49]⟩ m w hst (by decide) hk)
  obtain ⟨p0, p1, p2, p3, p4⟩ := hP
  unfold divO
  generalize bi (ByteArray.mk #[49]).data.toList m.data.toList (divV (Fr.rat (ByteArray.mk #[49]).data.toList) (Fr.rat m.data.toList)) = o at *
  obtain ⟨x, c⟩ := o
  unfold OutPost at *
  simp only [] at *
  generalize (⟨x.toArray⟩ : ByteArray) = y at *
  clear hst
  go_enter Tryz.func75, Tryz.ntmps75
  go_wp2_with fail
  refine (C.out).mono ?_
  rintro e w1 ⟨rfl, hb1⟩
  go_wp2
  go_ret2
  exact ⟨rfl, hb1⟩
set_option maxRecDepth 100000 in
set_option maxHeartbeats 4000000 in
theorem eDiv_pos (l h m k r1 r2 : ByteArray) (w : World) (hst : St w) (hl : l.size ≤ 800) (hh : h.size ≤ 800) (hm : m.size ≤ 800) (hk : k.size ≤ 800) (h0 : chk2 l h m k = 0)
    (n1 : ¬ Fr.rat k.data.toList < Fr.rat (ByteArray.mk #[48]).data.toList) (n2 : Fr.rat (ByteArray.mk #[48]).data.toList < Fr.rat m.data.toList)
    (hr : btwP ⟨(divO k).1.toArray⟩ ⟨(divO m).1.toArray⟩ (divO k).2 (divO m).2 = (r1, r2)) (hf : btwE (divO k).2 (divO m).2 = 0) (hr1 : r1.size ≤ 800) (hr2 : r2.size ≤ 800) :
    Calls Tryz.prog 36 #[.agg #[.string l, .string h], .agg #[.string m, .string k]] w
      (EndsPost w (chk2 l h r1 r2) (mulL l h r1 r2) (mulH l h r1 r2)) := by
  have hB0 := four_below w l h m k
  have hs := hB0.size
  obtain ⟨HP, HQ, HR, HS⟩ := four_facts w l h m k
  have CC := Lib.hid (checkAll_any l h m k _ _ (hst.next hB0) HS hl hh hm hk)
  have FP := Lib.hid HP
  have FQ := Lib.hid HQ
  have FR := Lib.hid HR
  clear HP HQ HR HS
  obtain ⟨kl, kh, km, kk⟩ := chk2_parts h0
  have C1 := fun W (hW : Below w.heap.size w W) => Lib.hid (isLess_lit (s := k) (t := ⟨#[48]⟩) (b := false) (by simpa using n1) W (hst.next hW) hk (by decide) kk (by decide))
  have C2 := fun W (hW : Below w.heap.size w W) => Lib.hid (isLess_lit (s := ⟨#[48]⟩) (t := m) (b := true) (by simpa using n2) W (hst.next hW) (by decide) hm (by decide) km)
  have CB := Lib.hid (fun (W : World) (hW : Below w.heap.size w W) (hP : Pair W (w.heap.size + 1) m k) => by
    have := betweenDiv_any #[.pointer (some ⟨w.heap.size + 1, 0, none⟩)] #[.pointer (some ⟨w.heap.size + 1, 0, none⟩)] ⟨(divO k).1.toArray⟩ ⟨(divO m).1.toArray⟩ (divO k).2 (divO m).2 W
      (fun X hX => divLow_any m k (w.heap.size + 1) X (hst.next (below_nx hW hX)) (hP.below hX) hk) (fun X hX => divHigh_any m k (w.heap.size + 1) X (hst.next (below_nx hW hX)) (hP.below hX) hm)
    rw [hr, hf] at this
    exact this)
  have CM := fun W (hW : Below w.heap.size w W) => Lib.hid (eMul_any l h r1 r2 W (hst.next hW) hl hh hr1 hr2)
  unfold EndsPost at CM ⊢
  generalize endsP (chk2 l h r1 r2) (mulL l h r1 r2) (mulH l h r1 r2) = q at *
  generalize endsE (chk2 l h r1 r2) (mulL l h r1 r2) (mulH l h r1 r2) = f at *
  obtain ⟨q1, q2⟩ := q
  simp only [] at CM CB ⊢
  rw [h0] at CC
  clear hst h0 n1 n2 hr hf kl kh km kk
  unfold Four4 Two at *
  go_enter Tryz.func36, Tryz.ntmps36
  go_wp2_with fail
  refine (CC.out).mono ?_
  rintro e w1 ⟨rfl, hb1⟩
  have hB1 := Lib.hid (hB0.trans (hb1.mono hs))
  have FP1 := Lib.hid (FP.out.below hb1)
  have FQ1 := Lib.hid (FQ.out.below hb1)
  have FR1 := Lib.hid (FR.out.below hb1)
  clear hb1 FP FQ FR CC hB0 hs
  obtain ⟨b0, b1, b2, -, -⟩ := FQ1.out
  go_wp2_with fail
  clear b0 b1 b2
  refine ((C1 _ hB1.out).out).mono ?_
  rintro e w2 ⟨rfl, hb2⟩
  have hB2 := Lib.hid (below_nx hB1.out hb2)
  have FP2 := Lib.hid (FP1.out.below hb2)
  have FQ2 := Lib.hid (FQ1.out.below hb2)
  have FR2 := Lib.hid (FR1.out.below hb2)
  clear hb2 FP1 FQ1 FR1 hB1
  obtain ⟨b0, b1, b2, -, -⟩ := FQ2.out
  go_wp2_with fail
  clear b0 b1 b2
  refine ((C2 _ hB2.out).out).mono ?_
  rintro e w3 ⟨rfl, hb3⟩
  have hB3 := Lib.hid (below_nx hB2.out hb3)
  have FP3 := Lib.hid (FP2.out.below hb3)
  have FQ3 := Lib.hid (FQ2.out.below hb3)
  have FR3 := Lib.hid (FR2.out.below hb3)
  clear hb3 FP2 FQ2 FR2 hB2
  go_wp2_with fail
  refine (CB.out _ hB3.out FQ3.out).mono ?_
  rintro e w4 ⟨rfl, hb4⟩
  have hB4 := Lib.hid (below_nx hB3.out hb4)
  have FP4 := Lib.hid (FP3.out.below hb4)
  have FR4 := Lib.hid (FR3.out.below hb4)
  clear hb4 FP3 FQ3 FR3 hB3 CB
  obtain ⟨a0, a1, a2, -, -⟩ := FP4.out
  go_wp2_with fail
  clear a0 a1 a2
  have hal := Lib.hid ((Below.refl w4.heap.size w4).alloc (Nat.le_refl _) (.cells #[.string r1, .string r2] 24))
  refine ((CM _ (below_nx hB4.out hal.out)).out).mono ?_
  rintro e w5 ⟨rfl, hb5⟩
  have hB5 := below_nx (below_nx hB4.out hal.out) hb5
  obtain ⟨p0, p1, p2, p3, p4⟩ := FR4.out.below (below_nx hal.out hb5)
  clear hb5 hal hB4 FP4 FR4 CM
  go_wp2
  have hfin := (hB5.setCell (p := ⟨w.heap.size + 1 + 1, 0, none⟩) (by show w.heap.size ≤ w.heap.size + 1 + 1; omega) (.string q1)).setCell (p := ⟨w.heap.size + 1 + 1, 1, none⟩) (by show w.heap.size ≤ w.heap.size + 1 + 1; omega) (.string q2)
  exact bodyPost_ret (v := .tuple #[.agg #[.string q1, .string q2], .int .i64 f]) (by simp [results, Tryz.results36, go_sem, p1, p2]) rfl ⟨rfl, hfin⟩
end Go.Proofs.YtldclpdmcopgnaaGreatDoor
