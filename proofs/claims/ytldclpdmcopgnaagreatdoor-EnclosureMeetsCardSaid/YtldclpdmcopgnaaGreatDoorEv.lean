/- The contract of Mul of package enclosure. -/
import Derived.Test.YtldclpdmcopgnaaGreatDoorEu
namespace Go.Proofs.YtldclpdmcopgnaaGreatDoor
open Go.RowKit
theorem chk2_parts {l h m k : ByteArray} (h0 : chk2 l h m k = 0) : Fr.chk l.data.toList = 0 ∧ Fr.chk h.data.toList = 0 ∧ Fr.chk m.data.toList = 0 ∧ Fr.chk k.data.toList = 0 := by
  have one : ∀ {a b : List UInt8}, Fr.chkE a b = 0 → Fr.chk a = 0 ∧ Fr.chk b = 0 := by
    intro a b h
    unfold Fr.chkE at h
    by_cases h1 : Fr.chk a = 0
    · rw [if_neg (by simpa using h1)] at h
      by_cases h2 : Fr.chk b = 0
      · exact ⟨h1, h2⟩
      · rw [if_pos h2] at h; exact absurd h h2
    · rw [if_pos h1] at h; exact absurd h h1
  unfold chk2 at h0
  by_cases h1 : Fr.chkE l.data.toList h.data.toList = 0
  · rw [if_pos h1] at h0
    exact ⟨(one h1).1, (one h1).2, (one h0).1, (one h0).2⟩
  · rw [if_neg h1] at h0; exact absurd h0 h1
/-- What Mul returns of the first least and the first greatest product of the ends. -/
def mulL (l h m k : ByteArray) : List UInt8 × Int := mulO (cA l h (loI (cQ l h m k) 4)) (cB m k (loI (cQ l h m k) 4))
def mulH (l h m k : ByteArray) : List UInt8 × Int := mulO (cA l h (hiI (cQ l h m k) 4)) (cB m k (hiI (cQ l h m k) 4))
theorem cA_size {l h : ByteArray} {N : Nat} (hl : l.size ≤ N) (hh : h.size ≤ N) (i : Nat) : (cA l h i).size ≤ N := by
  match i with
  | 0 => exact hl
  | 1 => exact hl
  | _ + 2 => exact hh
theorem cB_size {m k : ByteArray} {N : Nat} (hm : m.size ≤ N) (hk : k.size ≤ N) (i : Nat) : (cB m k i).size ≤ N := by
  match i with
  | 0 => exact hm
  | 1 => exact hk
  | 2 => exact hm
  | _ + 3 => exact hk
set_option maxRecDepth 100000 in
set_option maxHeartbeats 4000000 in
theorem eMul_any (l h m k : ByteArray) (w : World) (hst : St w) (hl : l.size ≤ 800) (hh : h.size ≤ 800) (hm : m.size ≤ 800) (hk : k.size ≤ 800) :
    Calls Tryz.prog 34 #[.agg #[.string l, .string h], .agg #[.string m, .string k]] w
      (EndsPost w (chk2 l h m k) (mulL l h m k) (mulH l h m k)) := by
  have hB0 := four_below w l h m k
  have hs := hB0.size
  obtain ⟨HP, HQ, HR, HS⟩ := four_facts w l h m k
  have CC := Lib.hid (checkAll_any l h m k _ _ (hst.next hB0) HS hl hh hm hk)
  have FP := Lib.hid HP
  have FQ := Lib.hid HQ
  have FR := Lib.hid HR
  clear HP HQ HR HS
  have CX := Lib.hid (fun (h0 : chk2 l h m k = 0) W (hW : Below w.heap.size w W) => eExtremes_any l h m k W (hst.next hW) hl hh hm hk (chk2_parts h0).1 (chk2_parts h0).2.1 (chk2_parts h0).2.2.1 (chk2_parts h0).2.2.2)
  have CB := Lib.hid (fun (u v : Value) (W : World) (hW : Below w.heap.size w W) (hu : PrV W u (cA l h (loI (cQ l h m k) 4)) (cB m k (loI (cQ l h m k) 4))) (hv : PrV W v (cA l h (hiI (cQ l h m k) 4)) (cB m k (hiI (cQ l h m k) 4))) =>
    betweenMul_any u v ⟨(mulL l h m k).1.toArray⟩ ⟨(mulH l h m k).1.toArray⟩ (mulL l h m k).2 (mulH l h m k).2 W
      (fun X hX => vValue_any u _ _ X (hst.next (below_nx hW hX)) (hu.step hX) (cA_size hl hh _) (cB_size hm hk _))
      (fun X hX => vValue_any v _ _ X (hst.next (below_nx hW hX)) (hv.step hX) (cA_size hl hh _) (cB_size hm hk _)))
  generalize mulL l h m k = o at *
  generalize mulH l h m k = o' at *
  obtain ⟨x, c⟩ := o
  obtain ⟨y, d⟩ := o'
  clear hst
  unfold EndsPost endsP endsE
  by_cases h0 : chk2 l h m k = 0
  · have CX2 := Lib.hid (CX.out h0)
    rw [h0] at CC
    rw [if_pos h0, if_pos h0]
    simp only [] at CB ⊢
    generalize btwP ⟨x.toArray⟩ ⟨y.toArray⟩ c d = r at *
    generalize btwE c d = f at *
    obtain ⟨r1, r2⟩ := r
    simp only [] at CB ⊢
    clear h0 CX
    generalize cA l h (loI (cQ l h m k) 4) = p1 at *
    generalize cB m k (loI (cQ l h m k) 4) = p2 at *
    generalize cA l h (hiI (cQ l h m k) 4) = q1 at *
    generalize cB m k (hiI (cQ l h m k) 4) = q2 at *
    unfold Four4 Two at *
    go_enter Tryz.func34, Tryz.ntmps34
    go_wp2_with fail
    refine (CC.out).mono ?_
    rintro e w1 ⟨rfl, hb1⟩
    have hB1 := Lib.hid (hB0.trans (hb1.mono hs))
    have FR1 := Lib.hid (FR.out.below hb1)
    obtain ⟨a0, a1, a2, a3, a4⟩ := FP.out.below hb1
    obtain ⟨b0, b1, b2, b3, b4⟩ := FQ.out.below hb1
    clear hb1 FR FP FQ CC hB0 hs
    go_wp2_with fail
    clear a0 a1 a2 a3 a4 b0 b1 b2 b3 b4
    refine (CX2.out _ hB1.out).mono ?_
    rintro e w2 ⟨u, v, rfl, hu, hv, hb2⟩
    have hB2 := Lib.hid (below_nx hB1.out hb2)
    have FR2 := Lib.hid (FR1.out.below hb2)
    have HU := Lib.hid hu
    have HV := Lib.hid hv
    clear hb2 hB1 FR1 CX2
    obtain ⟨nu, de, rfl, hn1, hd1⟩ := hu
    obtain ⟨nv, ee, rfl, hn2, hd2⟩ := hv
    obtain ⟨an, ln, cn, rfl⟩ := isnat_form hn1
    obtain ⟨ad, ld, cd, rfl⟩ := isnat_form hd1
    obtain ⟨am, lm, cm, rfl⟩ := isnat_form hn2
    obtain ⟨ae, le, ce, rfl⟩ := isnat_form hd2
    clear hn1 hd1 hn2 hd2
    have hB3 := Lib.hid ((hB2.out.alloc hB2.out.size (.cells #[.string p1, .string p2, .int .i64 (Fr.sgnQ (Fr.rat p1.data.toList) * Fr.sgnQ (Fr.rat p2.data.toList)), .slice an ln cn, .slice ad ld cd] 94)).alloc (by have := hB2.out.size; simp; omega) (.cells #[.string q1, .string q2, .int .i64 (Fr.sgnQ (Fr.rat q1.data.toList) * Fr.sgnQ (Fr.rat q2.data.toList)), .slice am lm cm, .slice ae le ce] 94))
    have HBB := Lib.hid (((Below.refl w2.heap.size w2).alloc (Nat.le_refl _) (.cells #[.string p1, .string p2, .int .i64 (Fr.sgnQ (Fr.rat p1.data.toList) * Fr.sgnQ (Fr.rat p2.data.toList)), .slice an ln cn, .slice ad ld cd] 94)).alloc (by simp) (.cells #[.string q1, .string q2, .int .i64 (Fr.sgnQ (Fr.rat q1.data.toList) * Fr.sgnQ (Fr.rat q2.data.toList)), .slice am lm cm, .slice ae le ce] 94))
    go_wp2_with fail
    refine (CB.out (.agg #[.string p1, .string p2, .int .i64 (Fr.sgnQ (Fr.rat p1.data.toList) * Fr.sgnQ (Fr.rat p2.data.toList)), .slice an ln cn, .slice ad ld cd]) (.agg #[.string q1, .string q2, .int .i64 (Fr.sgnQ (Fr.rat q1.data.toList) * Fr.sgnQ (Fr.rat q2.data.toList)), .slice am lm cm, .slice ae le ce]) _ hB3.out (HU.out.step HBB.out) (HV.out.step HBB.out)).mono ?_
    rintro e w3 ⟨rfl, hb3⟩
    have hB4 := hB3.out.trans (hb3.mono hB3.out.size)
    obtain ⟨g0, g1, g2, g3, g4⟩ := FR2.out.below (below_nx HBB.out hb3)
    clear hb3 hB2 hB3 HBB FR2 HU HV CB
    go_wp2
    have hfin := (hB4.setCell (p := ⟨w.heap.size + 1 + 1, 0, none⟩) (by show w.heap.size ≤ w.heap.size + 1 + 1; omega) (.string r1)).setCell (p := ⟨w.heap.size + 1 + 1, 1, none⟩) (by show w.heap.size ≤ w.heap.size + 1 + 1; omega) (.string r2)
    exact bodyPost_ret (v := .tuple #[.agg #[.string r1, .string r2], .int .i64 f]) (by simp [results, Tryz.results34, go_sem, g1, g2]) rfl ⟨rfl, hfin⟩
  · rw [if_neg h0, if_neg h0]
    have hne : (chk2 l h m k != 0) = true := by simpa using h0
    generalize chk2 l h m k = f at *
    clear h0 CX CB
    unfold Four4 Two at *
    go_enter Tryz.func34, Tryz.ntmps34
    go_wp2_with fail
    refine (CC.out).mono ?_
    rintro e w1 ⟨rfl, hb1⟩
    have hB1 := hB0.trans (hb1.mono hs)
    obtain ⟨p0, p1, p2, p3, p4⟩ := FR.out.below hb1
    clear hb1 hB0 FR CC
    go_wp2
    have hfin := (hB1.setCell (p := ⟨w.heap.size + 1 + 1, 0, none⟩) (by simp; omega) (.string ⟨#[]⟩)).setCell (p := ⟨w.heap.size + 1 + 1, 1, none⟩) (by simp; omega) (.string ⟨#[]⟩)
    exact bodyPost_ret (v := .tuple #[.agg #[.string ⟨#[]⟩, .string ⟨#[]⟩], .int .i64 f]) (by simp [results, Tryz.results34, go_sem, p1, p2]) rfl ⟨rfl, hfin⟩

end Go.Proofs.YtldclpdmcopgnaaGreatDoor
