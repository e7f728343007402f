/- The contract of Square of package enclosure. -/
import Derived.Test.YtldclpdmcopgnaaGreatDoorEx
import Derived.Deep.DeepCutAuto
namespace Go.Proofs.YtldclpdmcopgnaaGreatDoor
open Go.RowKit
theorem neg_ok {s : ByteArray} (h : Fr.chk s.data.toList = 0) : (negB s).size ≤ 800 ∧ Fr.chk (negB s).data.toList = 0 := by
  have hf : Fr.fits (-(Fr.rat s.data.toList)) = true := by
    have := Fr.fits_rat h
    unfold Fr.fits at this ⊢
    simpa using this
  have e : negB s = ⟨(Fr.text (-(Fr.rat s.data.toList))).toArray⟩ := by
    unfold negB Fr.out
    rw [if_pos hf]
  rw [e]
  have hl := Fr.text_len hf
  have hc := Fr.chk_text hf
  constructor
  · show (Fr.text (-(Fr.rat s.data.toList))).length ≤ 800
    omega
  · simpa using hc
set_option maxRecDepth 100000 in
set_option maxHeartbeats 1000000 in
theorem sqNear_any (t : ByteArray) (g : Nat) (w0 w : World) (hst : St w) (hv : V1 w0 w g t) (ht : t.size ≤ 800) : Calls Tryz.prog 77 #[.pointer (some ⟨g, 0, none⟩)] w (OutPost w (mulO t t)) := by
  have C := Lib.hid (fMul_any t t w hst ht ht)
  obtain ⟨-, p0, p1, p2⟩ := hv
  unfold mulO
  generalize bi t.data.toList t.data.toList (Fr.out (Fr.rat t.data.toList * Fr.rat t.data.toList)) = o at *
  obtain ⟨x, c⟩ := o
  unfold OutPost at *
  simp only [] at *
  generalize (⟨x.toArray⟩ : ByteArray) = y at *
  clear hst
  go_enter Tryz.func77, Tryz.ntmps77
  go_wp2_with fail
  refine (C.out).mono ?_
  rintro e w1 ⟨rfl, hb1⟩
  go_wp2
  go_ret2
  exact ⟨rfl, hb1⟩
set_option maxRecDepth 100000 in
set_option maxHeartbeats 1000000 in
theorem sqFar_any (t : ByteArray) (g : Nat) (w0 w : World) (hst : St w) (hv : V1 w0 w g t) (ht : t.size ≤ 800) : Calls Tryz.prog 78 #[.pointer (some ⟨g, 0, none⟩)] w (OutPost w (mulO t t)) := by
  have C := Lib.hid (fMul_any t t w hst ht ht)
  obtain ⟨-, p0, p1, p2⟩ := hv
  unfold mulO
  generalize bi t.data.toList t.data.toList (Fr.out (Fr.rat t.data.toList * Fr.rat t.data.toList)) = o at *
  obtain ⟨x, c⟩ := o
  unfold OutPost at *
  simp only [] at *
  generalize (⟨x.toArray⟩ : ByteArray) = y at *
  clear hst
  go_enter Tryz.func78, Tryz.ntmps78
  go_wp2_with fail
  refine (C.out).mono ?_
  rintro e w1 ⟨rfl, hb1⟩
  go_wp2
  go_ret2
  exact ⟨rfl, hb1⟩
theorem repl_false (n j : Nat) : (Array.replicate n false).getD j false = false := by
  rcases Nat.lt_or_ge j n with h | h <;> simp [Array.getD]
/-- The ends of Square: the nearest and the farthest number. -/
def nearB (l h : ByteArray) : ByteArray := greatB (greatB ⟨#[48]⟩ l) (negB h)
def farB (l h : ByteArray) : ByteArray := greatB (negB l) h
/-- What holds between two operations. -/
def SqI (w : World) (l h nl nh near far : ByteArray) (listed : Array Bool) (a : Act) (W : World) : Prop :=
  ∃ (L : Nat → Bool) (v : Nat → Value), (∀ j, listed.getD j false = L j) ∧ a = ⟨#[.agg #[.string l, .string h], .pointer (some ⟨w.heap.size, 0, none⟩), .pointer (some ⟨w.heap.size + 1, 0, none⟩), .int .i64 0, .int .i64 0, v 5, v 6, .agg #[.string l, .string h], .int .i64 0, .int .i64 0, .bool false, undef, undef, v 13, v 14, v 15, v 16, v 17, v 18, v 19, v 20, v 21, v 22, v 23, v 24, v 25, v 26, undef, undef, undef, undef, undef], []⟩ ∧ SqC w l h nl nh near far L v W
set_option maxRecDepth 100000 in
set_option maxHeartbeats 8000000 in
theorem eSquare_any (l h : ByteArray) (w : World) (hst : St w) (hl : l.size ≤ 800) (hh : h.size ≤ 800) :
    Calls Tryz.prog 38 #[.agg #[.string l, .string h]] w (EndsPost w (Fr.chkE l.data.toList h.data.toList) (mulO (nearB l h) (nearB l h)) (mulO (farB l h) (farB l h))) := by
  have CC := fun W (hW : Below w.heap.size w W) => Lib.hid (eCheck_any l h W (hst.next hW) hl hh)
  have hB0 := Lib.hid (((Below.refl w.heap.size w).alloc (Nat.le_refl _) (.cells #[.string l, .string h] 24)).alloc (by simp) (.cells #[.string ⟨#[]⟩, .string ⟨#[]⟩] 24))
  have hbox := Lib.hid (pair_next w l h ⟨#[]⟩ ⟨#[]⟩ 24 24)
  by_cases h0 : Fr.chkE l.data.toList h.data.toList = 0
  · have hk : Fr.chk l.data.toList = 0 ∧ Fr.chk h.data.toList = 0 := by
      have h2 : chk2 l h l h = 0 := by unfold chk2; rw [if_pos h0, h0]
      exact ⟨(chk2_parts h2).1, (chk2_parts h2).2.1⟩
    obtain ⟨kl, kh⟩ := hk
    have n1 := neg_ok kl
    have n2 := neg_ok kh
    have CL := fun W (hW : Below w.heap.size w W) => Lib.hid (eOpp_any l W (hst.next hW) hl kl)
    have CN := fun W (hW : Below w.heap.size w W) => Lib.hid (eOpp_any h W (hst.next hW) hh kh)
    have CG2 := fun W g (hW : Below w.heap.size w W) (hg : g < W.heap.size) (c0 : W.cell? ⟨g, 0, none⟩ = some (.string l)) (c1 : W.cell? ⟨g, 1, none⟩ = some (.string (negB h))) =>
      Lib.hid (show Calls Tryz.prog 57 #[.string ⟨#[48]⟩, .slice (some ⟨g, 0, none⟩) 2 2] W fun e w' => e = .returned (.string (nearB l h)) ∧ Below W.heap.size W w' from
        greatest_any ⟨#[48]⟩ [l, negB h] g W (hst.next hW) hg (fun i hi => by
          have h4 : i = 0 ∨ i = 1 := by simp at hi; omega
          rcases h4 with rfl | rfl
          · exact c0
          · exact c1) ⟨by decide, by decide⟩ (fun x hx => by
          simp only [List.mem_cons, List.not_mem_nil, or_false] at hx
          rcases hx with rfl | rfl
          · exact ⟨hl, kl⟩
          · exact n2) (by simp))
    have CG1 := fun W g (hW : Below w.heap.size w W) (hg : g < W.heap.size) (c0 : W.cell? ⟨g, 0, none⟩ = some (.string h)) =>
      Lib.hid (show Calls Tryz.prog 57 #[.string (negB l), .slice (some ⟨g, 0, none⟩) 1 1] W fun e w' => e = .returned (.string (farB l h)) ∧ Below W.heap.size W w' from
        greatest_any (negB l) [h] g W (hst.next hW) hg (fun i hi => by
          have h4 : i = 0 := by simp at hi; omega
          rw [h4]; exact c0) n1 (fun x hx => by
          simp only [List.mem_cons, List.not_mem_nil, or_false] at hx
          rw [hx]; exact ⟨hh, kh⟩) (by simp))
    have hns : (nearB l h).size ≤ 800 := by
      unfold nearB
      rcases greatB_or (greatB ⟨#[48]⟩ l) (negB h) with e | e <;> rw [e]
      · rcases greatB_or ⟨#[48]⟩ l with e | e <;> rw [e]
        · decide
        · exact hl
      · exact n2.1
    have hfs : (farB l h).size ≤ 800 := by
      unfold farB
      rcases greatB_or (negB l) h with e | e <;> rw [e]
      · exact n1.1
      · exact hh
    have CQ1 := Lib.hid (fun g W (hW : Below w.heap.size w W) (hv : V1 w W g (nearB l h)) => sqNear_any (nearB l h) g w W (hst.next hW) hv hns)
    have CQ2 := Lib.hid (fun g W (hW : Below w.heap.size w W) (hv : V1 w W g (farB l h)) => sqFar_any (farB l h) g w W (hst.next hW) hv hfs)
    rw [h0] at CC ⊢
    clear hst h0 kl kh n1 n2 hns hfs
    generalize negB l = nl at *
    generalize negB h = nh at *
    generalize nearB l h = near at *
    generalize farB l h = far at *
    generalize mulO near near = o at *
    generalize mulO far far = o' at *
    obtain ⟨x, c⟩ := o
    obtain ⟨y, d⟩ := o'
    unfold EndsPost endsP endsE
    rw [if_pos rfl, if_pos rfl]
    simp only []
    generalize hr : btwP ⟨x.toArray⟩ ⟨y.toArray⟩ c d = r
    generalize hf : btwE c d = f
    obtain ⟨r1, r2⟩ := r
    simp only []
    have HRr := Lib.hid hr
    have HFf := Lib.hid hf
    clear hr hf
    go_enter Tryz.func38, Tryz.ntmps38
    go_wp2_with fail
    refine ((CC _ hB0.out).out).mono ?_
    rintro e w1 ⟨rfl, hb1⟩
    have HB1 := Lib.hid (hB0.out.trans (hb1.mono hB0.out.size))
    have HP1 := Lib.hid (hbox.out.1.below hb1)
    have HR1 := Lib.hid (hbox.out.2.below hb1)
    clear hb1 CC hB0 hbox
    go_wp2_with fail
    go_cut [5, 6] (fun s5 s6 wx => ∃ g5 g6, s5 = .pointer (some ⟨g5, 0, none⟩) ∧ s6 = .pointer (some ⟨g6, 0, none⟩) ∧ Hid (Below w.heap.size w wx ∧ Pair wx (w.heap.size + 1) ⟨#[]⟩ ⟨#[]⟩ ∧ V1 w wx g5 near ∧ V1 w wx g6 far))
    case first =>
      refine wp_region_noPanic ?_
      refine wp_region_any (by kernel_rfl) ?_
      refine wpAny_inv (I := SqI w l h nl nh near far) (by kernel_rfl) ?_ ?_ 18 (Array.replicate 18 false) _ _ (by decide) (by kernel_rfl) ⟨fun _ => false, fun _ => undef, fun j => repl_false 18 j, rfl, ?_⟩
      · rintro listed a W ⟨L, v, hL, rfl, c⟩ i o ho hf hpre K' hK
        have hi : i < 18 := by
          apply Classical.byContradiction
          intro hn
          rw [Array.getElem?_eq_none (by simpa using hn)] at ho
          cases ho
        have N6 := fun (h : L 6 = false) => show L 16 = false by cases e : L 16 with | false => rfl | true => rw [(c.c16 e).1] at h; cases h
        have N13 := fun (h : L 13 = false) => show L 16 = false by cases e : L 16 with | false => rfl | true => rw [(c.c16 e).2.1] at h; cases h
        have N14 := fun (h : L 14 = false) => show L 16 = false by cases e : L 16 with | false => rfl | true => rw [(c.c16 e).2.2] at h; cases h
        have N15 := fun (h : L 15 = false) => show L 17 = false by cases e : L 17 with | false => rfl | true => rw [(c.c17 e).2] at h; cases h
        have hcs : i = 0 ∨ i = 1 ∨ i = 2 ∨ i = 3 ∨ i = 4 ∨ i = 5 ∨ i = 6 ∨ i = 7 ∨ i = 8 ∨ i = 9 ∨ i = 10 ∨ i = 11 ∨ i = 12 ∨ i = 13 ∨ i = 14 ∨ i = 15 ∨ i = 16 ∨ i = 17 := by omega
        rcases hcs with rfl | rfl | rfl | rfl | rfl | rfl | rfl | rfl | rfl | rfl | rfl | rfl | rfl | rfl | rfl | rfl | rfl | rfl
        · obtain rfl := Option.some.inj ho
          go_simp
          refine hK.out _ _ ⟨upd L 0 true, upd v 13 (.pointer (some ⟨w.heap.size, 0, none⟩)), getD_upd hL hf, ?_, c.put 0 (by omega) (by omega) (by omega) _ rfl⟩
          first | rfl | simp [upd]
        · obtain rfl := Option.some.inj ho
          have p0 : L 0 = true := by rw [← hL]; exact hpre ⟨0, .data⟩ (by simp) (by rfl)
          have e13 : v 13 = .pointer (some ⟨w.heap.size, 0, none⟩) := c.val 0 _ p0 rfl
          obtain ⟨bz, b0, b1, -, -⟩ := c.box
          go_simp
          refine hK.out _ _ ⟨upd L 1 true, upd v 14 (.string l), getD_upd hL hf, ?_, c.put 1 (by omega) (by omega) (by omega) _ rfl⟩
          first | rfl | simp [upd, e13]
        · obtain rfl := Option.some.inj ho
          go_simp
          refine hK.out _ _ ⟨upd L 2 true, upd v 15 (.pointer (some ⟨w.heap.size, 1, none⟩)), getD_upd hL hf, ?_, c.put 2 (by omega) (by omega) (by omega) _ rfl⟩
          first | rfl | simp [upd]
        · obtain rfl := Option.some.inj ho
          have p2 : L 2 = true := by rw [← hL]; exact hpre ⟨2, .data⟩ (by simp) (by rfl)
          have e15 : v 15 = .pointer (some ⟨w.heap.size, 1, none⟩) := c.val 2 _ p2 rfl
          obtain ⟨bz, b0, b1, -, -⟩ := c.box
          go_simp
          refine hK.out _ _ ⟨upd L 3 true, upd v 16 (.string h), getD_upd hL hf, ?_, c.put 3 (by omega) (by omega) (by omega) _ rfl⟩
          first | rfl | simp [upd, e15]
        · obtain rfl := Option.some.inj ho
          have p3 : L 3 = true := by rw [← hL]; exact hpre ⟨3, .data⟩ (by simp) (by rfl)
          have e16 : v 16 = .string h := c.val 3 _ p3 rfl
          go_simp
          (with_reducible refine ((CN W c.bel).out).mono ?_)
          rintro e wn ⟨rfl, hb⟩
          go_simp
          refine hK.out _ _ ⟨upd L 4 true, upd v 17 (.string nh), getD_upd hL hf, ?_, (c.step hb).put 4 (by omega) (by omega) (by omega) _ rfl⟩
          first | rfl | simp [upd, e16]
        · obtain rfl := Option.some.inj ho
          have p1 : L 1 = true := by rw [← hL]; exact hpre ⟨1, .data⟩ (by simp) (by rfl)
          have p4 : L 4 = true := by rw [← hL]; exact hpre ⟨4, .data⟩ (by simp) (by rfl)
          have e14 : v 14 = .string l := c.val 1 _ p1 rfl
          have e17 : v 17 = .string nh := c.val 4 _ p4 rfl
          go_simp
          refine hK.out _ _ ⟨upd L 5 true, upd v 18 (.slice (some ⟨W.heap.size, 0, none⟩) 2 2), getD_upd hL hf, ?_, (c.step ((Below.refl _ _).alloc (Nat.le_refl _) _)).put5 W.heap.size (by simp) (by simp) (by simp)⟩
          first | rfl | simp [upd, e14, e17]
        · obtain rfl := Option.some.inj ho
          have p5 : L 5 = true := by rw [← hL]; exact hpre ⟨5, .data⟩ (by simp) (by rfl)
          obtain ⟨g, e18, hg, c0, c1⟩ := c.two p5 (N6 (val_of hL hf))
          go_simp
          (with_reducible refine ((CG2 W g c.bel hg c0 c1).out).mono ?_)
          rintro e wn ⟨rfl, hb⟩
          go_simp
          refine hK.out _ _ ⟨upd L 6 true, upd v 19 (.string near), getD_upd hL hf, ?_, (c.step hb).put 6 (by omega) (by omega) (by omega) _ rfl⟩
          first | rfl | simp [upd, e18]
        · obtain rfl := Option.some.inj ho
          go_simp
          refine hK.out _ _ ⟨upd L 7 true, upd v 20 (.pointer (some ⟨w.heap.size, 0, none⟩)), getD_upd hL hf, ?_, c.put 7 (by omega) (by omega) (by omega) _ rfl⟩
          first | rfl | simp [upd]
        · obtain rfl := Option.some.inj ho
          have p7 : L 7 = true := by rw [← hL]; exact hpre ⟨7, .data⟩ (by simp) (by rfl)
          have e20 : v 20 = .pointer (some ⟨w.heap.size, 0, none⟩) := c.val 7 _ p7 rfl
          obtain ⟨bz, b0, b1, -, -⟩ := c.box
          go_simp
          refine hK.out _ _ ⟨upd L 8 true, upd v 21 (.string l), getD_upd hL hf, ?_, c.put 8 (by omega) (by omega) (by omega) _ rfl⟩
          first | rfl | simp [upd, e20]
        · obtain rfl := Option.some.inj ho
          have p8 : L 8 = true := by rw [← hL]; exact hpre ⟨8, .data⟩ (by simp) (by rfl)
          have e21 : v 21 = .string l := c.val 8 _ p8 rfl
          go_simp
          (with_reducible refine ((CL W c.bel).out).mono ?_)
          rintro e wn ⟨rfl, hb⟩
          go_simp
          refine hK.out _ _ ⟨upd L 9 true, upd v 22 (.string nl), getD_upd hL hf, ?_, (c.step hb).put 9 (by omega) (by omega) (by omega) _ rfl⟩
          first | rfl | simp [upd, e21]
        · obtain rfl := Option.some.inj ho
          go_simp
          refine hK.out _ _ ⟨upd L 10 true, upd v 23 (.pointer (some ⟨w.heap.size, 1, none⟩)), getD_upd hL hf, ?_, c.put 10 (by omega) (by omega) (by omega) _ rfl⟩
          first | rfl | simp [upd]
        · obtain rfl := Option.some.inj ho
          have p10 : L 10 = true := by rw [← hL]; exact hpre ⟨10, .data⟩ (by simp) (by rfl)
          have e23 : v 23 = .pointer (some ⟨w.heap.size, 1, none⟩) := c.val 10 _ p10 rfl
          obtain ⟨bz, b0, b1, -, -⟩ := c.box
          go_simp
          refine hK.out _ _ ⟨upd L 11 true, upd v 24 (.string h), getD_upd hL hf, ?_, c.put 11 (by omega) (by omega) (by omega) _ rfl⟩
          first | rfl | simp [upd, e23]
        · obtain rfl := Option.some.inj ho
          have p11 : L 11 = true := by rw [← hL]; exact hpre ⟨11, .data⟩ (by simp) (by rfl)
          have e24 : v 24 = .string h := c.val 11 _ p11 rfl
          go_simp
          refine hK.out _ _ ⟨upd L 12 true, upd v 25 (.slice (some ⟨W.heap.size, 0, none⟩) 1 1), getD_upd hL hf, ?_, (c.step ((Below.refl _ _).alloc (Nat.le_refl _) _)).put12 W.heap.size (by simp) (by simp)⟩
          first | rfl | simp [upd, e24]
        · obtain rfl := Option.some.inj ho
          have p9 : L 9 = true := by rw [← hL]; exact hpre ⟨9, .data⟩ (by simp) (by rfl)
          have p12 : L 12 = true := by rw [← hL]; exact hpre ⟨12, .data⟩ (by simp) (by rfl)
          have e22 : v 22 = .string nl := c.val 9 _ p9 rfl
          obtain ⟨g, e25, hg, c0⟩ := c.one p12 (N13 (val_of hL hf))
          go_simp
          (with_reducible refine ((CG1 W g c.bel hg c0).out).mono ?_)
          rintro e wn ⟨rfl, hb⟩
          go_simp
          refine hK.out _ _ ⟨upd L 13 true, upd v 26 (.string far), getD_upd hL hf, ?_, (c.step hb).put 13 (by omega) (by omega) (by omega) _ rfl⟩
          first | rfl | simp [upd, e22, e25]
        · obtain rfl := Option.some.inj ho
          go_simp
          refine hK.out _ _ ⟨upd L 14 true, upd v 5 (.pointer (some ⟨W.heap.size, 0, none⟩)), getD_upd hL hf, ?_, (c.step ((Below.refl _ _).alloc (Nat.le_refl _) _)).put14 W.heap.size (N14 (val_of hL hf)) ⟨by have := c.res.1; omega, by simp, by simp, by simp⟩ (fun hl k hk e => ?_)⟩
          · first | rfl | simp [upd]
          · obtain ⟨g, e6, hv6⟩ := c.v6 hl
            rw [e6] at hk
            have hk2 : g = k := by simpa using hk
            have := hv6.2.1
            omega
        · obtain rfl := Option.some.inj ho
          go_simp
          refine hK.out _ _ ⟨upd L 15 true, upd v 6 (.pointer (some ⟨W.heap.size, 0, none⟩)), getD_upd hL hf, ?_, (c.step ((Below.refl _ _).alloc (Nat.le_refl _) _)).put15 W.heap.size (N15 (val_of hL hf)) ⟨by have := c.res.1; omega, by simp, by simp, by simp⟩ (fun hl k hk e => ?_)⟩
          · first | rfl | simp [upd]
          · obtain ⟨g, e5, hv5⟩ := c.v5 hl
            rw [e5] at hk
            have hk2 : g = k := by simpa using hk
            have := hv5.2.1
            omega
        · obtain rfl := Option.some.inj ho
          have p14 : L 14 = true := by rw [← hL]; exact hpre ⟨14, .data⟩ (by simp) (by rfl)
          have p15 : L 15 = true := by rw [← hL]; exact hpre ⟨15, .phase⟩ (by simp) (by rfl)
          have p6 : L 6 = true := by rw [← hL]; exact hpre ⟨6, .data⟩ (by simp) (by rfl)
          have p13 : L 13 = true := by rw [← hL]; exact hpre ⟨13, .chain⟩ (by simp) (by rfl)
          have e19 : v 19 = .string near := c.val 6 _ p6 rfl
          obtain ⟨g, e5, hv5⟩ := c.v5 p14
          rw [val_of hL hf] at hv5
          obtain ⟨h1, h2, h3, h4⟩ := id hv5
          go_simp
          refine hK.out _ _ ⟨upd L 16 true, v, getD_upd hL hf, ?_, c.put16 p6 p13 p14 p15 g e5 hv5⟩
          first | rfl | simp [e5, e19]
        · obtain rfl := Option.some.inj ho
          have p15 : L 15 = true := by rw [← hL]; exact hpre ⟨15, .data⟩ (by simp) (by rfl)
          have p14 : L 14 = true := by rw [← hL]; exact hpre ⟨14, .phase⟩ (by simp) (by rfl)
          have p16 : L 16 = true := by rw [← hL]; exact hpre ⟨16, .chain⟩ (by simp) (by rfl)
          have p13 : L 13 = true := by rw [← hL]; exact hpre ⟨13, .data⟩ (by simp) (by rfl)
          have e26 : v 26 = .string far := c.val 13 _ p13 rfl
          obtain ⟨g, e6, hv6⟩ := c.v6 p15
          obtain ⟨h1, h2, h3, h4⟩ := id hv6
          go_simp
          refine hK.out _ _ ⟨upd L 17 true, v, getD_upd hL hf, ?_, c.put17 p16 p14 p15 g e6 hv6⟩
          first | rfl | simp [e6, e26]
      · rintro listed a W ⟨L, v, hL, rfl, c⟩ hall
        have p14 : L 14 = true := by rw [← hL]; exact hall 14 (by decide)
        have p15 : L 15 = true := by rw [← hL]; exact hall 15 (by decide)
        have p16 : L 16 = true := by rw [← hL]; exact hall 16 (by decide)
        have p17 : L 17 = true := by rw [← hL]; exact hall 17 (by decide)
        obtain ⟨g5, e5, hv5⟩ := c.v5 p14
        obtain ⟨g6, e6, hv6⟩ := c.v6 p15
        rw [p16, if_pos rfl] at hv5
        rw [p17, if_pos rfl] at hv6
        have HE := Lib.hid (show ∃ x5 x6, v 5 = .pointer (some ⟨x5, 0, none⟩) ∧ v 6 = .pointer (some ⟨x6, 0, none⟩) ∧ Hid (Below w.heap.size w W ∧ Pair W (w.heap.size + 1) ⟨#[]⟩ ⟨#[]⟩ ∧ V1 w W x5 near ∧ V1 w W x6 far) from ⟨g5, g6, e5, e6, Lib.hid ⟨c.bel, c.res, hv5, hv6⟩⟩)
        clear e5 e6 hv5 hv6 hall p14 p15 p16 p17 hL
        refine NoPanic.normal ?_
        go_wp2_with fail
        go_meet
        exact HE.out
      · exact ⟨HB1.out.drew, HP1.out, HR1.out, fun j x hj => (by cases hj), fun hj => (by cases hj), fun hj => (by cases hj), fun hj => (by cases hj), fun hj => (by cases hj), fun hj => (by cases hj), fun hj => (by cases hj), fun hj => (by cases hj)⟩
    case rest =>
      obtain ⟨g5, g6, rfl, rfl, HF⟩ := hcut
      have CF := fun X (hX : Below wc.heap.size wc X) => CQ1.out g5 X (below_nx HF.out.1 hX) (HF.out.2.2.1.step hX)
      have CG := fun X (hX : Below wc.heap.size wc X) => CQ2.out g6 X (below_nx HF.out.1 hX) (HF.out.2.2.2.step hX)
      have CB := (betweenSquare_any #[.pointer (some ⟨g5, 0, none⟩)] #[.pointer (some ⟨g6, 0, none⟩)] ⟨x.toArray⟩ ⟨y.toArray⟩ c d wc CF CG)
      rw [HRr.out, HFf.out] at CB
      have CB := Lib.hid CB
      clear CF CG CQ1 CQ2 CL CN CG1 CG2
      go_wp2_with fail
      refine (CB.out).mono ?_
      rintro e w2 ⟨rfl, hb2⟩
      have hB2 := below_nx HF.out.1 hb2
      obtain ⟨p0, p1, p2, p3, p4⟩ := HF.out.2.1.below hb2
      clear hb2 HF CB
      go_wp2
      have hfin := (hB2.setCell (p := ⟨w.heap.size + 1, 0, none⟩) (by show w.heap.size ≤ w.heap.size + 1; omega) (.string r1)).setCell (p := ⟨w.heap.size + 1, 1, none⟩) (by show w.heap.size ≤ w.heap.size + 1; omega) (.string r2)
      exact bodyPost_ret (v := .tuple #[.agg #[.string r1, .string r2], .int .i64 f]) (by simp [results, Tryz.results38, go_sem, p1, p2]) rfl ⟨rfl, hfin⟩
  · unfold EndsPost endsP endsE
    rw [if_neg h0, if_neg h0]
    have hne : (Fr.chkE l.data.toList h.data.toList != 0) = true := by simpa using h0
    generalize Fr.chkE l.data.toList h.data.toList = f at *
    clear h0 hst
    go_enter Tryz.func38, Tryz.ntmps38
    go_wp2_with fail
    refine ((CC _ hB0.out).out).mono ?_
    rintro e w1 ⟨rfl, hb1⟩
    have hB1 := hB0.out.trans (hb1.mono hB0.out.size)
    obtain ⟨p0, p1, p2, p3, p4⟩ := hbox.out.2.below hb1
    clear hb1 hB0 CC hbox
    go_wp2
    have hfin := (hB1.setCell (p := ⟨w.heap.size + 1, 0, none⟩) (by show w.heap.size ≤ w.heap.size + 1; omega) (.string ⟨#[]⟩)).setCell (p := ⟨w.heap.size + 1, 1, none⟩) (by show w.heap.size ≤ w.heap.size + 1; omega) (.string ⟨#[]⟩)
    exact bodyPost_ret (v := .tuple #[.agg #[.string ⟨#[]⟩, .string ⟨#[]⟩], .int .i64 f]) (by simp [results, Tryz.results38, go_sem, p1, p2]) rfl ⟨rfl, hfin⟩
end Go.Proofs.YtldclpdmcopgnaaGreatDoor
