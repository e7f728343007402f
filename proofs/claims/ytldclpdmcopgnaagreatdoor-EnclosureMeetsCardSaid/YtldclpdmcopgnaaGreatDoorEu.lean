/- The contracts of the value of a product and of between with bound values. -/
import Derived.Test.YtldclpdmcopgnaaGreatDoorEs
namespace Go.Proofs.YtldclpdmcopgnaaGreatDoor
open Go.RowKit
/-- What Mul returns of two fractions. -/
def mulO (a b : ByteArray) : List UInt8 × Int := bi a.data.toList b.data.toList (Fr.out (Fr.rat a.data.toList * Fr.rat b.data.toList))
set_option maxRecDepth 100000 in
set_option maxHeartbeats 1000000 in
theorem vValue_any (v : Value) (a b : ByteArray) (w : World) (hst : St w) (hv : PrV w v a b) (ha : a.size ≤ 800) (hb : b.size ≤ 800) :
    Calls Tryz.prog 72 #[v] w (OutPost w (mulO a b)) := by
  obtain ⟨nu, de, rfl, hn, hd⟩ := hv
  obtain ⟨an, ln, cn, rfl⟩ := isnat_form hn
  obtain ⟨ad, ld, cd, rfl⟩ := isnat_form hd
  have CM := fun W (hW : Below w.heap.size w W) => Lib.hid (fMul_any a b W (hst.next hW) ha hb)
  have hB0 := Lib.hid ((Below.refl w.heap.size w).alloc (Nat.le_refl _) (.cells #[.string a, .string b, .int .i64 (Fr.sgnQ (Fr.rat a.data.toList) * Fr.sgnQ (Fr.rat b.data.toList)), .slice an ln cn, .slice ad ld cd] 94))
  unfold mulO
  generalize bi a.data.toList b.data.toList (Fr.out (Fr.rat a.data.toList * Fr.rat b.data.toList)) = o at *
  obtain ⟨x, c⟩ := o
  unfold OutPost at *
  simp only [] at *
  generalize (⟨x.toArray⟩ : ByteArray) = t at *
  generalize Fr.sgnQ (Fr.rat a.data.toList) * Fr.sgnQ (Fr.rat b.data.toList) = s at *
  clear hst hn hd
  go_enter Tryz.func72, Tryz.ntmps72
  go_wp2_with fail
  refine ((CM _ hB0.out).out).mono ?_
  rintro e w1 ⟨rfl, hb1⟩
  have HB1 := Lib.hid (below_nx hB0.out hb1)
  clear hb1 hB0 CM
  go_wp2
  go_ret2
  exact ⟨rfl, HB1.out⟩
set_option maxRecDepth 100000 in
set_option maxHeartbeats 1000000 in
theorem betweenMul_any (u v : Value) (x y : ByteArray) (c d : Int) (w : World)
    (CF : ∀ W, Below w.heap.size w W → Calls Tryz.prog 72 #[u] W fun e w' => e = .returned (.tuple #[.string x, .int .i64 c]) ∧ Below W.heap.size W w')
    (CG : ∀ W, Below w.heap.size w W → Calls Tryz.prog 72 #[v] W fun e w' => e = .returned (.tuple #[.string y, .int .i64 d]) ∧ Below W.heap.size W w') :
    Calls Tryz.prog 63 #[.func (.func 72) #[u] #[], .func (.func 72) #[v] #[]] w fun e w' => e = .returned (.tuple #[.agg #[.string (btwP x y c d).1, .string (btwP x y c d).2], .int .i64 (btwE c d)]) ∧ Below w.heap.size w w' := by
  have hB0 : Below w.heap.size w (w.alloc (.cells #[.string ⟨#[]⟩, .string ⟨#[]⟩] 24)) := (Below.refl _ _).alloc (Nat.le_refl _) _
  have HP := Lib.hid (pair_new w ⟨#[]⟩ ⟨#[]⟩ 24)
  have C1 := Lib.hid CF
  have C2 := Lib.hid CG
  clear CF CG
  unfold btwP btwE
  by_cases hc : c = 0
  · subst hc
    rw [if_pos rfl, if_pos rfl]
    by_cases hd : d = 0
    · subst hd
      rw [if_pos rfl]
      go_enter Tryz.func63, Tryz.ntmps63
      go_wp2_with fail
      refine (C1.out _ hB0).mono ?_
      rintro e w1 ⟨rfl, hb1⟩
      have HP1 := Lib.hid (HP.out.below hb1)
      have hB1 := hB0.trans (hb1.mono (by simp))
      go_wp2_with fail
      refine (C2.out _ hB1).mono ?_
      rintro e w2 ⟨rfl, hb2⟩
      obtain ⟨p0, p1, p2, p3, p4⟩ := HP1.out.below hb2
      have hB2 := hB1.trans (hb2.mono hB1.size)
      clear HP HP1 hB0 hB1 hb1 hb2 C1 C2
      go_wp2
      have hfin := (hB2.setCell (p := ⟨w.heap.size, 0, none⟩) (by simp) (.string x)).setCell (p := ⟨w.heap.size, 1, none⟩) (by simp) (.string y)
      exact bodyPost_ret (v := .tuple #[.agg #[.string x, .string y], .int .i64 0]) (by simp [results, Tryz.results63, go_sem, p1, p2]) rfl ⟨rfl, hfin⟩
    · rw [if_neg hd]
      have hne : (d != 0) = true := by simpa using hd
      clear hd
      go_enter Tryz.func63, Tryz.ntmps63
      go_wp2_with fail
      refine (C1.out _ hB0).mono ?_
      rintro e w1 ⟨rfl, hb1⟩
      have HP1 := Lib.hid (HP.out.below hb1)
      have hB1 := hB0.trans (hb1.mono (by simp))
      go_wp2_with fail
      refine (C2.out _ hB1).mono ?_
      rintro e w2 ⟨rfl, hb2⟩
      obtain ⟨p0, p1, p2, p3, p4⟩ := HP1.out.below hb2
      have hB2 := hB1.trans (hb2.mono hB1.size)
      clear HP HP1 hB0 hB1 hb1 hb2 C1 C2
      go_wp2
      have hfin := (hB2.setCell (p := ⟨w.heap.size, 0, none⟩) (by simp) (.string ⟨#[]⟩)).setCell (p := ⟨w.heap.size, 1, none⟩) (by simp) (.string ⟨#[]⟩)
      exact bodyPost_ret (v := .tuple #[.agg #[.string ⟨#[]⟩, .string ⟨#[]⟩], .int .i64 d]) (by simp [results, Tryz.results63, go_sem, p1, p2]) rfl ⟨rfl, hfin⟩
  · rw [if_neg hc, if_neg hc]
    have hne : (c != 0) = true := by simpa using hc
    clear hc
    go_enter Tryz.func63, Tryz.ntmps63
    go_wp2_with fail
    refine (C1.out _ hB0).mono ?_
    rintro e w1 ⟨rfl, hb1⟩
    obtain ⟨p0, p1, p2, p3, p4⟩ := HP.out.below hb1
    have hB1 := hB0.trans (hb1.mono (by simp))
    clear HP hB0 hb1 C1 C2
    go_wp2
    have hfin := (hB1.setCell (p := ⟨w.heap.size, 0, none⟩) (by simp) (.string ⟨#[]⟩)).setCell (p := ⟨w.heap.size, 1, none⟩) (by simp) (.string ⟨#[]⟩)
    exact bodyPost_ret (v := .tuple #[.agg #[.string ⟨#[]⟩, .string ⟨#[]⟩], .int .i64 c]) (by simp [results, Tryz.results63, go_sem, p1, p2]) rfl ⟨rfl, hfin⟩

end Go.Proofs.YtldclpdmcopgnaaGreatDoor
