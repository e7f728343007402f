/- Apply of the reference. -/
import Derived.Test.YtecfbncfhehdcaaDoorRH
namespace Go.Proofs.YtecfbncfhehdcaaDoor
open Go.RowKit
set_option maxHeartbeats 8000000 in
set_option maxRecDepth 100000 in
theorem rAft_any (v ev : Value) (l : List Sk.Str) (n : Int) (E : List Bool) (w : World) (hs : SeeK w v l) (he : SeeB w ev E) (hnil : ∀ n c, ev = .slice none n c → c = 0) (hR : Sk.RtL l) (hsu : Sk.sui l E = true) (hE6 : E.length ≤ 6) : Calls Tryd.prog 77 #[.agg #[v, .int .i64 n], ev] w fun e w' => ∃ u, e = .returned u ∧ SeeB w' u (Sk.aft l E) ∧ Below w.heap.size w w' := by
  obtain ⟨i0, hi0, hz0, hz1, hz2⟩ := info_bool
  have HEs := Lib.hid he
  have HN := Lib.hid hnil
  obtain ⟨ao, cap, rfl, hcap1, hcap2, hC⟩ := hs
  obtain ⟨eo, ecap, rfl, hecap1, hecap2, hCE⟩ := he
  have HC := Lib.hid hC
  obtain ⟨P0, L0, z0⟩ := boxP_new w (.slice ao l.length cap) (.int .i64 n) 70
  have HP := Lib.hid P0
  have HB := Lib.hid (L0.alloc L0.size (.cells #[] 4))
  have hz := HB.out.size
  have HSA := Lib.hid (HEs.out.step HB.out)
  have HR := Lib.hid (show RowB (w.heap.size + 1) 4 ((w.alloc (.cells #[.slice ao l.length cap, .int .i64 n] 70)).alloc (.cells #[] 4)) (.slice (some ⟨w.heap.size + 1, 0, none⟩) 0 0) [] from ⟨rfl, .inr ⟨w.heap.size + 1, 0, #[], rfl, Nat.le_refl _, by rw [← z0]; exact heap_alloc_new _ _, Nat.le_refl _, by decide, rfl, rfl⟩⟩)
  have hsui := Sk.sui_iff.1 hsu
  have HAct := Lib.hid (fun i (hi : i < l.length) => show ∃ (k : Nat) (o : Bool), l.getD i Sk.d0 = ((k : Int), o) ∧ k < E.length from by
    obtain ⟨k, hk⟩ := Int.eq_ofNat_of_zero_le (hR.act i hi).1
    refine ⟨k, (l.getD i Sk.d0).2, Prod.ext hk rfl, ?_⟩
    have h := hsui i hi
    unfold Sk.sui1 at h
    rw [Bool.and_eq_true, decide_eq_true_iff] at h
    have := h.1
    omega)
  have hE0 : 0 < E.length := by
    obtain ⟨k, o, -, hk⟩ := HAct.out 0 hR.pos
    omega
  have hl6 := hR.le6
  have HT := Lib.hid (fun i (hi : i < l.length) => Sk.aft_take hi E)
  have HLn := Lib.hid (fun i => Sk.aft_len (l.take i) E)
  have HAll : Hid (Sk.aft l E = Sk.aft (l.take l.length) E) := Lib.hid (by rw [List.take_length])
  have HXA := Lib.hid (P0.step (allocB _ (.cells #[] 4)))
  clear hsu hsui hR hnil hC hCE P0 L0 z0 HEs HP
  obtain ⟨p0, p1, p2⟩ := HXA.out
  go_enter Tryd.func77, Tryd.ntmps77
  go_wp2_with (at_builtin; refine wpList_append_bools rfl _ _ 49 rfl 4 i0 Tryd.underlying49 hi0 hz0 hz1 hz2 _ _ [] E rfl rfl (w.heap.size + 1) HR.out HSA.out HN.out (by simp; omega) (by simp) ?_; intro v5 w5 hr5 hb5; rw [List.nil_append] at hr5; obtain ⟨g, cp, rfl, hg1, hg2⟩ := hr5.form hE0; have HR5 := Lib.hid hr5; have HB5 := Lib.hid (HB.out.trans (hb5.mono (by omega))); have HX5 := Lib.hid (HXA.out.below (B := w.heap.size + 1) (by omega) hb5); clear hr5 hb5)
  go_loopw [6] (fun s6 wr => ∃ i : Nat, i ≤ l.length ∧ s6 = .int .i64 (i : Int) ∧ Hid (RowB (w.heap.size + 1) 4 wr (.slice (some ⟨g, 0, none⟩) E.length cp) (Sk.aft (l.take i) E)) ∧ Hid (Below w.heap.size w wr) ∧ Hid (BoxP wr w.heap.size (.slice ao l.length cap) (.int .i64 n))) (fun s6 _ => l.length - (intOf s6).toNat)
  case atStart => exact ⟨0, Nat.zero_le _, rfl, by simpa [Sk.aft] using HR5, HB5, HX5⟩
  case round =>
    clear HR5 HB5 HX5
    obtain ⟨i, hi, rfl, HRW, HBW, HX⟩ := hrel
    obtain ⟨x0, x1, x2⟩ := HX.out
    have hwi : IntKind.i64.wrap (i : Int) = (i : Int) := IntWalk.i64_in _ (by omega)
    by_cases hil : i < l.length
    · obtain ⟨gs, off, rfl, hgs, c1, c2⟩ := HC.out.at HBW.out hil
      obtain ⟨k, o, hko, hk⟩ := HAct.out i hil
      have HTi := Lib.hid (HT.out i hil)
      have hln := HLn.out i
      clear HT HLn HAct
      rw [hko] at c1 c2 HTi
      generalize Sk.aft (l.take i) E = F at *
      rw [← hln] at hk
      rw [← hln] at HRW
      obtain ⟨d1, d2⟩ := HRW.out.at hk
      have HR1 := Lib.hid (HRW.out.put k o)
      have HB1 := Lib.hid (HBW.out.setCell (p := ⟨g, k, none⟩) (by show w.heap.size ≤ g; omega) (.bool o))
      have HX1 := Lib.hid (HX.out.other (k := g) (o := k) (by omega) (.bool o))
      have hkz : (k : Int) < (E.length : Int) := by omega
      have hT2 : Hid (Sk.aft (l.take (i + 1)) E = F.set k o) := Lib.hid (by rw [HTi.out]; simp)
      clear HRW HBW HTi
      generalize F.getD k false = f at *
      go_wp2
      go_region
      go_wp2
      refine ⟨⟨i + 1, by omega, by first | rfl | go_num, ?_, Lib.hid (HB1.out.trans (Below.refl _ _).drew), Lib.hid (HX1.out.step (Below.refl _ _).drew)⟩, by simp [intOf]; omega⟩
      rw [hT2.out, ← hln]; exact Lib.hid (HR1.out.step (Below.refl _ _).drew)
    · have hii : i = l.length := by omega
      subst hii
      have hln := HLn.out l.length
      have HSe := Lib.hid (show SeeB wr (.slice (some ⟨g, 0, none⟩) E.length cp) (Sk.aft l E) by rw [HAll.out, ← hln]; exact (show RowB (w.heap.size + 1) 4 wr (.slice (some ⟨g, 0, none⟩) (Sk.aft (l.take l.length) E).length cp) (Sk.aft (l.take l.length) E) by rw [hln]; exact HRW.out).sees)
      clear HT HLn HAct
      go_wp2
      go_ret
      exact ⟨_, rfl, HSe.out, HBW.out⟩
def AppR (q : List Bool × Int) (w : World) (e : Ending) (w' : World) : Prop := ∃ ao cap, e = .returned (.tuple #[.slice ao q.1.length cap, .int .i64 q.2]) ∧ SeeB w' (.slice ao q.1.length cap) q.1 ∧ Below w.heap.size w w'
theorem sApp_form (v ev : Value) (l : List Sk.Str) (n : Int) (E : List Bool) (w : World) (hs : SeeK w v l) (he : SeeB w ev E) : Calls Tryd.prog 37 #[.agg #[v, .int .i64 n], ev] w (AppR (Sk.appV l n E) w) :=
  (sApp_any v ev l n E w hs he).mono (by rintro e w' ⟨u, rfl, hu, hb, -⟩; obtain ⟨ao, cap, rfl, -⟩ := id hu; exact ⟨ao, cap, rfl, hu, hb⟩)
end Go.Proofs.YtecfbncfhehdcaaDoor

