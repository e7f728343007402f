/- The contracts of Add and Sub of package enclosure. -/
import Derived.Test.YtldclpdmcopgnaaGreatDoorEk
namespace Go.Proofs.YtldclpdmcopgnaaGreatDoor
open Go.RowKit

/-- Two enclosures, a new variable for the result, and both in a list. -/
def Four4 (w : World) (l h m k : ByteArray) : World := ((Two w l h m k).alloc (.cells #[.string ⟨#[]⟩, .string ⟨#[]⟩] 24)).alloc (.cells #[.string l, .string h, .string m, .string k] 24)
theorem four_below (w : World) (l h m k : ByteArray) : Below w.heap.size w (Four4 w l h m k) := ((two_below w l h m k).alloc (by rw [two_size]; omega) _).alloc (by simp [two_size]; omega) _
theorem four_facts (w : World) (l h m k : ByteArray) : Pair (Four4 w l h m k) w.heap.size l h ∧ Pair (Four4 w l h m k) (w.heap.size + 1) m k ∧ Pair (Four4 w l h m k) (w.heap.size + 1 + 1) ⟨#[]⟩ ⟨#[]⟩ ∧ Quad (Four4 w l h m k) (w.heap.size + 1 + 1 + 1) l h m k := by
  obtain ⟨HP, HQ⟩ := pair_next w l h m k 24 24
  have e2 := two_size w l h m k
  have h1 : Below (Two w l h m k).heap.size (Two w l h m k) ((Two w l h m k).alloc (.cells #[.string ⟨#[]⟩, .string ⟨#[]⟩] 24)) := (Below.refl _ _).alloc (Nat.le_refl _) _
  have h2 : Below ((Two w l h m k).alloc (.cells #[.string ⟨#[]⟩, .string ⟨#[]⟩] 24)).heap.size ((Two w l h m k).alloc (.cells #[.string ⟨#[]⟩, .string ⟨#[]⟩] 24)) (Four4 w l h m k) := (Below.refl _ _).alloc (Nat.le_refl _) _
  have HR := pair_new (Two w l h m k) ⟨#[]⟩ ⟨#[]⟩ 24
  rw [e2] at HR
  have HS := quad_new ((Two w l h m k).alloc (.cells #[.string ⟨#[]⟩, .string ⟨#[]⟩] 24)) l h m k 24
  have e3 : ((Two w l h m k).alloc (.cells #[.string ⟨#[]⟩, .string ⟨#[]⟩] 24)).heap.size = w.heap.size + 1 + 1 + 1 := by simp [e2]
  rw [e3] at HS
  exact ⟨(Pair.below HP h1).below h2, (Pair.below HQ h1).below h2, HR.below h2, HS⟩

/-- What Add, Sub return of two ends. -/
def endsP (f : Int) (o p : List UInt8 × Int) : ByteArray × ByteArray := if f = 0 then btwP ⟨o.1.toArray⟩ ⟨p.1.toArray⟩ o.2 p.2 else (⟨#[]⟩, ⟨#[]⟩)
def endsE (f : Int) (o p : List UInt8 × Int) : Int := if f = 0 then btwE o.2 p.2 else f
def EndsPost (w : World) (f : Int) (o p : List UInt8 × Int) (e : Ending) (w' : World) : Prop :=
  e = .returned (.tuple #[.agg #[.string (endsP f o p).1, .string (endsP f o p).2], .int .i64 (endsE f o p)]) ∧ Below w.heap.size w w'

set_option maxRecDepth 100000 in
set_option maxHeartbeats 1000000 in
theorem eAdd_any (l h m k : ByteArray) (w : World) (hst : St w) (hl : l.size ≤ 800) (hh : h.size ≤ 800) (hm : m.size ≤ 800) (hk : k.size ≤ 800) :
    Calls Tryz.prog 30 #[.agg #[.string l, .string h], .agg #[.string m, .string k]] w
      (EndsPost w (chk2 l h m k) (bi l.data.toList m.data.toList (Fr.out (Fr.rat l.data.toList + Fr.rat m.data.toList))) (bi h.data.toList k.data.toList (Fr.out (Fr.rat h.data.toList + Fr.rat k.data.toList)))) := by
  have hB0 := four_below w l h m k
  have hs := hB0.size
  obtain ⟨HP, HQ, HR, HS⟩ := four_facts w l h m k
  have CC := Lib.hid (checkAll_any l h m k _ _ (hst.next hB0) HS hl hh hm hk)
  have FP := Lib.hid HP
  have FQ := Lib.hid HQ
  have FR := Lib.hid HR
  clear HP HQ HR HS
  have CL := fun W (hW : Below w.heap.size w W) (hP : Pair W w.heap.size l h) (hQ : Pair W (w.heap.size + 1) m k) => addLow_any l h m k w.heap.size (w.heap.size + 1) W (hst.next hW) hP hQ hl hm
  have CH := fun W (hW : Below w.heap.size w W) (hP : Pair W w.heap.size l h) (hQ : Pair W (w.heap.size + 1) m k) => addHigh_any l h m k w.heap.size (w.heap.size + 1) W (hst.next hW) hP hQ hh hk
  generalize bi l.data.toList m.data.toList (Fr.out (Fr.rat l.data.toList + Fr.rat m.data.toList)) = o at *
  generalize bi h.data.toList k.data.toList (Fr.out (Fr.rat h.data.toList + Fr.rat k.data.toList)) = o' at *
  obtain ⟨x, c⟩ := o
  obtain ⟨y, d⟩ := o'
  have CB := fun (w1 : World) (hb1 : Below (Four4 w l h m k).heap.size (Four4 w l h m k) w1) =>
    Lib.hid (betweenAdd_any #[.pointer (some ⟨w.heap.size, 0, none⟩), .pointer (some ⟨w.heap.size + 1, 0, none⟩)] #[.pointer (some ⟨w.heap.size, 0, none⟩), .pointer (some ⟨w.heap.size + 1, 0, none⟩)] ⟨x.toArray⟩ ⟨y.toArray⟩ c d w1
      (fun W hW => CL W ((hB0.trans (hb1.mono hs)).trans (hW.mono (hB0.trans (hb1.mono hs)).size)) ((FP.out.below hb1).below hW) ((FQ.out.below hb1).below hW))
      (fun W hW => CH W ((hB0.trans (hb1.mono hs)).trans (hW.mono (hB0.trans (hb1.mono hs)).size)) ((FP.out.below hb1).below hW) ((FQ.out.below hb1).below hW)))
  clear CL CH FP FQ hst
  unfold EndsPost endsP endsE
  by_cases h0 : chk2 l h m k = 0
  · rw [h0] at CC
    rw [if_pos h0, if_pos h0]
    simp only []
    generalize btwP ⟨x.toArray⟩ ⟨y.toArray⟩ c d = r at *
    generalize btwE c d = f at *
    obtain ⟨r1, r2⟩ := r
    simp only [] at CB ⊢
    clear h0
    unfold Four4 Two at *
    go_enter Tryz.func30, Tryz.ntmps30
    go_wp2_with fail
    refine (CC.out).mono ?_
    rintro e w1 ⟨rfl, hb1⟩
    have hB1 := hB0.trans (hb1.mono hs)
    have FR1 := Lib.hid (FR.out.below hb1)
    go_wp2_with fail
    refine ((CB _ hb1).out).mono ?_
    rintro e w2 ⟨rfl, hb2⟩
    obtain ⟨p0, p1, p2, p3, p4⟩ := FR1.out.below hb2
    have hB2 := hB1.trans (hb2.mono hB1.size)
    clear hb1 hb2 hB1 hB0 FR FR1 CC CB
    go_wp2
    have hfin := (hB2.setCell (p := ⟨w.heap.size + 1 + 1, 0, none⟩) (by simp; omega) (.string r1)).setCell (p := ⟨w.heap.size + 1 + 1, 1, none⟩) (by simp; omega) (.string r2)
    exact bodyPost_ret (v := .tuple #[.agg #[.string r1, .string r2], .int .i64 f]) (by simp [results, Tryz.results30, go_sem, p1, p2]) rfl ⟨rfl, hfin⟩
  · rw [if_neg h0, if_neg h0]
    have hne : (chk2 l h m k != 0) = true := by simpa using h0
    generalize chk2 l h m k = f at *
    clear h0 CB
    unfold Four4 Two at *
    go_enter Tryz.func30, Tryz.ntmps30
    go_wp2_with fail
    refine (CC.out).mono ?_
    rintro e w1 ⟨rfl, hb1⟩
    have hB1 := hB0.trans (hb1.mono hs)
    obtain ⟨p0, p1, p2, p3, p4⟩ := FR.out.below hb1
    clear hb1 hB0 FR CC
    go_wp2
    have hfin := (hB1.setCell (p := ⟨w.heap.size + 1 + 1, 0, none⟩) (by simp; omega) (.string ⟨#[]⟩)).setCell (p := ⟨w.heap.size + 1 + 1, 1, none⟩) (by simp; omega) (.string ⟨#[]⟩)
    exact bodyPost_ret (v := .tuple #[.agg #[.string ⟨#[]⟩, .string ⟨#[]⟩], .int .i64 f]) (by simp [results, Tryz.results30, go_sem, p1, p2]) rfl ⟨rfl, hfin⟩

set_option maxRecDepth 100000 in
set_option maxHeartbeats 1000000 in
theorem eSub_any (l h m k : ByteArray) (w : World) (hst : St w) (hl : l.size ≤ 800) (hh : h.size ≤ 800) (hm : m.size ≤ 800) (hk : k.size ≤ 800) :
    Calls Tryz.prog 32 #[.agg #[.string l, .string h], .agg #[.string m, .string k]] w
      (EndsPost w (chk2 l h m k) (bi l.data.toList k.data.toList (Fr.out (Fr.rat l.data.toList - Fr.rat k.data.toList))) (bi h.data.toList m.data.toList (Fr.out (Fr.rat h.data.toList - Fr.rat m.data.toList)))) := by
  have hB0 := four_below w l h m k
  have hs := hB0.size
  obtain ⟨HP, HQ, HR, HS⟩ := four_facts w l h m k
  have CC := Lib.hid (checkAll_any l h m k _ _ (hst.next hB0) HS hl hh hm hk)
  have FP := Lib.hid HP
  have FQ := Lib.hid HQ
  have FR := Lib.hid HR
  clear HP HQ HR HS
  have CL := fun W (hW : Below w.heap.size w W) (hP : Pair W w.heap.size l h) (hQ : Pair W (w.heap.size + 1) m k) => subLow_any l h m k w.heap.size (w.heap.size + 1) W (hst.next hW) hP hQ hl hk
  have CH := fun W (hW : Below w.heap.size w W) (hP : Pair W w.heap.size l h) (hQ : Pair W (w.heap.size + 1) m k) => subHigh_any l h m k w.heap.size (w.heap.size + 1) W (hst.next hW) hP hQ hh hm
  generalize bi l.data.toList k.data.toList (Fr.out (Fr.rat l.data.toList - Fr.rat k.data.toList)) = o at *
  generalize bi h.data.toList m.data.toList (Fr.out (Fr.rat h.data.toList - Fr.rat m.data.toList)) = o' at *
  obtain ⟨x, c⟩ := o
  obtain ⟨y, d⟩ := o'
  have CB := fun (w1 : World) (hb1 : Below (Four4 w l h m k).heap.size (Four4 w l h m k) w1) =>
    Lib.hid (betweenSub_any #[.pointer (some ⟨w.heap.size, 0, none⟩), .pointer (some ⟨w.heap.size + 1, 0, none⟩)] #[.pointer (some ⟨w.heap.size, 0, none⟩), .pointer (some ⟨w.heap.size + 1, 0, none⟩)] ⟨x.toArray⟩ ⟨y.toArray⟩ c d w1
      (fun W hW => CL W ((hB0.trans (hb1.mono hs)).trans (hW.mono (hB0.trans (hb1.mono hs)).size)) ((FP.out.below hb1).below hW) ((FQ.out.below hb1).below hW))
      (fun W hW => CH W ((hB0.trans (hb1.mono hs)).trans (hW.mono (hB0.trans (hb1.mono hs)).size)) ((FP.out.below hb1).below hW) ((FQ.out.below hb1).below hW)))
  clear CL CH FP FQ hst
  unfold EndsPost endsP endsE
  by_cases h0 : chk2 l h m k = 0
  · rw [h0] at CC
    rw [if_pos h0, if_pos h0]
    simp only []
    generalize btwP ⟨x.toArray⟩ ⟨y.toArray⟩ c d = r at *
    generalize btwE c d = f at *
    obtain ⟨r1, r2⟩ := r
    simp only [] at CB ⊢
    clear h0
    unfold Four4 Two at *
    go_enter Tryz.func32, Tryz.ntmps32
    go_wp2_with fail
    refine (CC.out).mono ?_
    rintro e w1 ⟨rfl, hb1⟩
    have hB1 := hB0.trans (hb1.mono hs)
    have FR1 := Lib.hid (FR.out.below hb1)
    go_wp2_with fail
    refine ((CB _ hb1).out).mono ?_
    rintro e w2 ⟨rfl, hb2⟩
    obtain ⟨p0, p1, p2, p3, p4⟩ := FR1.out.below hb2
    have hB2 := hB1.trans (hb2.mono hB1.size)
    clear hb1 hb2 hB1 hB0 FR FR1 CC CB
    go_wp2
    have hfin := (hB2.setCell (p := ⟨w.heap.size + 1 + 1, 0, none⟩) (by simp; omega) (.string r1)).setCell (p := ⟨w.heap.size + 1 + 1, 1, none⟩) (by simp; omega) (.string r2)
    exact bodyPost_ret (v := .tuple #[.agg #[.string r1, .string r2], .int .i64 f]) (by simp [results, Tryz.results32, go_sem, p1, p2]) rfl ⟨rfl, hfin⟩
  · rw [if_neg h0, if_neg h0]
    have hne : (chk2 l h m k != 0) = true := by simpa using h0
    generalize chk2 l h m k = f at *
    clear h0 CB
    unfold Four4 Two at *
    go_enter Tryz.func32, Tryz.ntmps32
    go_wp2_with fail
    refine (CC.out).mono ?_
    rintro e w1 ⟨rfl, hb1⟩
    have hB1 := hB0.trans (hb1.mono hs)
    obtain ⟨p0, p1, p2, p3, p4⟩ := FR.out.below hb1
    clear hb1 hB0 FR CC
    go_wp2
    have hfin := (hB1.setCell (p := ⟨w.heap.size + 1 + 1, 0, none⟩) (by simp; omega) (.string ⟨#[]⟩)).setCell (p := ⟨w.heap.size + 1 + 1, 1, none⟩) (by simp; omega) (.string ⟨#[]⟩)
    exact bodyPost_ret (v := .tuple #[.agg #[.string ⟨#[]⟩, .string ⟨#[]⟩], .int .i64 f]) (by simp [results, Tryz.results32, go_sem, p1, p2]) rfl ⟨rfl, hfin⟩

end Go.Proofs.YtldclpdmcopgnaaGreatDoor

