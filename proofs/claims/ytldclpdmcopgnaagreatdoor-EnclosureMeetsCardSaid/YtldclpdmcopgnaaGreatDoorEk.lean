/- The contracts of Add and Sub of package enclosure: the closures. -/
import Derived.Test.YtldclpdmcopgnaaGreatDoorEj
namespace Go.Proofs.YtldclpdmcopgnaaGreatDoor
open Go.RowKit

set_option maxRecDepth 100000 in
theorem addLow_any (l h m k : ByteArray) (g1 g2 : Nat) (w : World) (hst : St w) (hP : Pair w g1 l h) (hQ : Pair w g2 m k) (hl : l.size ≤ 800) (hm : m.size ≤ 800) :
    Calls Tryz.prog 64 #[.pointer (some ⟨g1, 0, none⟩), .pointer (some ⟨g2, 0, none⟩)] w (OutPost w (bi l.data.toList m.data.toList (Fr.out (Fr.rat l.data.toList + Fr.rat m.data.toList)))) := by
  have C := Lib.hid (fAdd_any l m w hst hl hm)
  obtain ⟨p0, p1, p2, p3, p4⟩ := hP
  obtain ⟨q0, q1, q2, q3, q4⟩ := hQ
  generalize bi l.data.toList m.data.toList (Fr.out (Fr.rat l.data.toList + Fr.rat m.data.toList)) = o at *
  obtain ⟨x, c⟩ := o
  unfold OutPost at *
  simp only [] at *
  generalize (⟨x.toArray⟩ : ByteArray) = t at *
  clear hst
  go_enter Tryz.func64, Tryz.ntmps64
  go_wp2_with fail
  refine (C.out).mono ?_
  rintro e w1 ⟨rfl, hb1⟩
  go_wp2
  go_ret2
  exact ⟨rfl, hb1⟩

set_option maxRecDepth 100000 in
theorem addHigh_any (l h m k : ByteArray) (g1 g2 : Nat) (w : World) (hst : St w) (hP : Pair w g1 l h) (hQ : Pair w g2 m k) (hh : h.size ≤ 800) (hk : k.size ≤ 800) :
    Calls Tryz.prog 65 #[.pointer (some ⟨g1, 0, none⟩), .pointer (some ⟨g2, 0, none⟩)] w (OutPost w (bi h.data.toList k.data.toList (Fr.out (Fr.rat h.data.toList + Fr.rat k.data.toList)))) := by
  have C := Lib.hid (fAdd_any h k w hst hh hk)
  obtain ⟨p0, p1, p2, p3, p4⟩ := hP
  obtain ⟨q0, q1, q2, q3, q4⟩ := hQ
  generalize bi h.data.toList k.data.toList (Fr.out (Fr.rat h.data.toList + Fr.rat k.data.toList)) = o at *
  obtain ⟨x, c⟩ := o
  unfold OutPost at *
  simp only [] at *
  generalize (⟨x.toArray⟩ : ByteArray) = t at *
  clear hst
  go_enter Tryz.func65, Tryz.ntmps65
  go_wp2_with fail
  refine (C.out).mono ?_
  rintro e w1 ⟨rfl, hb1⟩
  go_wp2
  go_ret2
  exact ⟨rfl, hb1⟩

set_option maxRecDepth 100000 in
theorem subLow_any (l h m k : ByteArray) (g1 g2 : Nat) (w : World) (hst : St w) (hP : Pair w g1 l h) (hQ : Pair w g2 m k) (hl : l.size ≤ 800) (hk : k.size ≤ 800) :
    Calls Tryz.prog 68 #[.pointer (some ⟨g1, 0, none⟩), .pointer (some ⟨g2, 0, none⟩)] w (OutPost w (bi l.data.toList k.data.toList (Fr.out (Fr.rat l.data.toList - Fr.rat k.data.toList)))) := by
  have C := Lib.hid (fSub_any l k w hst hl hk)
  obtain ⟨p0, p1, p2, p3, p4⟩ := hP
  obtain ⟨q0, q1, q2, q3, q4⟩ := hQ
  generalize bi l.data.toList k.data.toList (Fr.out (Fr.rat l.data.toList - Fr.rat k.data.toList)) = o at *
  obtain ⟨x, c⟩ := o
  unfold OutPost at *
  simp only [] at *
  generalize (⟨x.toArray⟩ : ByteArray) = t at *
  clear hst
  go_enter Tryz.func68, Tryz.ntmps68
  go_wp2_with fail
  refine (C.out).mono ?_
  rintro e w1 ⟨rfl, hb1⟩
  go_wp2
  go_ret2
  exact ⟨rfl, hb1⟩

set_option maxRecDepth 100000 in
theorem subHigh_any (l h m k : ByteArray) (g1 g2 : Nat) (w : World) (hst : St w) (hP : Pair w g1 l h) (hQ : Pair w g2 m k) (hh : h.size ≤ 800) (hm : m.size ≤ 800) :
    Calls Tryz.prog 69 #[.pointer (some ⟨g1, 0, none⟩), .pointer (some ⟨g2, 0, none⟩)] w (OutPost w (bi h.data.toList m.data.toList (Fr.out (Fr.rat h.data.toList - Fr.rat m.data.toList)))) := by
  have C := Lib.hid (fSub_any h m w hst hh hm)
  obtain ⟨p0, p1, p2, p3, p4⟩ := hP
  obtain ⟨q0, q1, q2, q3, q4⟩ := hQ
  generalize bi h.data.toList m.data.toList (Fr.out (Fr.rat h.data.toList - Fr.rat m.data.toList)) = o at *
  obtain ⟨x, c⟩ := o
  unfold OutPost at *
  simp only [] at *
  generalize (⟨x.toArray⟩ : ByteArray) = t at *
  clear hst
  go_enter Tryz.func69, Tryz.ntmps69
  go_wp2_with fail
  refine (C.out).mono ?_
  rintro e w1 ⟨rfl, hb1⟩
  go_wp2
  go_ret2
  exact ⟨rfl, hb1⟩

end Go.Proofs.YtldclpdmcopgnaaGreatDoor

