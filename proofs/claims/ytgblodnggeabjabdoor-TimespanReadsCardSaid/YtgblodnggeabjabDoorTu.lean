/- The call of the statement TimespanReads. -/
import Derived.Test.YtgblodnggeabjabDoorTo
namespace Go.Proofs.YtgblodnggeabjabDoor
open Go.RowKit

set_option maxRecDepth 100000 in
set_option maxHeartbeats 4000000 in
theorem lawReads_aa (l h : Int) (s : ByteArray) (x y : Int) (w : World) (hst : St w) (hs9 : s.size ≤ 9223372036854775807) (hc : Tm.chk l h = 0) (hp : Tm.parV s.data.toList = ((x, y), 0)) :
    Calls Tryd.prog 10 #[.agg #[.int .i64 l, .int .i64 h], .string s] w fun e w' => e = .returned (.bool true) ∧ Below w.heap.size w w' := by
  have HST := Lib.hid hst
  have C1 := fun W (hW : Below w.heap.size w W) => Lib.hid (tFormat_any l h W (hst.next hW))
  rw [fmt_good hc] at C1
  have C2 := fun W (hW : Below w.heap.size w W) => Lib.hid (tParse_any ⟨(Tm.txt l h).toArray⟩ W (hst.next hW) (by have h1 := Tm.txt_len hc; show (Tm.txt l h).length ≤ 9223372036854775807; omega))
  rw [show (ByteArray.mk (Tm.txt l h).toArray).data.toList = Tm.txt l h from rfl, Tm.par_txt hc] at C2
  generalize Tm.txt l h = t at *
  have C3 := fun W (hW : Below w.heap.size w W) => Lib.hid (tParse_any s W (hst.next hW) hs9)
  rw [hp] at C3
  obtain ⟨hx1, hx2⟩ := Tm.txt_par hp
  have C4 := fun W (hW : Below w.heap.size w W) => Lib.hid (tFormat_any x y W (hst.next hW))
  rw [fmt_good hx1, hx2, show (ByteArray.mk s.data.toList.toArray) = s from by apply ByteArray.ext; simp] at C4
  clear hx1 hx2
  simp only [] at C1 C3 C2 C4
  clear hst hp hc
  have hB0 : Below w.heap.size w (w.alloc (.cells #[.int .i64 l, .int .i64 h] 23)) := (Below.refl _ _).alloc (Nat.le_refl _) _
  have HF := fun (W : World) (hW : Below (w.alloc (.cells #[.int .i64 l, .int .i64 h] 23)).heap.size (w.alloc (.cells #[.int .i64 l, .int .i64 h] 23)) W) => Lib.hid ((pairI_new w l h 23).below (by simp) hW)
  have hs := hB0.size
  go_enter Tryd.func10, Tryd.ntmps10
  go_wp2_with fail
  refine ((C1 _ hB0).out).mono ?_
  rintro e w1 ⟨rfl, hb⟩
  have V1 := (HF _ hb).out
  have hB := hB0.trans (hb.mono hs)
  clear hb HF hB0 hs
  obtain ⟨a10, a11, a12, a13, a14⟩ := id V1
  have H1 := Lib.hid V1
  clear V1
  go_wp2_with fail
  refine ((C2 _ hB).out).mono ?_
  rintro e w2 ⟨rfl, hb⟩
  have V1 := H1.out.step hb
  have hB' := below_next hB hb
  clear hb hB a10 a11 a12 a13 a14 H1
  have hB := hB'
  clear hB'
  have n2_1 : w.heap.size < w2.heap.size := V1.1
  obtain ⟨a10, a11, a12, a13, a14⟩ := id V1
  have H1 := Lib.hid V1
  clear V1
  have hE := hB.alloc hB.size (.cells #[.int .i64 l, .int .i64 h] 23)
  go_wp2_with fail
  refine ((C3 _ hE).out).mono ?_
  rintro e w3 ⟨rfl, hb⟩
  have V1 := H1.out.box hb
  have V2 := pairI_box hb
  have hB' := below_nextb hB hb
  clear hb hB a10 a11 a12 a13 a14 H1
  have hB := hB'
  clear hB'
  have n3_1 : w.heap.size < w3.heap.size := V1.1
  have n3_2 : w2.heap.size < w3.heap.size := V2.1
  obtain ⟨a10, a11, a12, a13, a14⟩ := id V1
  obtain ⟨a20, a21, a22, a23, a24⟩ := id V2
  have H1 := Lib.hid V1
  have H2 := Lib.hid V2
  clear V1 V2
  clear hE
  have hE := hB.alloc hB.size (.cells #[.int .i64 x, .int .i64 y] 23)
  go_wp2_with fail
  refine ((C4 _ hE).out).mono ?_
  rintro e w4 ⟨rfl, hb⟩
  have V1 := H1.out.box hb
  have V2 := H2.out.box hb
  have V3 := pairI_box hb
  have hB' := below_nextb hB hb
  clear hb hB a10 a11 a12 a13 a14 H1 a20 a21 a22 a23 a24 H2
  have hB := hB'
  clear hB'
  obtain ⟨a10, a11, a12, a13, a14⟩ := id V1
  obtain ⟨a20, a21, a22, a23, a24⟩ := id V2
  obtain ⟨a30, a31, a32, a33, a34⟩ := id V3
  have H1 := Lib.hid V1
  have H2 := Lib.hid V2
  have H3 := Lib.hid V3
  clear V1 V2 V3
  clear hE
  go_wp2_with fail
  refine (awake_any _ (HST.out.next hB)).mono ?_
  rintro e wz ⟨rfl, hb⟩
  have hF := below_next hB hb
  go_wp2
  go_ret
  exact ⟨rfl, hF⟩

set_option maxRecDepth 100000 in
set_option maxHeartbeats 4000000 in
theorem lawReads_ab (l h : Int) (s : ByteArray) (w : World) (hst : St w) (hs9 : s.size ≤ 9223372036854775807) (hc : Tm.chk l h = 0) (z : Int) (hz : ¬ z = 0) (hp : Tm.parV s.data.toList = ((0, 0), z)) :
    Calls Tryd.prog 10 #[.agg #[.int .i64 l, .int .i64 h], .string s] w fun e w' => e = .returned (.bool true) ∧ Below w.heap.size w w' := by
  have HST := Lib.hid hst
  have C1 := fun W (hW : Below w.heap.size w W) => Lib.hid (tFormat_any l h W (hst.next hW))
  rw [fmt_good hc] at C1
  have C2 := fun W (hW : Below w.heap.size w W) => Lib.hid (tParse_any ⟨(Tm.txt l h).toArray⟩ W (hst.next hW) (by have h1 := Tm.txt_len hc; show (Tm.txt l h).length ≤ 9223372036854775807; omega))
  rw [show (ByteArray.mk (Tm.txt l h).toArray).data.toList = Tm.txt l h from rfl, Tm.par_txt hc] at C2
  generalize Tm.txt l h = t at *
  have C3 := fun W (hW : Below w.heap.size w W) => Lib.hid (tParse_any s W (hst.next hW) hs9)
  rw [hp] at C3
  have hnz : (z == 0) = false := by simpa using hz
  clear hz
  simp only [] at C1 C3 C2
  clear hst hp hc
  have hB0 : Below w.heap.size w (w.alloc (.cells #[.int .i64 l, .int .i64 h] 23)) := (Below.refl _ _).alloc (Nat.le_refl _) _
  have HF := fun (W : World) (hW : Below (w.alloc (.cells #[.int .i64 l, .int .i64 h] 23)).heap.size (w.alloc (.cells #[.int .i64 l, .int .i64 h] 23)) W) => Lib.hid ((pairI_new w l h 23).below (by simp) hW)
  have hs := hB0.size
  go_enter Tryd.func10, Tryd.ntmps10
  go_wp2_with fail
  refine ((C1 _ hB0).out).mono ?_
  rintro e w1 ⟨rfl, hb⟩
  have V1 := (HF _ hb).out
  have hB := hB0.trans (hb.mono hs)
  clear hb HF hB0 hs
  obtain ⟨a10, a11, a12, a13, a14⟩ := id V1
  have H1 := Lib.hid V1
  clear V1
  go_wp2_with fail
  refine ((C2 _ hB).out).mono ?_
  rintro e w2 ⟨rfl, hb⟩
  have V1 := H1.out.step hb
  have hB' := below_next hB hb
  clear hb hB a10 a11 a12 a13 a14 H1
  have hB := hB'
  clear hB'
  have n2_1 : w.heap.size < w2.heap.size := V1.1
  obtain ⟨a10, a11, a12, a13, a14⟩ := id V1
  have H1 := Lib.hid V1
  clear V1
  have hE := hB.alloc hB.size (.cells #[.int .i64 l, .int .i64 h] 23)
  go_wp2_with fail
  refine ((C3 _ hE).out).mono ?_
  rintro e w3 ⟨rfl, hb⟩
  have V1 := H1.out.box hb
  have V2 := pairI_box hb
  have hB' := below_nextb hB hb
  clear hb hB a10 a11 a12 a13 a14 H1
  have hB := hB'
  clear hB'
  have n3_1 : w.heap.size < w3.heap.size := V1.1
  have n3_2 : w2.heap.size < w3.heap.size := V2.1
  obtain ⟨a10, a11, a12, a13, a14⟩ := id V1
  obtain ⟨a20, a21, a22, a23, a24⟩ := id V2
  have H1 := Lib.hid V1
  have H2 := Lib.hid V2
  clear V1 V2
  clear hE
  have hE := hB.alloc hB.size (.cells #[.int .i64 0, .int .i64 0] 23)
  go_wp2_with fail
  refine (awake_any _ (HST.out.next hE)).mono ?_
  rintro e wz ⟨rfl, hb⟩
  have hF := below_next hE hb
  go_wp2
  go_ret
  exact ⟨rfl, hF⟩

set_option maxRecDepth 100000 in
set_option maxHeartbeats 4000000 in
theorem lawReads_ba (l h : Int) (s : ByteArray) (x y : Int) (w : World) (hst : St w) (hs9 : s.size ≤ 9223372036854775807) (hc : ¬ Tm.chk l h = 0) (hp : Tm.parV s.data.toList = ((x, y), 0)) :
    Calls Tryd.prog 10 #[.agg #[.int .i64 l, .int .i64 h], .string s] w fun e w' => e = .returned (.bool true) ∧ Below w.heap.size w w' := by
  have HST := Lib.hid hst
  have C1 := fun W (hW : Below w.heap.size w W) => Lib.hid (tFormat_any l h W (hst.next hW))
  rw [fmt_bad hc] at C1
  have hne : (Tm.chk l h == 0) = false := by simpa using hc
  generalize Tm.chk l h = c at *
  have C3 := fun W (hW : Below w.heap.size w W) => Lib.hid (tParse_any s W (hst.next hW) hs9)
  rw [hp] at C3
  obtain ⟨hx1, hx2⟩ := Tm.txt_par hp
  have C4 := fun W (hW : Below w.heap.size w W) => Lib.hid (tFormat_any x y W (hst.next hW))
  rw [fmt_good hx1, hx2, show (ByteArray.mk s.data.toList.toArray) = s from by apply ByteArray.ext; simp] at C4
  clear hx1 hx2
  simp only [] at C1 C3 C4
  clear hst hp hc
  have hB0 : Below w.heap.size w (w.alloc (.cells #[.int .i64 l, .int .i64 h] 23)) := (Below.refl _ _).alloc (Nat.le_refl _) _
  have HF := fun (W : World) (hW : Below (w.alloc (.cells #[.int .i64 l, .int .i64 h] 23)).heap.size (w.alloc (.cells #[.int .i64 l, .int .i64 h] 23)) W) => Lib.hid ((pairI_new w l h 23).below (by simp) hW)
  have hs := hB0.size
  go_enter Tryd.func10, Tryd.ntmps10
  go_wp2_with fail
  refine ((C1 _ hB0).out).mono ?_
  rintro e w1 ⟨rfl, hb⟩
  have V1 := (HF _ hb).out
  have hB := hB0.trans (hb.mono hs)
  clear hb HF hB0 hs
  obtain ⟨a10, a11, a12, a13, a14⟩ := id V1
  have H1 := Lib.hid V1
  clear V1
  go_wp2_with fail
  refine ((C3 _ hB).out).mono ?_
  rintro e w2 ⟨rfl, hb⟩
  have V1 := H1.out.step hb
  have hB' := below_next hB hb
  clear hb hB a10 a11 a12 a13 a14 H1
  have hB := hB'
  clear hB'
  have n2_1 : w.heap.size < w2.heap.size := V1.1
  obtain ⟨a10, a11, a12, a13, a14⟩ := id V1
  have H1 := Lib.hid V1
  clear V1
  have hE := hB.alloc hB.size (.cells #[.int .i64 x, .int .i64 y] 23)
  go_wp2_with fail
  refine ((C4 _ hE).out).mono ?_
  rintro e w3 ⟨rfl, hb⟩
  have V1 := H1.out.box hb
  have V2 := pairI_box hb
  have hB' := below_nextb hB hb
  clear hb hB a10 a11 a12 a13 a14 H1
  have hB := hB'
  clear hB'
  obtain ⟨a10, a11, a12, a13, a14⟩ := id V1
  obtain ⟨a20, a21, a22, a23, a24⟩ := id V2
  have H1 := Lib.hid V1
  have H2 := Lib.hid V2
  clear V1 V2
  clear hE
  go_wp2_with fail
  refine (awake_any _ (HST.out.next hB)).mono ?_
  rintro e wz ⟨rfl, hb⟩
  have hF := below_next hB hb
  go_wp2
  go_ret
  exact ⟨rfl, hF⟩

set_option maxRecDepth 100000 in
set_option maxHeartbeats 4000000 in
theorem lawReads_bb (l h : Int) (s : ByteArray) (w : World) (hst : St w) (hs9 : s.size ≤ 9223372036854775807) (hc : ¬ Tm.chk l h = 0) (z : Int) (hz : ¬ z = 0) (hp : Tm.parV s.data.toList = ((0, 0), z)) :
    Calls Tryd.prog 10 #[.agg #[.int .i64 l, .int .i64 h], .string s] w fun e w' => e = .returned (.bool true) ∧ Below w.heap.size w w' := by
  have HST := Lib.hid hst
  have C1 := fun W (hW : Below w.heap.size w W) => Lib.hid (tFormat_any l h W (hst.next hW))
  rw [fmt_bad hc] at C1
  have hne : (Tm.chk l h == 0) = false := by simpa using hc
  generalize Tm.chk l h = c at *
  have C3 := fun W (hW : Below w.heap.size w W) => Lib.hid (tParse_any s W (hst.next hW) hs9)
  rw [hp] at C3
  have hnz : (z == 0) = false := by simpa using hz
  clear hz
  simp only [] at C1 C3
  clear hst hp hc
  have hB0 : Below w.heap.size w (w.alloc (.cells #[.int .i64 l, .int .i64 h] 23)) := (Below.refl _ _).alloc (Nat.le_refl _) _
  have HF := fun (W : World) (hW : Below (w.alloc (.cells #[.int .i64 l, .int .i64 h] 23)).heap.size (w.alloc (.cells #[.int .i64 l, .int .i64 h] 23)) W) => Lib.hid ((pairI_new w l h 23).below (by simp) hW)
  have hs := hB0.size
  go_enter Tryd.func10, Tryd.ntmps10
  go_wp2_with fail
  refine ((C1 _ hB0).out).mono ?_
  rintro e w1 ⟨rfl, hb⟩
  have V1 := (HF _ hb).out
  have hB := hB0.trans (hb.mono hs)
  clear hb HF hB0 hs
  obtain ⟨a10, a11, a12, a13, a14⟩ := id V1
  have H1 := Lib.hid V1
  clear V1
  go_wp2_with fail
  refine ((C3 _ hB).out).mono ?_
  rintro e w2 ⟨rfl, hb⟩
  have V1 := H1.out.step hb
  have hB' := below_next hB hb
  clear hb hB a10 a11 a12 a13 a14 H1
  have hB := hB'
  clear hB'
  have n2_1 : w.heap.size < w2.heap.size := V1.1
  obtain ⟨a10, a11, a12, a13, a14⟩ := id V1
  have H1 := Lib.hid V1
  clear V1
  have hE := hB.alloc hB.size (.cells #[.int .i64 0, .int .i64 0] 23)
  go_wp2_with fail
  refine (awake_any _ (HST.out.next hE)).mono ?_
  rintro e wz ⟨rfl, hb⟩
  have hF := below_next hE hb
  go_wp2
  go_ret
  exact ⟨rfl, hF⟩

theorem lawReads_any (l h : Int) (s : ByteArray) (w : World) (hst : St w) (hs : s.size ≤ 9223372036854775807) :
    Calls Tryd.prog 10 #[.agg #[.int .i64 l, .int .i64 h], .string s] w fun e w' => e = .returned (.bool true) ∧ Below w.heap.size w w' := by
  obtain ⟨⟨⟨x, y⟩, z⟩, hp⟩ : ∃ r, Tm.parV s.data.toList = r := ⟨_, rfl⟩
  by_cases hc : Tm.chk l h = 0
  · by_cases hz : z = 0
    · subst hz; exact lawReads_aa l h s x y w hst hs hc hp
    · have hq := Tm.par_bad s.data.toList (by rw [hp]; exact hz)
      rw [hp] at hq
      rw [show (x, y) = ((0, 0) : Int × Int) from hq] at hp
      exact lawReads_ab l h s w hst hs hc z hz hp
  · by_cases hz : z = 0
    · subst hz; exact lawReads_ba l h s x y w hst hs hc hp
    · have hq := Tm.par_bad s.data.toList (by rw [hp]; exact hz)
      rw [hp] at hq
      rw [show (x, y) = ((0, 0) : Int × Int) from hq] at hp
      exact lawReads_bb l h s w hst hs hc z hz hp

end Go.Proofs.YtgblodnggeabjabDoor
