/- The calls of the statements TimespanTexts, TimespanReads. -/
import Derived.Test.YtgblodnggeabjabDoorTo
namespace Go.Proofs.YtgblodnggeabjabDoor
open Go.RowKit

set_option maxRecDepth 100000 in
set_option maxHeartbeats 4000000 in
theorem lawTexts_few (l h : Int) (s : ByteArray) (w : World) (hst : St w) (hs2 : (s.size : Int) ≤ 2000) :
    Calls Tryd.prog 7 #[.agg #[.int .i64 l, .int .i64 h], .string s] w fun e w' => e = .returned (.bool true) ∧ Below w.heap.size w w' := by
  have HST := Lib.hid hst
  have C1 := fun W (hW : Below w.heap.size w W) => Lib.hid (tFormat_any l h W (hst.next hW))
  have C2 := fun W => Lib.hid (rFormat_any l h W)
  have C3 := fun W (hW : Below w.heap.size w W) => Lib.hid (tParse_any s W (hst.next hW) (by omega))
  have C4 := fun W => Lib.hid (rParse_any s W (by omega))
  clear hst
  generalize Tm.fmtV l h = r0 at *
  generalize Tm.parV s.data.toList = r1 at *
  obtain ⟨t, z0⟩ := r0
  obtain ⟨⟨x1, y1⟩, z1⟩ := r1
  simp only [] at C1 C2 C3 C4
  have hB0 : Below w.heap.size w (w.alloc (.cells #[.int .i64 l, .int .i64 h] 23)) := (Below.refl _ _).alloc (Nat.le_refl _) _
  have HF := fun (W : World) (hW : Below (w.alloc (.cells #[.int .i64 l, .int .i64 h] 23)).heap.size (w.alloc (.cells #[.int .i64 l, .int .i64 h] 23)) W) => Lib.hid ((pairI_new w l h 23).below (by simp) hW)
  have hs := hB0.size
  go_enter Tryd.func7, Tryd.ntmps7
  go_wp2_with fail
  refine ((C1 _ hB0).out).mono ?_
  rintro e w1 ⟨rfl, hb⟩
  have V1 := (HF _ hb).out
  have hB := hB0.trans (hb.mono hs)
  clear hb HF hB0 hs
  obtain ⟨a10, a11, a12, a13, a14⟩ := id V1
  have H1 := Lib.hid V1
  clear V1
  go_wp2_with fail
  refine ((C2 _).out).mono ?_
  rintro e w2 ⟨rfl, hb⟩
  have V1 := H1.out.step hb
  have hB' := below_next hB hb
  clear hb hB a10 a11 a12 a13 a14 H1
  have hB := hB'
  clear hB'
  obtain ⟨a10, a11, a12, a13, a14⟩ := id V1
  have H1 := Lib.hid V1
  clear V1
  go_wp2_with fail
  refine ((C3 _ hB).out).mono ?_
  rintro e w3 ⟨rfl, hb⟩
  have V1 := H1.out.step hb
  have hB' := below_next hB hb
  clear hb hB a10 a11 a12 a13 a14 H1
  have hB := hB'
  clear hB'
  have n3_1 : w.heap.size < w3.heap.size := V1.1
  obtain ⟨a10, a11, a12, a13, a14⟩ := id V1
  have H1 := Lib.hid V1
  clear V1
  go_wp2_with fail
  refine ((C4 _).out).mono ?_
  rintro e w4 ⟨rfl, hb⟩
  have V1 := H1.out.box hb
  have V2 := pairI_box hb
  have hB' := below_nextb hB hb
  clear hb hB a10 a11 a12 a13 a14 H1
  have hB := hB'
  clear hB'
  have n4_1 : w.heap.size < w4.heap.size := V1.1
  have n4_2 : w3.heap.size < w4.heap.size := V2.1
  obtain ⟨a10, a11, a12, a13, a14⟩ := id V1
  obtain ⟨a20, a21, a22, a23, a24⟩ := id V2
  have H1 := Lib.hid V1
  have H2 := Lib.hid V2
  clear V1 V2
  have hE := hB.alloc hB.size (.cells #[.int .i64 x1, .int .i64 y1] 23)
  go_wp2_with fail
  refine (awake_any _ (HST.out.next hE)).mono ?_
  rintro e wz ⟨rfl, hb⟩
  have hF := below_next hE hb
  go_wp2
  go_ret
  exact ⟨rfl, hF⟩

theorem lawTexts_many (l h : Int) (s : ByteArray) (w : World) (hst : St w) (hs2 : (2000 : Int) < (s.size : Int)) :
    Calls Tryd.prog 7 #[.agg #[.int .i64 l, .int .i64 h], .string s] w fun e w' => e = .returned (.bool true) ∧ Below w.heap.size w w' := by
  have HST := Lib.hid hst
  have hB0 : Below w.heap.size w (w.alloc (.cells #[.int .i64 l, .int .i64 h] 23)) := (Below.refl _ _).alloc (Nat.le_refl _) _
  clear hst
  go_enter Tryd.func7, Tryd.ntmps7
  go_wp2_with fail
  refine (awake_any _ (HST.out.next hB0)).mono ?_
  rintro e wz ⟨rfl, hb⟩
  have hF := below_next hB0 hb
  go_wp2
  go_ret
  exact ⟨rfl, hF⟩
theorem lawTexts_any (l h : Int) (s : ByteArray) (w : World) (hst : St w) (hs : s.size ≤ 9223372036854775807) :
    Calls Tryd.prog 7 #[.agg #[.int .i64 l, .int .i64 h], .string s] w fun e w' => e = .returned (.bool true) ∧ Below w.heap.size w w' := by
  by_cases h2 : (s.size : Int) ≤ 2000
  · exact lawTexts_few l h s w hst h2
  · exact lawTexts_many l h s w hst (by omega)

end Go.Proofs.YtgblodnggeabjabDoor
