/- The examples of the chapter: awake. -/
import Derived.Test.YtecfbncfhehdcaaDoorQY
namespace Go.Proofs.YtecfbncfhehdcaaDoor
open Go.RowKit Go.Shelf
theorem seeK_two {W : World} {g : Nat} {a b : Int} {o p : Bool} (hg : g < W.heap.size) (h0 : W.cell? ⟨g, 0, none⟩ = some (.int .i64 a)) (h1 : W.cell? ⟨g, 1, none⟩ = some (.bool o)) (h2 : W.cell? ⟨g, 2, none⟩ = some (.int .i64 b)) (h3 : W.cell? ⟨g, 3, none⟩ = some (.bool p)) : SeeK W (.slice (some ⟨g, 0, none⟩) 2 2) [(a, o), (b, p)] :=
  ⟨_, 2, rfl, by simp, by omega, fun _ => ⟨g, 0, rfl, hg, fun i hi => by
    rcases (show i = 0 ∨ i = 1 by simp at hi; omega) with rfl | rfl
    · exact ⟨h0, h1⟩
    · exact ⟨h2, h3⟩⟩⟩
theorem seeT_one {W : World} {g : Nat} {u : Value} {l : List Sk.Str} {n : Int} (hg : g < W.heap.size) (h0 : W.cell? ⟨g, 0, none⟩ = some u) (h1 : W.cell? ⟨g, 1, none⟩ = some (.int .i64 n)) (hu : SeeK W u l) : SeeT W (.slice (some ⟨g, 0, none⟩) 1 1) [(l, n)] :=
  ⟨_, 1, rfl, by simp, by omega, fun _ => ⟨g, 0, rfl, hg, fun i hi => by
    obtain rfl : i = 0 := by simp at hi; omega
    exact ⟨⟨u, h0, hu⟩, h1⟩⟩⟩
theorem seeB_two {W : World} {g : Nat} {a b : Bool} (hg : g < W.heap.size) (h0 : W.cell? ⟨g, 0, none⟩ = some (.bool a)) (h1 : W.cell? ⟨g, 1, none⟩ = some (.bool b)) : SeeB W (.slice (some ⟨g, 0, none⟩) 2 2) [a, b] :=
  ⟨_, 2, rfl, by simp, by omega, fun _ => ⟨g, 0, rfl, hg, fun i hi => by
    rcases (show i = 0 ∨ i = 1 by simp at hi; omega) with rfl | rfl
    · exact h0
    · exact h1⟩⟩
/-- The parses of the examples. -/
theorem parEx (i : Nat) (hi : i < 6) (W : World) (h : StQ W) : Calls Tryd.prog 12 #[.string (Sk.exs.getD i Sk.ex0).1] W fun e w' => ∃ ao cap, e = .returned (.tuple #[.slice ao 0 cap, .int .i64 (Sk.exs.getD i Sk.ex0).2.1, .int .i64 (Sk.exs.getD i Sk.ex0).2.2]) ∧ Below W.heap.size W w' := by
  have h := sPar_any (Sk.exs.getD i Sk.ex0).1 W h
  rw [Sk.exs_all i hi] at h
  exact h.mono (by rintro e w' ⟨ao, cap, rfl, -, hb⟩; exact ⟨ao, cap, rfl, hb⟩)
theorem parOne (W : World) (h : StQ W) : Calls Tryd.prog 12 #[.string ⟨#[65, 43, 59, 32, 66, 43, 32, 67, 43, 59, 32, 65, 45]⟩] W fun e w' => ∃ ao cap, e = .returned (.tuple #[.slice ao 3 cap, .int .i64 0, .int .i64 0]) ∧ Below W.heap.size W w' := by
  obtain ⟨L, h1, h2⟩ := Sk.par_one
  have h := sPar_any ⟨#[65, 43, 59, 32, 66, 43, 32, 67, 43, 59, 32, 65, 45]⟩ W h
  rw [h1] at h
  exact h.mono (by rintro e w' ⟨ao, cap, rfl, -, hb⟩; exact ⟨ao, cap, by rw [h2], hb⟩)
theorem fmtOne (v : Value) (W : World) (h : StQ W) (hs : SeeT W v [([(0, true), (1, false)], 200)]) : Calls Tryd.prog 51 #[v] W fun e w' => e = .returned (.tuple #[.string ⟨#[65, 43, 32, 66, 45, 32, 50, 48, 48]⟩, .int .i64 0]) ∧ Below W.heap.size W w' := by
  have h := sFmt_any v _ W h.st hs
  rw [Sk.fmt_one] at h
  exact h
theorem appOne (v ev : Value) (W : World) (hs : SeeK W v [(0, true), (1, false)]) (he : SeeB W ev [false, true]) : Calls Tryd.prog 37 #[.agg #[v, .int .i64 200], ev] W fun e w' => ∃ ao cap, e = .returned (.tuple #[.slice ao 2 cap, .int .i64 0]) ∧ SeeB w' (.slice ao 2 cap) [true, false] ∧ Below W.heap.size W w' := by
  have h := sApp_any v ev _ 200 _ W hs he
  rw [Sk.app_one] at h
  exact h.mono (by rintro e w' ⟨u, rfl, hu, hb, -⟩; obtain ⟨ao, cap, rfl, -⟩ := id hu; exact ⟨ao, cap, rfl, hu, hb⟩)
theorem eqOne (u v : Value) (W : World) (hs : SeeB W u [true, false]) (he : SeeB W v [true, false]) : Calls Tryd.prog 30 #[u, v] W fun e w' => e = .returned (.bool true) ∧ Below W.heap.size W w' := eqB_any u v _ _ W hs he
/-- Where the examples lie. -/
def CellsE (W : World) (g : Nat) : Prop := ∀ i, i < 6 → W.cell? ⟨g, i * 3, none⟩ = some (.string (Sk.exs.getD i Sk.ex0).1) ∧ W.cell? ⟨g, i * 3 + 1, none⟩ = some (.int .i64 (Sk.exs.getD i Sk.ex0).2.1) ∧ W.cell? ⟨g, i * 3 + 2, none⟩ = some (.int .i64 (Sk.exs.getD i Sk.ex0).2.2)
theorem CellsE.step {W W' : World} {g : Nat} (h : CellsE W g) (hg : g < W.heap.size) (hb : Below W.heap.size W W') : CellsE W' g := fun i hi =>
  ⟨(hb.cell (p := ⟨g, i * 3, none⟩) hg).trans (h i hi).1, (hb.cell (p := ⟨g, i * 3 + 1, none⟩) hg).trans (h i hi).2.1, (hb.cell (p := ⟨g, i * 3 + 2, none⟩) hg).trans (h i hi).2.2⟩
set_option maxHeartbeats 8000000 in
set_option maxRecDepth 100000 in
theorem awake_any (w : World) (hst : StQ w) : Calls Tryd.prog 11 #[] w fun e w' => e = .returned (.bool true) ∧ Below w.heap.size w w' := by
  have HST := Lib.hid hst
  clear hst
  obtain ⟨W1, hW1⟩ : ∃ W1, w.alloc (.cells #[.int .i64 0, .bool true, .int .i64 1, .bool false] 47) = W1 := ⟨_, rfl⟩
  have hz1 : W1.heap.size = w.heap.size + 1 := by rw [← hW1]; simp
  have hB1 : Below w.heap.size w W1 := by rw [← hW1]; exact allocB _ _
  have hK1 : SeeK W1 (.slice (some ⟨w.heap.size, 0, none⟩) 2 2) [(0, true), (1, false)] := by rw [← hW1]; exact seeK_two (by simp) (by simp) (by simp) (by simp) (by simp)
  obtain ⟨hP2, hB2, hz2⟩ := boxP_new W1 (.slice (some ⟨w.heap.size, 0, none⟩) 2 2) (.int .i64 200) 70
  rw [hz1] at hP2
  have HB2 := Lib.hid (below_nxt hB1 hB2)
  have HK2 := Lib.hid (hK1.step hB2)
  have HP2 := Lib.hid hP2
  have hT3 : Hid (SeeT ((W1.alloc (.cells #[.slice (some ⟨w.heap.size, 0, none⟩) 2 2, .int .i64 200] 70)).alloc (.cells #[.slice (some ⟨w.heap.size, 0, none⟩) 2 2, .int .i64 200] 70)) (.slice (some ⟨w.heap.size + 1 + 1, 0, none⟩) 1 1) [([(0, true), (1, false)], 200)]) := by
    obtain ⟨hP3, hB3, hz3⟩ := boxP_new (W1.alloc (.cells #[.slice (some ⟨w.heap.size, 0, none⟩) 2 2, .int .i64 200] 70)) (.slice (some ⟨w.heap.size, 0, none⟩) 2 2) (.int .i64 200) 70
    rw [hz2, hz1] at hP3
    exact Lib.hid (seeT_one hP3.1 hP3.2.1 hP3.2.2 (HK2.out.step hB3))
  clear hK1 hP2
  go_enter Tryd.func11, Tryd.ntmps11
  go_wp2_with fail
  try rw [hW1]
  refine (fmtOne _ _ (HST.out.step (HB2.out.alloc HB2.out.size _)) hT3.out).mono ?_
  rintro e w1 ⟨rfl, hb1⟩
  have hb1' := below_nxt (allocB (W1.alloc (.cells #[.slice (some ⟨w.heap.size, 0, none⟩) 2 2, .int .i64 200] 70)) (.cells #[.slice (some ⟨w.heap.size, 0, none⟩) 2 2, .int .i64 200] 70)) hb1
  have HB1 := Lib.hid (below_nxt HB2.out hb1')
  have HK1 := Lib.hid (HK2.out.step hb1')
  obtain ⟨p0, p1, p2⟩ := HP2.out.step hb1'
  have HP1 := Lib.hid (HP2.out.step hb1')
  clear hb1 hb1' HP2 HK2 hT3 HB2 hB1 hz1 hB2 hz2 hW1
  go_wp2_with fail
  refine (appOne _ _ _ (HK1.out.step (allocB _ _)) (seeB_two (by simp) (by simp) (by simp))).mono ?_
  rintro e w2 ⟨ao, cap, rfl, hs2, hb2⟩
  have HB2 := Lib.hid (below_nxt (HB1.out.alloc HB1.out.size _) hb2)
  have HS2 := Lib.hid hs2
  clear hs2 hb2 HB1 HK1 p0 p1 p2 HP1
  go_wp2_with fail
  refine (parOne _ (HST.out.step HB2.out)).mono ?_
  rintro e w3 ⟨ao3, cap3, rfl, hb3⟩
  have HB3 := Lib.hid (below_nxt HB2.out hb3)
  have HS3 := Lib.hid (HS2.out.step hb3)
  clear hb3 HB2 HS2
  go_wp2_with fail
  refine (eqOne _ _ _ (HS3.out.step (allocB _ _)) (seeB_two (by simp) (by simp) (by simp))).mono ?_
  rintro e w4 ⟨rfl, hb4⟩
  have HB4 := Lib.hid (below_nxt (HB3.out.alloc HB3.out.size _) hb4)
  clear hb4 HB3 HS3
  have HCE : Hid (CellsE (w4.alloc (.cells #[.string ⟨#[65, 43, 59, 32, 66, 43, 32, 65, 43]⟩, .int .i64 4, .int .i64 9, .string ⟨#[65, 43, 32, 65, 45]⟩, .int .i64 0, .int .i64 7, .string ⟨#[65, 43, 59, 66, 43]⟩, .int .i64 0, .int .i64 4, .string ⟨#[65, 43, 59, 32]⟩, .int .i64 4, .int .i64 4, .string ⟨#[65, 43, 32, 48]⟩, .int .i64 0, .int .i64 4, .string ⟨#[71, 43]⟩, .int .i64 0, .int .i64 4] 90)) w4.heap.size) := Lib.hid (by
    intro i hi
    rcases (show i = 0 ∨ i = 1 ∨ i = 2 ∨ i = 3 ∨ i = 4 ∨ i = 5 by omega) with rfl | rfl | rfl | rfl | rfl | rfl <;> (refine ⟨?_, ?_, ?_⟩ <;> simp [Sk.exs]))
  go_wp2
  go_loopw [64] (fun s64 wr => ∃ i : Nat, i ≤ 6 ∧ s64 = .int .i64 (i : Int) ∧ Hid (Below w.heap.size w wr) ∧ Hid (CellsE wr w4.heap.size) ∧ Hid (w4.heap.size < wr.heap.size)) (fun s64 _ => 6 - (intOf s64).toNat)
  case atStart => exact ⟨0, Nat.zero_le _, rfl, Lib.hid (HB4.out.alloc HB4.out.size _), HCE, Lib.hid (by simp)⟩
  case round =>
    clear HCE
    obtain ⟨i, hi, rfl, HBW, HC, HZ⟩ := hrel
    by_cases hil : i < 6
    · obtain ⟨c0, c1, c2⟩ := HC.out i hil
      have CP := fun W (h : StQ W) => Lib.hid (parEx i hil W h)
      generalize Sk.exs.getD i Sk.ex0 = x at *
      obtain ⟨xs, xt, xe⟩ := x
      dsimp only at c0 c1 c2 CP
      have hiz : (i : Int) < 6 := by omega
      have hx1 : (xt == xt) = true := by simp
      have hx2 : (xe == xe) = true := by simp
      go_wp2_with fail
      refine ((CP _ (HST.out.step (HBW.out.alloc HBW.out.size _))).out).mono ?_
      rintro e w5 ⟨ao5, cap5, rfl, hb5⟩
      have d1 : w5.cell? ⟨wr.heap.size, 1, none⟩ = some (.int .i64 xt) := (hb5.cell (p := ⟨wr.heap.size, 1, none⟩) (by simp)).trans (by simp)
      have d2 : w5.cell? ⟨wr.heap.size, 2, none⟩ = some (.int .i64 xe) := (hb5.cell (p := ⟨wr.heap.size, 2, none⟩) (by simp)).trans (by simp)
      have hb5' := below_nxt (allocB wr _) hb5
      have HB5 := Lib.hid (below_nxt HBW.out hb5')
      have HC5 := Lib.hid (HC.out.step HZ.out hb5')
      have HZ5 := Lib.hid (Nat.lt_of_lt_of_le HZ.out hb5'.size)
      clear hb5 hb5' CP HC HZ HBW c0 c1 c2
      go_wp2
      exact ⟨⟨i + 1, by omega, by first | rfl | go_num, HB5, HC5, HZ5⟩, by simp [intOf]; omega⟩
    · obtain rfl : i = 6 := by omega
      go_wp2
      exact bodyPost_ret (v := .bool true) (by simp [results, Tryd.results11, go_sem]) rfl ⟨rfl, HBW.out⟩
end Go.Proofs.YtecfbncfhehdcaaDoor

