/- slices.Equal, of ends and of strokes. The examples of the chapter, as plain facts. The examples of the chapter: awake. Opposite and Text, of package stroke and of the reference. -/
import Derived.Laws.StructEq
import Derived.Test.YtjpbccpleflkhaaDoorG01
import Derived.Test.YtjpbccpleflkhaaDoorG05
namespace Sk
theorem list_eq {α : Type} {l m : List α} (d : α) (h : l.length = m.length) (he : ∀ i, i < l.length → l.getD i d = m.getD i d) : l = m := by
  apply List.ext_getElem h
  intro i h1 h2
  have := he i h1
  rw [List.getD_eq_getElem?_getD, List.getD_eq_getElem?_getD, List.getElem?_eq_getElem h1, List.getElem?_eq_getElem h2] at this
  exact this
theorem list_ne {α : Type} {l m : List α} {d : α} {i : Nat} (h : l.getD i d ≠ m.getD i d) : l ≠ m := fun e => h (by rw [e])
end Sk
namespace Go.Proofs.YtjpbccpleflkhaaDoor
open Go.RowKit
theorem neqS (a b : Int) (o p : Bool) (W : World) : (binOp .neq 47 (.agg #[.int .i64 a, .bool o]) (.agg #[.int .i64 b, .bool p])).run Tryd.prog W = .ok (.bool (!(a == b && o == p))) W := by
  rw [run_neq_struct, run_equalIn_agg W 9999 _ _ _ (by kernel_rfl) (by kernel_rfl)]
  cases hab : (a == b) <;> cases o <;> cases p <;> simp [Op.eqFields, go_sem, hab]
theorem eqlS (a b : Int) (o p : Bool) (W : World) : (binOp .eql 47 (.agg #[.int .i64 a, .bool o]) (.agg #[.int .i64 b, .bool p])).run Tryd.prog W = .ok (.bool (a == b && o == p)) W := by
  rw [run_eql_struct, run_equalIn_agg W 9999 _ _ _ (by kernel_rfl) (by kernel_rfl)]
  cases hab : (a == b) <;> cases o <;> cases p <;> simp [Op.eqFields, go_sem, hab]
set_option maxHeartbeats 4000000 in
set_option maxRecDepth 100000 in
theorem eqB_any (u v : Value) (l m : List Bool) (w : World) (hu : SeeB w u l) (hv : SeeB w v m) : Calls Tryd.prog 30 #[u, v] w fun e w' => e = .returned (.bool (decide (l = m))) ∧ Below w.heap.size w w' := by
  obtain ⟨ao, cap, rfl, hcap1, hcap2, hC⟩ := hu
  obtain ⟨bo, bcap, rfl, hbcap1, hbcap2, hD⟩ := hv
  have HC := Lib.hid hC
  have HD := Lib.hid hD
  clear hC hD
  by_cases hlm : l.length = m.length
  · have HNo := Lib.hid (fun i (h : l.getD i false ≠ m.getD i false) => decide_eq_false (Sk.list_ne h))
    have HYes := Lib.hid (fun h => decide_eq_true (Sk.list_eq false hlm h))
    have hq : ((l.length : Int) == (m.length : Int)) = true := by rw [hlm]; simp
    have hqn : (l.length == m.length) = true := by rw [hlm]; simp
    have HLM := Lib.hid hlm
    generalize decide (l = m) = q at *
    clear hlm
    go_enter Tryd.func30, Tryd.ntmps30
    go_wp2
    go_loopw [13] (fun s13 wr => ∃ i : Nat, i ≤ l.length ∧ s13 = .int .i64 (i : Int) ∧ Hid (∀ a, a < i → l.getD a false = m.getD a false) ∧ Hid (Below w.heap.size w wr)) (fun s13 _ => l.length - (intOf s13).toNat)
    case atStart => exact ⟨0, Nat.zero_le _, rfl, Lib.hid (fun a h => by omega), Lib.hid (Below.refl _ _)⟩
    case round =>
      obtain ⟨i, hi, rfl, HJ, HBW⟩ := hrel
      by_cases hil : i < l.length
      · obtain ⟨g, off, rfl, hg, c1⟩ := HC.out.at HBW.out hil
        have him : i < m.length := by rw [← HLM.out]; exact hil
        obtain ⟨g', off', rfl, hg', c2⟩ := HD.out.at HBW.out him
        have himz : (i : Int) < (m.length : Int) := by omega
        have HNi := Lib.hid (HNo.out i)
        have HJ2 : Hid (l.getD i false = m.getD i false → ∀ a, a < i + 1 → l.getD a false = m.getD a false) := Lib.hid (fun h a ha => by
          by_cases e : a = i
          · rw [e]; exact h
          · exact HJ.out a (by omega))
        clear HNo HYes HJ HC HD
        generalize l.getD i false = x at *
        generalize m.getD i false = y at *
        have hw2 : IntKind.i64.wrap (i : Int) = (i : Int) := IntWalk.i64_in _ (by omega)
        by_cases hxy : x = y
        · subst hxy
          have HJ3 := Lib.hid (HJ2.out rfl)
          have hxx : (x == x) = true := by simp
          clear HJ2 HNi
          go_wp2
          go_quiet (fail)
          go_wp2
          exact ⟨⟨i + 1, by omega, by first | rfl | go_num, HJ3, Lib.hid (HBW.out.trans (below_drewN _ _))⟩, by simp [intOf]; omega⟩
        · have hv := HNi.out hxy
          have hxx : (x == y) = false := by rw [beq_eq_false_iff_ne]; exact hxy
          clear HJ2 HNi
          go_wp2
          go_quiet (fail)
          go_wp2
          exact bodyPost_ret (v := .bool false) (by simp [results, Tryd.results30, go_sem]) rfl ⟨by rw [hv], HBW.out.trans (below_drewN _ _)⟩
      · obtain rfl : i = l.length := by omega
        have hv := HYes.out HJ.out
        go_wp2
        exact bodyPost_ret (v := .bool true) (by simp [results, Tryd.results30, go_sem]) rfl ⟨by rw [hv], HBW.out⟩
  · have hv : decide (l = m) = false := decide_eq_false (fun e => hlm (by rw [e]))
    have hq : ((l.length : Int) == (m.length : Int)) = false := by rw [beq_eq_false_iff_ne]; omega
    have hqn : (l.length == m.length) = false := by rw [beq_eq_false_iff_ne]; omega
    rw [hv]
    clear hv hlm
    go_enter Tryd.func30, Tryd.ntmps30
    go_wp2
    go_ret
    exact ⟨rfl, Below.refl _ _⟩
set_option maxHeartbeats 4000000 in
set_option maxRecDepth 100000 in
theorem eqK_any (u v : Value) (l m : List Sk.Str) (w : World) (hu : SeeK w u l) (hv : SeeK w v m) : Calls Tryd.prog 23 #[u, v] w fun e w' => e = .returned (.bool (decide (l = m))) ∧ Below w.heap.size w w' := by
  obtain ⟨ao, cap, rfl, hcap1, hcap2, hC⟩ := hu
  obtain ⟨bo, bcap, rfl, hbcap1, hbcap2, hD⟩ := hv
  have HC := Lib.hid hC
  have HD := Lib.hid hD
  clear hC hD
  by_cases hlm : l.length = m.length
  · have HNo := Lib.hid (fun i (h : l.getD i Sk.d0 ≠ m.getD i Sk.d0) => decide_eq_false (Sk.list_ne h))
    have HYes := Lib.hid (fun h => decide_eq_true (Sk.list_eq Sk.d0 hlm h))
    have hq : ((l.length : Int) == (m.length : Int)) = true := by rw [hlm]; simp
    have hqn : (l.length == m.length) = true := by rw [hlm]; simp
    have hqz : ((l.length : Int) != (m.length : Int)) = false := by rw [hlm]; simp
    have HLM := Lib.hid hlm
    generalize decide (l = m) = q at *
    clear hlm hq hqn
    go_enter Tryd.func23, Tryd.ntmps23
    go_wp2
    go_loopw [13] (fun s13 wr => ∃ i : Nat, i ≤ l.length ∧ s13 = .int .i64 (i : Int) ∧ Hid (∀ a, a < i → l.getD a Sk.d0 = m.getD a Sk.d0) ∧ Hid (Below w.heap.size w wr)) (fun s13 _ => l.length - (intOf s13).toNat)
    case atStart => exact ⟨0, Nat.zero_le _, rfl, Lib.hid (fun a h => by omega), Lib.hid (Below.refl _ _)⟩
    case round =>
      obtain ⟨i, hi, rfl, HJ, HBW⟩ := hrel
      by_cases hil : i < l.length
      · obtain ⟨g, off, rfl, hg, c1, c1'⟩ := HC.out.at HBW.out hil
        have him : i < m.length := by rw [← HLM.out]; exact hil
        obtain ⟨g', off', rfl, hg', c2, c2'⟩ := HD.out.at HBW.out him
        have himz : (i : Int) < (m.length : Int) := by omega
        have HNi := Lib.hid (HNo.out i)
        have HJ2 : Hid (l.getD i Sk.d0 = m.getD i Sk.d0 → ∀ a, a < i + 1 → l.getD a Sk.d0 = m.getD a Sk.d0) := Lib.hid (fun h a ha => by
          by_cases e : a = i
          · rw [e]; exact h
          · exact HJ.out a (by omega))
        clear HNo HYes HJ HC HD
        generalize l.getD i Sk.d0 = x at *
        generalize m.getD i Sk.d0 = y at *
        obtain ⟨xa, xo⟩ := x
        obtain ⟨ya, yo⟩ := y
        have hw2 : IntKind.i64.wrap (i : Int) = (i : Int) := IntWalk.i64_in _ (by omega)
        by_cases hxy : ((xa, xo) : Sk.Str) = (ya, yo)
        · obtain ⟨rfl, rfl⟩ := Prod.mk.inj hxy
          have HJ3 := Lib.hid (HJ2.out rfl)
          have hxx : (xa == xa) = true := by simp
          have hoo : (xo == xo) = true := by simp
          have hns := neqS xa xa xo xo
          rw [hxx, hoo, Bool.and_self, Bool.not_true] at hns
          clear HJ2 HNi
          go_wp2
          go_quiet (fail)
          go_wp2
          go_roundw
          case rel => exact ⟨i + 1, by omega, by first | rfl | go_num, HJ3, Lib.hid (HBW.out.trans (below_drewN _ _))⟩
          case measure => simp [intOf]; omega
        · have hv := HNi.out hxy
          have hxx : (xa == ya && xo == yo) = false := by
            rw [Bool.and_eq_false_iff, beq_eq_false_iff_ne, beq_eq_false_iff_ne]
            rcases Decidable.em (xa = ya) with h | h
            · exact .inr (fun e => hxy (by rw [h, e]))
            · exact .inl h
          have hns := neqS xa ya xo yo
          rw [hxx, Bool.not_false] at hns
          clear HJ2 HNi
          go_wp2
          go_quiet (fail)
          go_wp2
          exact bodyPost_ret (v := .bool false) (by simp [results, Tryd.results23, go_sem]) rfl ⟨by rw [hv], HBW.out.trans (below_drewN _ _)⟩
      · obtain rfl : i = l.length := by omega
        have hv := HYes.out HJ.out
        go_wp2
        exact bodyPost_ret (v := .bool true) (by simp [results, Tryd.results23, go_sem]) rfl ⟨by rw [hv], HBW.out⟩
  · have hv : decide (l = m) = false := decide_eq_false (fun e => hlm (by rw [e]))
    have hq : ((l.length : Int) == (m.length : Int)) = false := by rw [beq_eq_false_iff_ne]; omega
    have hqn : (l.length == m.length) = false := by rw [beq_eq_false_iff_ne]; omega
    rw [hv]
    clear hv hlm
    go_enter Tryd.func23, Tryd.ntmps23
    go_wp2
    go_ret
    exact ⟨rfl, Below.refl _ _⟩
end Go.Proofs.YtjpbccpleflkhaaDoor

namespace Sk
open Go
/-- The texts of the examples, where they fail, and how. -/
def exs : List (ByteArray × Int × Int) := [(⟨#[65, 43, 59, 32, 66, 43, 32, 65, 43]⟩, 4, 9), (⟨#[65, 43, 32, 65, 45]⟩, 0, 7), (⟨#[65, 43, 59, 66, 43]⟩, 0, 4), (⟨#[65, 43, 59, 32]⟩, 4, 4), (⟨#[65, 43, 32, 48]⟩, 0, 4), (⟨#[71, 43]⟩, 0, 4)]
def ex0 : ByteArray × Int × Int := (⟨#[]⟩, 0, 0)
theorem exs_all : ∀ i, i < 6 → parV (exs.getD i ex0).1.data.toList = ([], (exs.getD i ex0).2.1, (exs.getD i ex0).2.2) := by
  intro i hi
  rcases (show i = 0 ∨ i = 1 ∨ i = 2 ∨ i = 3 ∨ i = 4 ∨ i = 5 by omega) with rfl | rfl | rfl | rfl | rfl | rfl <;> kernel_rfl
theorem par_one : ∃ L, parV (ByteArray.mk #[65, 43, 59, 32, 66, 43, 32, 67, 43, 59, 32, 65, 45]).data.toList = (L, 0, 0) ∧ L.length = 3 := by
  refine ⟨[([(0, true)], 0), ([(1, true), (2, true)], 0), ([(0, false)], 0)], ?_, rfl⟩
  kernel_rfl
theorem fmt_one : fmtV [([(0, true), (1, false)], 200)] = ([65, 43, 32, 66, 45, 32, 50, 48, 48], 0) := by kernel_rfl
theorem app_one : appV [(0, true), (1, false)] 200 [false, true] = ([true, false], 0) := by kernel_rfl
end Sk

namespace Go.Proofs.YtjpbccpleflkhaaDoor
open Go.RowKit Go.Shelf
theorem seeK_two {W : World} {g : Nat} {a b : Int} {o p : Bool} (hg : g < W.heap.size) (h0 : W.cell? ⟨g, 0, none⟩ = some (.int .i64 a)) (h1 : W.cell? ⟨g, 1, none⟩ = some (.bool o)) (h2 : W.cell? ⟨g, 2, none⟩ = some (.int .i64 b)) (h3 : W.cell? ⟨g, 3, none⟩ = some (.bool p)) : SeeK W (.slice (some ⟨g, 0, none⟩) 2 2) [(a, o), (b, p)] :=
  ⟨_, 2, rfl, by simp, by omega, fun _ => ⟨g, 0, rfl, hg, fun i hi => by
    rcases (show i = 0 ∨ i = 1 by simp at hi; omega) with rfl | rfl
    · exact ⟨h0, h1⟩
    · exact ⟨h2, h3⟩⟩⟩
theorem seeT_one {W : World} {g : Nat} {u : Value} {l : List Sk.Str} {n : Int} (hg : g < W.heap.size) (h0 : W.cell? ⟨g, 0, none⟩ = some u) (h1 : W.cell? ⟨g, 1, none⟩ = some (.int .i64 n)) (hu : SeeK W u l) : SeeT W (.slice (some ⟨g, 0, none⟩) 1 1) [(l, n)] :=
  ⟨_, 1, rfl, by simp, by omega, fun _ => ⟨g, 0, rfl, hg, fun i hi => by
    obtain rfl : i = 0 := by simp at hi; omega
    exact ⟨⟨u, h0, hu⟩, h1⟩⟩⟩
theorem seeB_two {W : World} {g : Nat} {a b : Bool} (hg : g < W.heap.size) (h0 : W.cell? ⟨g, 0, none⟩ = some (.bool a)) (h1 : W.cell? ⟨g, 1, none⟩ = some (.bool b)) : SeeB W (.slice (some ⟨g, 0, none⟩) 2 2) [a, b] :=
  ⟨_, 2, rfl, by simp, by omega, fun _ => ⟨g, 0, rfl, hg, fun i hi => by
    rcases (show i = 0 ∨ i = 1 by simp at hi; omega) with rfl | rfl
    · exact h0
    · exact h1⟩⟩
/-- The parses of the examples. -/
theorem parEx (i : Nat) (hi : i < 6) (W : World) (h : StQ W) : Calls Tryd.prog 12 #[.string (Sk.exs.getD i Sk.ex0).1] W fun e w' => ∃ ao cap, e = .returned (.tuple #[.slice ao 0 cap, .int .i64 (Sk.exs.getD i Sk.ex0).2.1, .int .i64 (Sk.exs.getD i Sk.ex0).2.2]) ∧ Below W.heap.size W w' := by
  have h := sPar_any (Sk.exs.getD i Sk.ex0).1 W h
  rw [Sk.exs_all i hi] at h
  exact h.mono (by rintro e w' ⟨ao, cap, rfl, -, hb⟩; exact ⟨ao, cap, rfl, hb⟩)
theorem parOne (W : World) (h : StQ W) : Calls Tryd.prog 12 #[.string ⟨#[65, 43, 59, 32, 66, 43, 32, 67, 43, 59, 32, 65, 45]⟩] W fun e w' => ∃ ao cap, e = .returned (.tuple #[.slice ao 3 cap, .int .i64 0, .int .i64 0]) ∧ Below W.heap.size W w' := by
  obtain ⟨L, h1, h2⟩ := Sk.par_one
  have h := sPar_any ⟨#[65, 43, 59, 32, 66, 43, 32, 67, 43, 59, 32, 65, 45]⟩ W h
  rw [h1] at h
  exact h.mono (by rintro e w' ⟨ao, cap, rfl, -, hb⟩; exact ⟨ao, cap, by rw [h2], hb⟩)
theorem fmtOne (v : Value) (W : World) (h : StQ W) (hs : SeeT W v [([(0, true), (1, false)], 200)]) : Calls Tryd.prog 51 #[v] W fun e w' => e = .returned (.tuple #[.string ⟨#[65, 43, 32, 66, 45, 32, 50, 48, 48]⟩, .int .i64 0]) ∧ Below W.heap.size W w' := by
  have h := sFmt_any v _ W h.st hs
  rw [Sk.fmt_one] at h
  exact h
theorem appOne (v ev : Value) (W : World) (hs : SeeK W v [(0, true), (1, false)]) (he : SeeB W ev [false, true]) : Calls Tryd.prog 37 #[.agg #[v, .int .i64 200], ev] W fun e w' => ∃ ao cap, e = .returned (.tuple #[.slice ao 2 cap, .int .i64 0]) ∧ SeeB w' (.slice ao 2 cap) [true, false] ∧ Below W.heap.size W w' := by
  have h := sApp_any v ev _ 200 _ W hs he
  rw [Sk.app_one] at h
  exact h.mono (by rintro e w' ⟨u, rfl, hu, hb, -⟩; obtain ⟨ao, cap, rfl, -⟩ := id hu; exact ⟨ao, cap, rfl, hu, hb⟩)
theorem eqOne (u v : Value) (W : World) (hs : SeeB W u [true, false]) (he : SeeB W v [true, false]) : Calls Tryd.prog 30 #[u, v] W fun e w' => e = .returned (.bool true) ∧ Below W.heap.size W w' := eqB_any u v _ _ W hs he
/-- Where the examples lie. -/
def CellsE (W : World) (g : Nat) : Prop := ∀ i, i < 6 → W.cell? ⟨g, i * 3, none⟩ = some (.string (Sk.exs.getD i Sk.ex0).1) ∧ W.cell? ⟨g, i * 3 + 1, none⟩ = some (.int .i64 (Sk.exs.getD i Sk.ex0).2.1) ∧ W.cell? ⟨g, i * 3 + 2, none⟩ = some (.int .i64 (Sk.exs.getD i Sk.ex0).2.2)
theorem CellsE.step {W W' : World} {g : Nat} (h : CellsE W g) (hg : g < W.heap.size) (hb : Below W.heap.size W W') : CellsE W' g := fun i hi =>
  ⟨(hb.cell (p := ⟨g, i * 3, none⟩) hg).trans (h i hi).1, (hb.cell (p := ⟨g, i * 3 + 1, none⟩) hg).trans (h i hi).2.1, (hb.cell (p := ⟨g, i * 3 + 2, none⟩) hg).trans (h i hi).2.2⟩
set_option maxHeartbeats 8000000 in
set_option maxRecDepth 100000 in
theorem awake_any (w : World) (hst : StQ w) : Calls Tryd.prog 11 #[] w fun e w' => e = .returned (.bool true) ∧ Below w.heap.size w w' := by
  have HST := Lib.hid hst
  clear hst
  obtain ⟨W1, hW1⟩ : ∃ W1, w.alloc (.cells #[.int .i64 0, .bool true, .int .i64 1, .bool false] 47) = W1 := ⟨_, rfl⟩
  have hz1 : W1.heap.size = w.heap.size + 1 := by rw [← hW1]; simp
  have hB1 : Below w.heap.size w W1 := by rw [← hW1]; exact allocB _ _
  have hK1 : SeeK W1 (.slice (some ⟨w.heap.size, 0, none⟩) 2 2) [(0, true), (1, false)] := by rw [← hW1]; exact seeK_two (by simp) (by simp) (by simp) (by simp) (by simp)
  obtain ⟨hP2, hB2, hz2⟩ := boxP_new W1 (.slice (some ⟨w.heap.size, 0, none⟩) 2 2) (.int .i64 200) 70
  rw [hz1] at hP2
  have HB2 := Lib.hid (below_nxt hB1 hB2)
  have HK2 := Lib.hid (hK1.step hB2)
  have HP2 := Lib.hid hP2
  have hT3 : Hid (SeeT ((W1.alloc (.cells #[.slice (some ⟨w.heap.size, 0, none⟩) 2 2, .int .i64 200] 70)).alloc (.cells #[.slice (some ⟨w.heap.size, 0, none⟩) 2 2, .int .i64 200] 70)) (.slice (some ⟨w.heap.size + 1 + 1, 0, none⟩) 1 1) [([(0, true), (1, false)], 200)]) := by
    obtain ⟨hP3, hB3, hz3⟩ := boxP_new (W1.alloc (.cells #[.slice (some ⟨w.heap.size, 0, none⟩) 2 2, .int .i64 200] 70)) (.slice (some ⟨w.heap.size, 0, none⟩) 2 2) (.int .i64 200) 70
    rw [hz2, hz1] at hP3
    exact Lib.hid (seeT_one hP3.1 hP3.2.1 hP3.2.2 (HK2.out.step hB3))
  clear hK1 hP2
  go_enter Tryd.func11, Tryd.ntmps11
  go_wp2_with fail
  try rw [hW1]
  refine (fmtOne _ _ (HST.out.step (HB2.out.alloc HB2.out.size _)) hT3.out).mono ?_
  rintro e w1 ⟨rfl, hb1⟩
  have hb1' := below_nxt (allocB (W1.alloc (.cells #[.slice (some ⟨w.heap.size, 0, none⟩) 2 2, .int .i64 200] 70)) (.cells #[.slice (some ⟨w.heap.size, 0, none⟩) 2 2, .int .i64 200] 70)) hb1
  have HB1 := Lib.hid (below_nxt HB2.out hb1')
  have HK1 := Lib.hid (HK2.out.step hb1')
  obtain ⟨p0, p1, p2⟩ := HP2.out.step hb1'
  have HP1 := Lib.hid (HP2.out.step hb1')
  clear hb1 hb1' HP2 HK2 hT3 HB2 hB1 hz1 hB2 hz2 hW1
  go_wp2_with fail
  refine (appOne _ _ _ (HK1.out.step (allocB _ _)) (seeB_two (by simp) (by simp) (by simp))).mono ?_
  rintro e w2 ⟨ao, cap, rfl, hs2, hb2⟩
  have HB2 := Lib.hid (below_nxt (HB1.out.alloc HB1.out.size _) hb2)
  have HS2 := Lib.hid hs2
  clear hs2 hb2 HB1 HK1 p0 p1 p2 HP1
  go_wp2_with fail
  refine (parOne _ (HST.out.step HB2.out)).mono ?_
  rintro e w3 ⟨ao3, cap3, rfl, hb3⟩
  have HB3 := Lib.hid (below_nxt HB2.out hb3)
  have HS3 := Lib.hid (HS2.out.step hb3)
  clear hb3 HB2 HS2
  go_wp2_with fail
  refine (eqOne _ _ _ (HS3.out.step (allocB _ _)) (seeB_two (by simp) (by simp) (by simp))).mono ?_
  rintro e w4 ⟨rfl, hb4⟩
  have HB4 := Lib.hid (below_nxt (HB3.out.alloc HB3.out.size _) hb4)
  clear hb4 HB3 HS3
  have HCE : Hid (CellsE (w4.alloc (.cells #[.string ⟨#[65, 43, 59, 32, 66, 43, 32, 65, 43]⟩, .int .i64 4, .int .i64 9, .string ⟨#[65, 43, 32, 65, 45]⟩, .int .i64 0, .int .i64 7, .string ⟨#[65, 43, 59, 66, 43]⟩, .int .i64 0, .int .i64 4, .string ⟨#[65, 43, 59, 32]⟩, .int .i64 4, .int .i64 4, .string ⟨#[65, 43, 32, 48]⟩, .int .i64 0, .int .i64 4, .string ⟨#[71, 43]⟩, .int .i64 0, .int .i64 4] 90)) w4.heap.size) := Lib.hid (by
    intro i hi
    rcases (show i = 0 ∨ i = 1 ∨ i = 2 ∨ i = 3 ∨ i = 4 ∨ i = 5 by omega) with rfl | rfl | rfl | rfl | rfl | rfl <;> (refine ⟨?_, ?_, ?_⟩ <;> simp [Sk.exs]))
  go_wp2
  go_loopw [64] (fun s64 wr => ∃ i : Nat, i ≤ 6 ∧ s64 = .int .i64 (i : Int) ∧ Hid (Below w.heap.size w wr) ∧ Hid (CellsE wr w4.heap.size) ∧ Hid (w4.heap.size < wr.heap.size)) (fun s64 _ => 6 - (intOf s64).toNat)
  case atStart => exact ⟨0, Nat.zero_le _, rfl, Lib.hid (HB4.out.alloc HB4.out.size _), HCE, Lib.hid (by simp)⟩
  case round =>
    clear HCE
    obtain ⟨i, hi, rfl, HBW, HC, HZ⟩ := hrel
    by_cases hil : i < 6
    · obtain ⟨c0, c1, c2⟩ := HC.out i hil
      have CP := fun W (h : StQ W) => Lib.hid (parEx i hil W h)
      generalize Sk.exs.getD i Sk.ex0 = x at *
      obtain ⟨xs, xt, xe⟩ := x
      dsimp only at c0 c1 c2 CP
      have hiz : (i : Int) < 6 := by omega
      have hx1 : (xt == xt) = true := by simp
      have hx2 : (xe == xe) = true := by simp
      go_wp2_with fail
      refine ((CP _ (HST.out.step (HBW.out.alloc HBW.out.size _))).out).mono ?_
      rintro e w5 ⟨ao5, cap5, rfl, hb5⟩
      have d1 : w5.cell? ⟨wr.heap.size, 1, none⟩ = some (.int .i64 xt) := (hb5.cell (p := ⟨wr.heap.size, 1, none⟩) (by simp)).trans (by simp)
      have d2 : w5.cell? ⟨wr.heap.size, 2, none⟩ = some (.int .i64 xe) := (hb5.cell (p := ⟨wr.heap.size, 2, none⟩) (by simp)).trans (by simp)
      have hb5' := below_nxt (allocB wr _) hb5
      have HB5 := Lib.hid (below_nxt HBW.out hb5')
      have HC5 := Lib.hid (HC.out.step HZ.out hb5')
      have HZ5 := Lib.hid (Nat.lt_of_lt_of_le HZ.out hb5'.size)
      clear hb5 hb5' CP HC HZ HBW c0 c1 c2
      go_wp2
      exact ⟨⟨i + 1, by omega, by first | rfl | go_num, HB5, HC5, HZ5⟩, by simp [intOf]; omega⟩
    · obtain rfl : i = 6 := by omega
      go_wp2
      exact bodyPost_ret (v := .bool true) (by simp [results, Tryd.results11, go_sem]) rfl ⟨rfl, HBW.out⟩
end Go.Proofs.YtjpbccpleflkhaaDoor

namespace Sk
open Go
def oppV (a : Int) (o : Bool) : Str × Int := if chkS a = 0 then ((a, !o), 0) else ((0, false), chkS a)
def txtV (a : Int) (o : Bool) : List UInt8 × Int := if chkS a = 0 then (strT (a, o), 0) else ([], chkS a)
end Sk
namespace Go.Proofs.YtjpbccpleflkhaaDoor
open Go.RowKit
def OppP (q : Sk.Str × Int) (w : World) (e : Ending) (w' : World) : Prop := e = .returned (.tuple #[.agg #[.int .i64 q.1.1, .bool q.1.2], .int .i64 q.2]) ∧ Below w.heap.size w w'
def TxtP (q : List UInt8 × Int) (w : World) (e : Ending) (w' : World) : Prop := e = .returned (.tuple #[.string ⟨q.1.toArray⟩, .int .i64 q.2]) ∧ Below w.heap.size w w'
theorem rAct_any (n : Int) (w : World) : Calls Tryd.prog 106 #[.int .i64 n] w fun e w' => e = .returned (.bool (Sk.act n)) ∧ Below w.heap.size w w' := by
  go_enter Tryd.func106, Tryd.ntmps106
  go_wp2
  all_goals (go_ret; refine ⟨ret_bool ?_, Below.refl _ _⟩; unfold Sk.act; go_light; grind)
set_option maxRecDepth 100000 in
theorem rWri_any (k : Nat) (o : Bool) (hk : k < 6) (w : World) : Calls Tryd.prog 105 #[.agg #[.int .i64 (k : Int), .bool o]] w fun e w' => e = .returned (.string ⟨(Sk.strT ((k : Int), o)).toArray⟩) ∧ Below w.heap.size w w' := by
  have HB := Lib.hid (allocB w (.cells #[.int .i64 (k : Int), .bool o] 47))
  rcases (show k = 0 ∨ k = 1 ∨ k = 2 ∨ k = 3 ∨ k = 4 ∨ k = 5 by omega) with rfl | rfl | rfl | rfl | rfl | rfl <;> cases o
  all_goals
    clear hk
    go_enter Tryd.func105, Tryd.ntmps105
    go_wp2
    go_ret
    exact ⟨by kernel_rfl, HB.out⟩
end Go.Proofs.YtjpbccpleflkhaaDoor
