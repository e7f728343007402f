/- The examples of chapter 20. -/
import Derived.Test.YthjkcncfppndkaaDoorGL
namespace Pt
theorem pre2 : pre (cat 2) 5 = [⟨#[49]⟩, ⟨#[50]⟩, ⟨#[52]⟩, ⟨#[51]⟩, ⟨#[53]⟩, ⟨#[49, 50]⟩, ⟨#[49, 52]⟩] := by decide +kernel
theorem ports2 : srt (pre (cat 2) 5) = [⟨#[49]⟩, ⟨#[49, 50]⟩, ⟨#[49, 52]⟩, ⟨#[50]⟩, ⟨#[51]⟩, ⟨#[52]⟩, ⟨#[53]⟩] := by
  have a0 : ([49] : List UInt8) ≤ [49, 50] := by decide
  have b0 : ¬ (([49, 50] : List UInt8) ≤ [49]) := by decide
  have a1 : ([49] : List UInt8) ≤ [49, 52] := by decide
  have b1 : ¬ (([49, 52] : List UInt8) ≤ [49]) := by decide
  have a2 : ([49] : List UInt8) ≤ [50] := by decide
  have b2 : ¬ (([50] : List UInt8) ≤ [49]) := by decide
  have a3 : ([49] : List UInt8) ≤ [51] := by decide
  have b3 : ¬ (([51] : List UInt8) ≤ [49]) := by decide
  have a4 : ([49] : List UInt8) ≤ [52] := by decide
  have b4 : ¬ (([52] : List UInt8) ≤ [49]) := by decide
  have a5 : ([49] : List UInt8) ≤ [53] := by decide
  have b5 : ¬ (([53] : List UInt8) ≤ [49]) := by decide
  have a6 : ([49, 50] : List UInt8) ≤ [49, 52] := by decide
  have b6 : ¬ (([49, 52] : List UInt8) ≤ [49, 50]) := by decide
  have a7 : ([49, 50] : List UInt8) ≤ [50] := by decide
  have b7 : ¬ (([50] : List UInt8) ≤ [49, 50]) := by decide
  have a8 : ([49, 50] : List UInt8) ≤ [51] := by decide
  have b8 : ¬ (([51] : List UInt8) ≤ [49, 50]) := by decide
  have a9 : ([49, 50] : List UInt8) ≤ [52] := by decide
  have b9 : ¬ (([52] : List UInt8) ≤ [49, 50]) := by decide
  have a10 : ([49, 50] : List UInt8) ≤ [53] := by decide
  have b10 : ¬ (([53] : List UInt8) ≤ [49, 50]) := by decide
  have a11 : ([49, 52] : List UInt8) ≤ [50] := by decide
  have b11 : ¬ (([50] : List UInt8) ≤ [49, 52]) := by decide
  have a12 : ([49, 52] : List UInt8) ≤ [51] := by decide
  have b12 : ¬ (([51] : List UInt8) ≤ [49, 52]) := by decide
  have a13 : ([49, 52] : List UInt8) ≤ [52] := by decide
  have b13 : ¬ (([52] : List UInt8) ≤ [49, 52]) := by decide
  have a14 : ([49, 52] : List UInt8) ≤ [53] := by decide
  have b14 : ¬ (([53] : List UInt8) ≤ [49, 52]) := by decide
  have a15 : ([50] : List UInt8) ≤ [51] := by decide
  have b15 : ¬ (([51] : List UInt8) ≤ [50]) := by decide
  have a16 : ([50] : List UInt8) ≤ [52] := by decide
  have b16 : ¬ (([52] : List UInt8) ≤ [50]) := by decide
  have a17 : ([50] : List UInt8) ≤ [53] := by decide
  have b17 : ¬ (([53] : List UInt8) ≤ [50]) := by decide
  have a18 : ([51] : List UInt8) ≤ [52] := by decide
  have b18 : ¬ (([52] : List UInt8) ≤ [51]) := by decide
  have a19 : ([51] : List UInt8) ≤ [53] := by decide
  have b19 : ¬ (([53] : List UInt8) ≤ [51]) := by decide
  have a20 : ([52] : List UInt8) ≤ [53] := by decide
  have b20 : ¬ (([53] : List UInt8) ≤ [52]) := by decide
  rw [pre2]
  simp only [srt, List.map_cons, List.map_nil]
  simp [List.mergeSort, List.MergeSort.Internal.splitInTwo, *]
theorem next2 : nextV (cat 2) 1 true true = (1, true) := by decide +kernel
end Pt
namespace Go.Proofs.YthjkcncfppndkaaDoor
open Go.RowKit
theorem lit_see (W : World) (T : TypeId) (l : List ByteArray) (cs : Array Value) (n : Nat) (hn : n = l.length) (hs : l.length ≤ 1000) (hc : cs = (l.map fun s => Value.string s).toArray) (h0 : 0 < l.length) : SeeS (W.alloc (.cells cs T)) (.slice (some ⟨W.heap.size, 0, none⟩) n n) l := by
  subst hn
  refine .inr ⟨_, 0, _, rfl, by simp, Nat.le_refl _, by omega, fun i hi => ?_⟩
  rw [Nat.zero_add]
  refine cell_new rfl ?_
  rw [hc, List.getElem?_toArray, List.getElem?_map, List.getElem?_eq_getElem hi, List.getD_eq_getElem?_getD, List.getElem?_eq_getElem hi]
  rfl
theorem lit_pass (W : World) (T T2 : TypeId) (t : ByteArray) (l : List ByteArray) (a : Bool) (cs : Array Value) (n k : Nat) (hk : k = W.heap.size + 1) (hn : n = l.length) (hs : l.length ≤ 1000) (hc : cs = (l.map fun s => Value.string s).toArray) (h0 : 0 < l.length) :
    SeeQ ((W.alloc (.cells cs T)).alloc (.cells #[.string t, .slice (some ⟨W.heap.size, 0, none⟩) n n, .bool a] T2)) (.slice (some ⟨k, 0, none⟩) 1 1) (some (t, l, a)) :=
  ⟨k, .slice (some ⟨W.heap.size, 0, none⟩) n n, 1, rfl, by subst hk; simp, cell_new (by subst hk; simp) rfl, cell_new (by subst hk; simp) rfl, cell_new (by subst hk; simp) rfl, (lit_see W T l cs n hn hs hc h0).step ((Below.refl _ _).alloc (Nat.le_refl _) _)⟩
set_option maxHeartbeats 8000000 in
set_option maxRecDepth 100000 in
theorem awake20_any (w : World) (hx : Lx w) : Calls Tryd.prog 10 #[] w fun e w' => e = .returned (.bool true) ∧ Below w.heap.size w w' := by
  have HX0 := Lib.hid hx
  clear hx
  have C1 := fun W => Lib.hid (show Calls Tryd.prog 19 #[.int .i64 2] W fun e w' => ∃ v, e = .returned (.tuple #[v, .int .i64 0]) ∧ SeeS w' v [⟨#[49]⟩, ⟨#[49, 50]⟩, ⟨#[49, 52]⟩, ⟨#[50]⟩, ⟨#[51]⟩, ⟨#[52]⟩, ⟨#[53]⟩] ∧ Below W.heap.size W w' from by have := ports_any 2 (by omega) W; rw [Pt.ports2] at this; exact this)
  have C2 := fun W => Lib.hid (show Calls Tryd.prog 26 #[.int .i64 2, .int .i64 1] W fun e w' => ∃ v, e = .returned (.tuple #[v, .int .i64 0]) ∧ SeeP w' v (some (⟨#[52]⟩, [⟨#[49]⟩], false)) ∧ Below W.heap.size W w' from passes_any 2 1 (by omega) (by omega) (by decide) W)
  have C3 := fun W => Lib.hid (show Calls Tryd.prog 28 #[.int .i64 2, .int .i64 1] W fun e w' => ∃ v, e = .returned (.tuple #[v, .int .i64 0]) ∧ SeeS w' v [⟨#[50]⟩] ∧ Below W.heap.size W w' from vents_any 2 1 (by omega) (by omega) (by decide) W)
  have C4 := fun W => Lib.hid (show Calls Tryd.prog 34 #[.int .i64 2, .int .i64 1, .bool true, .bool true] W fun e w' => e = .returned (.tuple #[.int .i64 1, .bool true, .int .i64 0]) ∧ Below W.heap.size W w' from by have := next_any 2 1 true true (by omega) (by omega) (by decide) W; rw [Pt.next2] at this; exact this)
  have C5 := fun W => Lib.hid (show Calls Tryd.prog 26 #[.int .i64 5, .int .i64 0] W fun e w' => ∃ v, e = .returned (.tuple #[v, .int .i64 0]) ∧ SeeP w' v (some (⟨#[50]⟩, [⟨#[49]⟩], false)) ∧ Below W.heap.size W w' from passes_any 5 0 (by omega) (by omega) (by decide) W)
  have C6 := fun W => Lib.hid (show Calls Tryd.prog 28 #[.int .i64 5, .int .i64 1] W fun e w' => ∃ v, e = .returned (.tuple #[v, .int .i64 0]) ∧ SeeS w' v [⟨#[50]⟩] ∧ Below W.heap.size W w' from vents_any 5 1 (by omega) (by omega) (by decide) W)
  have C7 := fun W => Lib.hid (show Calls Tryd.prog 26 #[.int .i64 9, .int .i64 0] W fun e w' => ∃ v, e = .returned (.tuple #[v, .int .i64 0]) ∧ SeeP w' v (some (⟨#[50]⟩, [⟨#[49]⟩, ⟨#[49, 49]⟩], true)) ∧ Below W.heap.size W w' from passes_any 9 0 (by omega) (by omega) (by decide) W)
  have C8 := fun W => Lib.hid (show Calls Tryd.prog 26 #[.int .i64 8, .int .i64 0] W fun e w' => ∃ v, e = .returned (.tuple #[v, .int .i64 0]) ∧ SeeP w' v (some (⟨#[50]⟩, [⟨#[49]⟩, ⟨#[49, 49]⟩], false)) ∧ Below W.heap.size W w' from passes_any 8 0 (by omega) (by omega) (by decide) W)
  have CB := fun W (h : Lx W) => Lib.hid (check_button W h)
  have CD := fun W (h : Lx W) => Lib.hid (check_delay W h)
  go_enter Tryd.func10, Tryd.ntmps10
  go_wp2_with fail
  refine ((C1 w).out).mono ?_
  rintro e w1 ⟨v1, rfl, hs1, hb1⟩
  clear C1
  have HX1 := Lib.hid (HX0.out.next hb1)
  have HB1 := Lib.hid hb1
  clear HX0
  have v1_1 := Lib.hid hs1
  clear hb1 hs1
  go_wp2_with fail
  refine ((C2 w1).out).mono ?_
  rintro e w2 ⟨v2, rfl, hs2, hb2⟩
  clear C2
  have v1_2 := Lib.hid (v1_1.out.step hb2)
  have HX2 := Lib.hid (HX1.out.next hb2)
  have HB2 := Lib.hid (below_nxt HB1.out hb2)
  clear v1_1 HX1 HB1
  have v2_2 := Lib.hid hs2
  clear hb2 hs2
  go_wp2_with fail
  refine ((C3 w2).out).mono ?_
  rintro e w3 ⟨v3, rfl, hs3, hb3⟩
  clear C3
  have v1_3 := Lib.hid (v1_2.out.step hb3)
  have v2_3 := Lib.hid (v2_2.out.step hb3)
  have HX3 := Lib.hid (HX2.out.next hb3)
  have HB3 := Lib.hid (below_nxt HB2.out hb3)
  clear v1_2 v2_2 HX2 HB2
  have v3_3 := Lib.hid hs3
  clear hb3 hs3
  go_wp2_with fail
  refine ((C4 w3).out).mono ?_
  rintro e w4 ⟨rfl, hb4⟩
  clear C4
  have v1_4 := Lib.hid (v1_3.out.step hb4)
  have v2_4 := Lib.hid (v2_3.out.step hb4)
  have v3_4 := Lib.hid (v3_3.out.step hb4)
  have HX4 := Lib.hid (HX3.out.next hb4)
  have HB4 := Lib.hid (below_nxt HB3.out hb4)
  clear v1_3 v2_3 v3_3 HX3 HB3
  clear hb4
  go_wp2_with fail
  refine ((C5 w4).out).mono ?_
  rintro e w5 ⟨v5, rfl, hs5, hb5⟩
  clear C5
  have v1_5 := Lib.hid (v1_4.out.step hb5)
  have v2_5 := Lib.hid (v2_4.out.step hb5)
  have v3_5 := Lib.hid (v3_4.out.step hb5)
  have HX5 := Lib.hid (HX4.out.next hb5)
  have HB5 := Lib.hid (below_nxt HB4.out hb5)
  clear v1_4 v2_4 v3_4 HX4 HB4
  have v5_5 := Lib.hid hs5
  clear hb5 hs5
  go_wp2_with fail
  refine ((C6 w5).out).mono ?_
  rintro e w6 ⟨v6, rfl, hs6, hb6⟩
  clear C6
  have v1_6 := Lib.hid (v1_5.out.step hb6)
  have v2_6 := Lib.hid (v2_5.out.step hb6)
  have v3_6 := Lib.hid (v3_5.out.step hb6)
  have v5_6 := Lib.hid (v5_5.out.step hb6)
  have HX6 := Lib.hid (HX5.out.next hb6)
  have HB6 := Lib.hid (below_nxt HB5.out hb6)
  clear v1_5 v2_5 v3_5 v5_5 HX5 HB5
  have v6_6 := Lib.hid hs6
  clear hb6 hs6
  go_wp2_with fail
  refine ((C7 w6).out).mono ?_
  rintro e w7 ⟨v7, rfl, hs7, hb7⟩
  clear C7
  have v1_7 := Lib.hid (v1_6.out.step hb7)
  have v2_7 := Lib.hid (v2_6.out.step hb7)
  have v3_7 := Lib.hid (v3_6.out.step hb7)
  have v5_7 := Lib.hid (v5_6.out.step hb7)
  have v6_7 := Lib.hid (v6_6.out.step hb7)
  have HX7 := Lib.hid (HX6.out.next hb7)
  have HB7 := Lib.hid (below_nxt HB6.out hb7)
  clear v1_6 v2_6 v3_6 v5_6 v6_6 HX6 HB6
  have v7_7 := Lib.hid hs7
  clear hb7 hs7
  go_wp2_with fail
  refine ((C8 w7).out).mono ?_
  rintro e w8 ⟨v8, rfl, hs8, hb8⟩
  clear C8
  have v1_8 := Lib.hid (v1_7.out.step hb8)
  have v2_8 := Lib.hid (v2_7.out.step hb8)
  have v3_8 := Lib.hid (v3_7.out.step hb8)
  have v5_8 := Lib.hid (v5_7.out.step hb8)
  have v6_8 := Lib.hid (v6_7.out.step hb8)
  have v7_8 := Lib.hid (v7_7.out.step hb8)
  have HX8 := Lib.hid (HX7.out.next hb8)
  have HB8 := Lib.hid (below_nxt HB7.out hb8)
  clear v1_7 v2_7 v3_7 v5_7 v6_7 v7_7 HX7 HB7
  have v8_8 := Lib.hid hs8
  clear hb8 hs8
  go_wp2_with fail
  refine ((CB w8 HX8.out).out).mono ?_
  rintro e w9 ⟨rfl, hb9⟩
  clear CB
  have v1_9 := Lib.hid (v1_8.out.step hb9)
  have v2_9 := Lib.hid (v2_8.out.step hb9)
  have v3_9 := Lib.hid (v3_8.out.step hb9)
  have v5_9 := Lib.hid (v5_8.out.step hb9)
  have v6_9 := Lib.hid (v6_8.out.step hb9)
  have v7_9 := Lib.hid (v7_8.out.step hb9)
  have v8_9 := Lib.hid (v8_8.out.step hb9)
  have HX9 := Lib.hid (HX8.out.next hb9)
  have HB9 := Lib.hid (below_nxt HB8.out hb9)
  clear v1_8 v2_8 v3_8 v5_8 v6_8 v7_8 v8_8 HX8 HB8
  clear hb9
  go_wp2_with fail
  refine ((CD w9 HX9.out).out).mono ?_
  rintro e w10 ⟨rfl, hb10⟩
  clear CD
  have v1_10 := Lib.hid (v1_9.out.step hb10)
  have v2_10 := Lib.hid (v2_9.out.step hb10)
  have v3_10 := Lib.hid (v3_9.out.step hb10)
  have v5_10 := Lib.hid (v5_9.out.step hb10)
  have v6_10 := Lib.hid (v6_9.out.step hb10)
  have v7_10 := Lib.hid (v7_9.out.step hb10)
  have v8_10 := Lib.hid (v8_9.out.step hb10)
  have HX10 := Lib.hid (HX9.out.next hb10)
  have HB10 := Lib.hid (below_nxt HB9.out hb10)
  clear v1_9 v2_9 v3_9 v5_9 v6_9 v7_9 v8_9 HX9 HB9
  clear hb10
  go_wp2_with fail
  have LA11 : Below w10.heap.size w10 (w10.alloc (.cells #[.string ⟨#[49]⟩, .string ⟨#[49, 50]⟩, .string ⟨#[49, 52]⟩, .string ⟨#[50]⟩, .string ⟨#[51]⟩, .string ⟨#[52]⟩, .string ⟨#[53]⟩] 9)) := (Below.refl _ _).alloc (Nat.le_refl _) _
  refine (eqS_any v1 _ _ _ (w10.alloc (.cells #[.string ⟨#[49]⟩, .string ⟨#[49, 50]⟩, .string ⟨#[49, 52]⟩, .string ⟨#[50]⟩, .string ⟨#[51]⟩, .string ⟨#[52]⟩, .string ⟨#[53]⟩] 9)) (v1_10.out.step LA11) (lit_see w10 _ [⟨#[49]⟩, ⟨#[49, 50]⟩, ⟨#[49, 52]⟩, ⟨#[50]⟩, ⟨#[51]⟩, ⟨#[52]⟩, ⟨#[53]⟩] _ 7 rfl (by decide) rfl (by decide)) rfl).mono ?_
  rintro e w11 ⟨rfl, hb11⟩
  have LL11 := below_nxt LA11 hb11
  clear v1_10
  have v2_11 := Lib.hid (v2_10.out.step LL11)
  have v3_11 := Lib.hid (v3_10.out.step LL11)
  have v5_11 := Lib.hid (v5_10.out.step LL11)
  have v6_11 := Lib.hid (v6_10.out.step LL11)
  have v7_11 := Lib.hid (v7_10.out.step LL11)
  have v8_11 := Lib.hid (v8_10.out.step LL11)
  have HX11 := Lib.hid (HX10.out.next LL11)
  have HB11 := Lib.hid (below_nxt HB10.out LL11)
  clear v2_10 v3_10 v5_10 v6_10 v7_10 v8_10 HX10 HB10
  clear hb11 LA11 LL11
  go_wp2_with fail
  refine (own_any v2 _ w11 v2_11.out).mono ?_
  rintro e w12 ⟨o12, rfl, hq12, hb12⟩
  clear v2_11
  have v3_12 := Lib.hid (v3_11.out.step hb12)
  have v5_12 := Lib.hid (v5_11.out.step hb12)
  have v6_12 := Lib.hid (v6_11.out.step hb12)
  have v7_12 := Lib.hid (v7_11.out.step hb12)
  have v8_12 := Lib.hid (v8_11.out.step hb12)
  have HX12 := Lib.hid (HX11.out.next hb12)
  have HB12 := Lib.hid (below_nxt HB11.out hb12)
  clear v3_11 v5_11 v6_11 v7_11 v8_11 HX11 HB11
  have O12 := Lib.hid hq12
  clear hb12 hq12
  go_wp2_with fail
  have LA13 : Below w12.heap.size w12 ((w12.alloc (.cells #[.string ⟨#[49]⟩] 9)).alloc (.cells #[.string ⟨#[52]⟩, .slice (some ⟨w12.heap.size, 0, none⟩) 1 1, .bool false] 78)) := ((Below.refl _ _).alloc (Nat.le_refl _) _).alloc (by simp) _
  refine (same_yes o12 _ _ ((w12.alloc (.cells #[.string ⟨#[49]⟩] 9)).alloc (.cells #[.string ⟨#[52]⟩, .slice (some ⟨w12.heap.size, 0, none⟩) 1 1, .bool false] 78)) (O12.out.step LA13) (lit_pass w12 _ _ ⟨#[52]⟩ [⟨#[49]⟩] false _ 1 _ rfl rfl (by decide) rfl (by decide))).mono ?_
  rintro e w13 ⟨rfl, hb13⟩
  have LL13 := below_nxt LA13 hb13
  clear O12
  have v3_13 := Lib.hid (v3_12.out.step LL13)
  have v5_13 := Lib.hid (v5_12.out.step LL13)
  have v6_13 := Lib.hid (v6_12.out.step LL13)
  have v7_13 := Lib.hid (v7_12.out.step LL13)
  have v8_13 := Lib.hid (v8_12.out.step LL13)
  have HX13 := Lib.hid (HX12.out.next LL13)
  have HB13 := Lib.hid (below_nxt HB12.out LL13)
  clear v3_12 v5_12 v6_12 v7_12 v8_12 HX12 HB12
  clear hb13 LA13 LL13
  go_wp2_with fail
  have LA14 : Below w13.heap.size w13 (w13.alloc (.cells #[.string ⟨#[50]⟩] 9)) := (Below.refl _ _).alloc (Nat.le_refl _) _
  refine (eqS_any v3 _ _ _ (w13.alloc (.cells #[.string ⟨#[50]⟩] 9)) (v3_13.out.step LA14) (lit_see w13 _ [⟨#[50]⟩] _ 1 rfl (by decide) rfl (by decide)) rfl).mono ?_
  rintro e w14 ⟨rfl, hb14⟩
  have LL14 := below_nxt LA14 hb14
  clear v3_13
  have v5_14 := Lib.hid (v5_13.out.step LL14)
  have v6_14 := Lib.hid (v6_13.out.step LL14)
  have v7_14 := Lib.hid (v7_13.out.step LL14)
  have v8_14 := Lib.hid (v8_13.out.step LL14)
  have HX14 := Lib.hid (HX13.out.next LL14)
  have HB14 := Lib.hid (below_nxt HB13.out LL14)
  clear v5_13 v6_13 v7_13 v8_13 HX13 HB13
  clear hb14 LA14 LL14
  go_wp2_with fail
  refine (own_any v5 _ w14 v5_14.out).mono ?_
  rintro e w15 ⟨o15, rfl, hq15, hb15⟩
  clear v5_14
  have v6_15 := Lib.hid (v6_14.out.step hb15)
  have v7_15 := Lib.hid (v7_14.out.step hb15)
  have v8_15 := Lib.hid (v8_14.out.step hb15)
  have HX15 := Lib.hid (HX14.out.next hb15)
  have HB15 := Lib.hid (below_nxt HB14.out hb15)
  clear v6_14 v7_14 v8_14 HX14 HB14
  have O15 := Lib.hid hq15
  clear hb15 hq15
  go_wp2_with fail
  have LA16 : Below w15.heap.size w15 ((w15.alloc (.cells #[.string ⟨#[49]⟩] 9)).alloc (.cells #[.string ⟨#[50]⟩, .slice (some ⟨w15.heap.size, 0, none⟩) 1 1, .bool false] 78)) := ((Below.refl _ _).alloc (Nat.le_refl _) _).alloc (by simp) _
  refine (same_yes o15 _ _ ((w15.alloc (.cells #[.string ⟨#[49]⟩] 9)).alloc (.cells #[.string ⟨#[50]⟩, .slice (some ⟨w15.heap.size, 0, none⟩) 1 1, .bool false] 78)) (O15.out.step LA16) (lit_pass w15 _ _ ⟨#[50]⟩ [⟨#[49]⟩] false _ 1 _ rfl rfl (by decide) rfl (by decide))).mono ?_
  rintro e w16 ⟨rfl, hb16⟩
  have LL16 := below_nxt LA16 hb16
  clear O15
  have v6_16 := Lib.hid (v6_15.out.step LL16)
  have v7_16 := Lib.hid (v7_15.out.step LL16)
  have v8_16 := Lib.hid (v8_15.out.step LL16)
  have HX16 := Lib.hid (HX15.out.next LL16)
  have HB16 := Lib.hid (below_nxt HB15.out LL16)
  clear v6_15 v7_15 v8_15 HX15 HB15
  clear hb16 LA16 LL16
  go_wp2_with fail
  have LA17 : Below w16.heap.size w16 (w16.alloc (.cells #[.string ⟨#[50]⟩] 9)) := (Below.refl _ _).alloc (Nat.le_refl _) _
  refine (eqS_any v6 _ _ _ (w16.alloc (.cells #[.string ⟨#[50]⟩] 9)) (v6_16.out.step LA17) (lit_see w16 _ [⟨#[50]⟩] _ 1 rfl (by decide) rfl (by decide)) rfl).mono ?_
  rintro e w17 ⟨rfl, hb17⟩
  have LL17 := below_nxt LA17 hb17
  clear v6_16
  have v7_17 := Lib.hid (v7_16.out.step LL17)
  have v8_17 := Lib.hid (v8_16.out.step LL17)
  have HX17 := Lib.hid (HX16.out.next LL17)
  have HB17 := Lib.hid (below_nxt HB16.out LL17)
  clear v7_16 v8_16 HX16 HB16
  clear hb17 LA17 LL17
  go_wp2_with fail
  refine (own_any v7 _ w17 v7_17.out).mono ?_
  rintro e w18 ⟨o18, rfl, hq18, hb18⟩
  clear v7_17
  have v8_18 := Lib.hid (v8_17.out.step hb18)
  have HX18 := Lib.hid (HX17.out.next hb18)
  have HB18 := Lib.hid (below_nxt HB17.out hb18)
  clear v8_17 HX17 HB17
  have O18 := Lib.hid hq18
  clear hb18 hq18
  go_wp2_with fail
  have LA19 : Below w18.heap.size w18 ((w18.alloc (.cells #[.string ⟨#[49]⟩, .string ⟨#[49, 49]⟩] 9)).alloc (.cells #[.string ⟨#[50]⟩, .slice (some ⟨w18.heap.size, 0, none⟩) 2 2, .bool true] 78)) := ((Below.refl _ _).alloc (Nat.le_refl _) _).alloc (by simp) _
  refine (same_yes o18 _ _ ((w18.alloc (.cells #[.string ⟨#[49]⟩, .string ⟨#[49, 49]⟩] 9)).alloc (.cells #[.string ⟨#[50]⟩, .slice (some ⟨w18.heap.size, 0, none⟩) 2 2, .bool true] 78)) (O18.out.step LA19) (lit_pass w18 _ _ ⟨#[50]⟩ [⟨#[49]⟩, ⟨#[49, 49]⟩] true _ 2 _ rfl rfl (by decide) rfl (by decide))).mono ?_
  rintro e w19 ⟨rfl, hb19⟩
  have LL19 := below_nxt LA19 hb19
  clear O18
  have v8_19 := Lib.hid (v8_18.out.step LL19)
  have HX19 := Lib.hid (HX18.out.next LL19)
  have HB19 := Lib.hid (below_nxt HB18.out LL19)
  clear v8_18 HX18 HB18
  clear hb19 LA19 LL19
  go_wp2_with fail
  refine (own_any v8 _ w19 v8_19.out).mono ?_
  rintro e w20 ⟨o20, rfl, hq20, hb20⟩
  clear v8_19
  have HX20 := Lib.hid (HX19.out.next hb20)
  have HB20 := Lib.hid (below_nxt HB19.out hb20)
  clear HX19 HB19
  have O20 := Lib.hid hq20
  clear hb20 hq20
  go_wp2_with fail
  have LA21 : Below w20.heap.size w20 ((w20.alloc (.cells #[.string ⟨#[49]⟩, .string ⟨#[49, 49]⟩] 9)).alloc (.cells #[.string ⟨#[50]⟩, .slice (some ⟨w20.heap.size, 0, none⟩) 2 2, .bool false] 78)) := ((Below.refl _ _).alloc (Nat.le_refl _) _).alloc (by simp) _
  refine (same_yes o20 _ _ ((w20.alloc (.cells #[.string ⟨#[49]⟩, .string ⟨#[49, 49]⟩] 9)).alloc (.cells #[.string ⟨#[50]⟩, .slice (some ⟨w20.heap.size, 0, none⟩) 2 2, .bool false] 78)) (O20.out.step LA21) (lit_pass w20 _ _ ⟨#[50]⟩ [⟨#[49]⟩, ⟨#[49, 49]⟩] false _ 2 _ rfl rfl (by decide) rfl (by decide))).mono ?_
  rintro e w21 ⟨rfl, hb21⟩
  have LL21 := below_nxt LA21 hb21
  clear O20
  have HX21 := Lib.hid (HX20.out.next LL21)
  have HB21 := Lib.hid (below_nxt HB20.out LL21)
  clear HX20 HB20
  clear hb21 LA21 LL21
  go_wp2
  go_ret
  exact ⟨rfl, HB21.out⟩
end Go.Proofs.YthjkcncfppndkaaDoor
