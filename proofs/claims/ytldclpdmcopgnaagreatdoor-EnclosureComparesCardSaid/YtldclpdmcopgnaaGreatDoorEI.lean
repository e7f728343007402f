/- The contract of the reference's Four, ends: of results without an error. -/
import Derived.Test.YtldclpdmcopgnaaGreatDoorEG
namespace Go.Proofs.YtldclpdmcopgnaaGreatDoor
open Go.RowKit
def loF (x : Nat → ByteArray) : Nat → ByteArray | 0 => x 0 | i + 1 => if Fr.rat (x i).data.toList < Fr.rat (loF x i).data.toList then x i else loF x i
def hiF (x : Nat → ByteArray) : Nat → ByteArray | 0 => x 0 | i + 1 => if Fr.rat (hiF x i).data.toList < Fr.rat (x i).data.toList then x i else hiF x i
theorem loF_ok {x : Nat → ByteArray} {n : Nat} (h0 : 0 < n) (h : ∀ i, i < n → (x i).size ≤ 800 ∧ Fr.chk (x i).data.toList = 0) : ∀ i, i ≤ n → (loF x i).size ≤ 800 ∧ Fr.chk (loF x i).data.toList = 0
  | 0, _ => h 0 h0
  | i + 1, hi => by
    unfold loF
    split
    · exact h i hi
    · exact loF_ok h0 h i (by omega)
theorem hiF_ok {x : Nat → ByteArray} {n : Nat} (h0 : 0 < n) (h : ∀ i, i < n → (x i).size ≤ 800 ∧ Fr.chk (x i).data.toList = 0) : ∀ i, i ≤ n → (hiF x i).size ≤ 800 ∧ Fr.chk (hiF x i).data.toList = 0
  | 0, _ => h 0 h0
  | i + 1, hi => by
    unfold hiF
    split
    · exact h i hi
    · exact hiF_ok h0 h i (by omega)
/-- The results in a list, and the variable of the enclosure. -/
def E0 (w W : World) (g aa n cap : Nat) (x : Nat → ByteArray) : Prop :=
  Below w.heap.size w W ∧ g < w.heap.size ∧ W.cell? ⟨g, 0, none⟩ = some (.slice (some ⟨aa, 0, none⟩) n cap) ∧ W.cell? ⟨g, 1, none⟩ = some (.int .i64 0) ∧ aa < w.heap.size ∧ (∀ i, i < n → W.cell? ⟨aa, i, none⟩ = some (.string (x i))) ∧ Pair W w.heap.size ⟨#[]⟩ ⟨#[]⟩
theorem E0.step {w W W' : World} {g aa n cap : Nat} {x : Nat → ByteArray} (z : E0 w W g aa n cap x) (hb : Below W.heap.size W W') : E0 w W' g aa n cap x := by
  obtain ⟨h1, h2, h3, h4, h5, h6, h7⟩ := z
  have hs := h1.size
  exact ⟨below_nx h1 hb, h2, (hb.cell (p := ⟨g, 0, none⟩) (show g < W.heap.size by omega)).trans h3, (hb.cell (p := ⟨g, 1, none⟩) (show g < W.heap.size by omega)).trans h4, h5, fun i hi => (hb.cell (p := ⟨aa, i, none⟩) (show aa < W.heap.size by omega)).trans (h6 i hi), h7.below hb⟩
/-- And the enclosure that is made. -/
def E1 (w W : World) (g aa n cap : Nat) (x : Nat → ByteArray) (G : Nat) (s t : ByteArray) : Prop := E0 w W g aa n cap x ∧ w.heap.size < G ∧ Pair W G s t
theorem E1.step {w W W' : World} {g aa n cap G : Nat} {x : Nat → ByteArray} {s t : ByteArray} (z : E1 w W g aa n cap x G s t) (hb : Below W.heap.size W W') : E1 w W' g aa n cap x G s t :=
  ⟨z.1.step hb, z.2.1, z.2.2.below hb⟩
theorem E0.put {w W : World} {g aa n cap G : Nat} {x : Nat → ByteArray} (z : E0 w W g aa n cap x) (hG : w.heap.size < G) (i : Nat) (v : Value) : E0 w (W.setCell ⟨G, i, none⟩ v) g aa n cap x := by
  obtain ⟨h1, h2, h3, h4, h5, h6, h7⟩ := z
  exact ⟨h1.setCell (p := ⟨G, i, none⟩) (by show w.heap.size ≤ G; omega) _, h2, cell_ne h3 (blk_ne (by omega)), cell_ne h4 (blk_ne (by omega)), h5, fun j hj => cell_ne (h6 j hj) (blk_ne (by omega)), h7.apart (by omega) _ _⟩
theorem E1.put0 {w W : World} {g aa n cap G : Nat} {x : Nat → ByteArray} {s t : ByteArray} (z : E1 w W g aa n cap x G s t) (r : ByteArray) : E1 w (W.setCell ⟨G, 0, none⟩ (.string r)) g aa n cap x G r t :=
  ⟨z.1.put z.2.1 _ _, z.2.1, z.2.2.put0 r⟩
theorem E1.put1 {w W : World} {g aa n cap G : Nat} {x : Nat → ByteArray} {s t : ByteArray} (z : E1 w W g aa n cap x G s t) (r : ByteArray) : E1 w (W.setCell ⟨G, 1, none⟩ (.string r)) g aa n cap x G s r :=
  ⟨z.1.put z.2.1 _ _, z.2.1, z.2.2.put1 r⟩
set_option maxRecDepth 100000 in
set_option maxHeartbeats 4000000 in
theorem rEnds_any (g aa n cap : Nat) (x : Nat → ByteArray) (w : World) (hn : n ≤ 1000) (h0n : 0 < n) (hg : g < w.heap.size) (ha : aa < w.heap.size)
    (c0 : w.cell? ⟨g, 0, none⟩ = some (.slice (some ⟨aa, 0, none⟩) n cap)) (c1 : w.cell? ⟨g, 1, none⟩ = some (.int .i64 0)) (cx : ∀ i, i < n → w.cell? ⟨aa, i, none⟩ = some (.string (x i)))
    (hx : ∀ i, i < n → (x i).size ≤ 800 ∧ Fr.chk (x i).data.toList = 0) :
    Calls Tryz.prog 61 #[.pointer (some ⟨g, 0, none⟩)] w fun e w' => e = .returned (.tuple #[.agg #[.string (loF x n), .string (hiF x n)], .int .i64 0]) ∧ Below w.heap.size w w' := by
  have KK := Lib.hid (show E0 w (w.alloc (.cells #[.string ⟨#[]⟩, .string ⟨#[]⟩] 24)) g aa n cap x from by
    have hb := (Below.refl w.heap.size w).alloc (Nat.le_refl _) (.cells #[.string ⟨#[]⟩, .string ⟨#[]⟩] 24)
    exact ⟨hb, hg, (hb.cell (p := ⟨g, 0, none⟩) hg).trans c0, (hb.cell (p := ⟨g, 1, none⟩) hg).trans c1, ha, fun i hi => (hb.cell (p := ⟨aa, i, none⟩) ha).trans (cx i hi), pair_new _ _ _ _⟩)
  have HL := Lib.hid (loF_ok h0n hx)
  have HH := Lib.hid (hiF_ok h0n hx)
  have HX := Lib.hid hx
  clear hx
  obtain ⟨z1, z2, z3, z4, z5, z6, z7⟩ := id KK.out
  go_enter Tryz.func61, Tryz.ntmps61
  go_wp2_with fail
  clear z1 z2 z3 z4 z5 z6 z7
  refine wp_region_noPanic ?_
  refine wp_region_held_drew (S := (fun X => Hid (E0 w X g aa n cap x))) (by kernel_rfl) ?_ (fun hHeld => ?_)
  · exact Lib.hid (KK.out.step (Below.refl _ _).drew)
  clear KK
  generalize (w.alloc (.cells #[.string ⟨#[]⟩, .string ⟨#[]⟩] 24)).drew = Wd at *
  refine wpAnyH_take (i := 0) (v := ?_) rfl (by kernel_rfl) (by kernel_rfl) (by kernel_rfl) (fun _ _ _ h => h) (Or.inl ⟨by rfl, ?_⟩) (by assumption) ?_
  rotate_left 1
  · (intro wq hSw; clear hSw; go_simp; (try with_reducible rfl))
  try simp only [Act.put, List.getElem_toArray, List.getElem_cons_zero, List.setIfInBounds_toArray, List.set_cons_zero, List.set_cons_succ]
  refine wpAnyH_take (i := 1) (v := .pointer (some ⟨g, 0, none⟩)) rfl (by kernel_rfl) (by kernel_rfl) (by kernel_rfl) (fun _ _ _ h => h) (Or.inl ⟨by rfl, ?_⟩) (by assumption) ?_
  · (intro wq hSw; clear hSw; go_simp)
  try simp only [Act.put, List.getElem_toArray, List.getElem_cons_succ, List.getElem_cons_zero, List.setIfInBounds_toArray, List.set_cons_zero, List.set_cons_succ]
  refine wpAnyH_take (i := 2) (v := ?_) rfl (by kernel_rfl) (by kernel_rfl) (by kernel_rfl) (fun _ _ _ h => h) (Or.inl ⟨by rfl, ?_⟩) (by assumption) ?_
  rotate_left 1
  · (intro wq hSw; clear hSw; go_simp; (try with_reducible rfl))
  try simp only [Act.put, List.getElem_toArray, List.getElem_cons_succ, List.getElem_cons_zero, List.setIfInBounds_toArray, List.set_cons_zero, List.set_cons_succ]
  refine wpAnyH_take (i := 3) (v := .slice (some ⟨aa, 0, none⟩) n cap) rfl (by kernel_rfl) (by kernel_rfl) (by kernel_rfl) (fun _ _ _ h => h) (Or.inl ⟨by rfl, ?_⟩) (by assumption) ?_
  · (intro wq hSw; obtain ⟨-, -, a1, -, -, -, -⟩ := hSw.out; clear hSw; go_simp)
  try simp only [Act.put, List.getElem_toArray, List.getElem_cons_succ, List.getElem_cons_zero, List.setIfInBounds_toArray, List.set_cons_zero, List.set_cons_succ]
  refine wpAnyH_take (i := 4) (v := .pointer (some ⟨aa, 0, none⟩)) rfl (by kernel_rfl) (by kernel_rfl) (by kernel_rfl) (fun _ _ _ h => h) (Or.inl ⟨by rfl, ?_⟩) (by assumption) ?_
  · (intro wq hSw; clear hSw; go_simp)
  try simp only [Act.put, List.getElem_toArray, List.getElem_cons_succ, List.getElem_cons_zero, List.setIfInBounds_toArray, List.set_cons_zero, List.set_cons_succ]
  refine wpAnyH_take (i := 5) (v := .string (x 0)) rfl (by kernel_rfl) (by kernel_rfl) (by kernel_rfl) (fun _ _ _ h => h) (Or.inl ⟨by rfl, ?_⟩) (by assumption) ?_
  · (intro wq hSw; obtain ⟨-, -, -, -, -, a1, -⟩ := hSw.out; have a2 := a1 0 h0n; clear a1; clear hSw; go_simp)
  try simp only [Act.put, List.getElem_toArray, List.getElem_cons_succ, List.getElem_cons_zero, List.setIfInBounds_toArray, List.set_cons_zero, List.set_cons_succ]
  refine wpAnyH_take (i := 6) (v := ?_) rfl (by kernel_rfl) (by kernel_rfl) (by kernel_rfl) (fun _ _ _ h => h) (Or.inl ⟨by rfl, ?_⟩) (by assumption) ?_
  rotate_left 1
  · (intro wq hSw; clear hSw; go_simp; (try with_reducible rfl))
  try simp only [Act.put, List.getElem_toArray, List.getElem_cons_succ, List.getElem_cons_zero, List.setIfInBounds_toArray, List.set_cons_zero, List.set_cons_succ]
  refine wpAnyH_take (i := 7) (v := .pointer (some ⟨g, 0, none⟩)) rfl (by kernel_rfl) (by kernel_rfl) (by kernel_rfl) (fun _ _ _ h => h) (Or.inl ⟨by rfl, ?_⟩) (by assumption) ?_
  · (intro wq hSw; clear hSw; go_simp)
  try simp only [Act.put, List.getElem_toArray, List.getElem_cons_succ, List.getElem_cons_zero, List.setIfInBounds_toArray, List.set_cons_zero, List.set_cons_succ]
  refine wpAnyH_take (i := 8) (v := ?_) rfl (by kernel_rfl) (by kernel_rfl) (by kernel_rfl) (fun _ _ _ h => h) (Or.inl ⟨by rfl, ?_⟩) (by assumption) ?_
  rotate_left 1
  · (intro wq hSw; clear hSw; go_simp; (try with_reducible rfl))
  try simp only [Act.put, List.getElem_toArray, List.getElem_cons_succ, List.getElem_cons_zero, List.setIfInBounds_toArray, List.set_cons_zero, List.set_cons_succ]
  refine wpAnyH_take (i := 9) (v := .slice (some ⟨aa, 0, none⟩) n cap) rfl (by kernel_rfl) (by kernel_rfl) (by kernel_rfl) (fun _ _ _ h => h) (Or.inl ⟨by rfl, ?_⟩) (by assumption) ?_
  · (intro wq hSw; obtain ⟨-, -, a1, -, -, -, -⟩ := hSw.out; clear hSw; go_simp)
  try simp only [Act.put, List.getElem_toArray, List.getElem_cons_succ, List.getElem_cons_zero, List.setIfInBounds_toArray, List.set_cons_zero, List.set_cons_succ]
  refine wpAnyH_take (i := 10) (v := .pointer (some ⟨aa, 0, none⟩)) rfl (by kernel_rfl) (by kernel_rfl) (by kernel_rfl) (fun _ _ _ h => h) (Or.inl ⟨by rfl, ?_⟩) (by assumption) ?_
  · (intro wq hSw; clear hSw; go_simp)
  try simp only [Act.put, List.getElem_toArray, List.getElem_cons_succ, List.getElem_cons_zero, List.setIfInBounds_toArray, List.set_cons_zero, List.set_cons_succ]
  refine wpAnyH_take (i := 11) (v := .string (x 0)) rfl (by kernel_rfl) (by kernel_rfl) (by kernel_rfl) (fun _ _ _ h => h) (Or.inl ⟨by rfl, ?_⟩) (by assumption) ?_
  · (intro wq hSw; obtain ⟨-, -, -, -, -, a1, -⟩ := hSw.out; have a2 := a1 0 h0n; clear a1; clear hSw; go_simp)
  try simp only [Act.put, List.getElem_toArray, List.getElem_cons_succ, List.getElem_cons_zero, List.setIfInBounds_toArray, List.set_cons_zero, List.set_cons_succ]
  refine wpAnyH_take (i := 12) (v := ?_) rfl (by kernel_rfl) (by kernel_rfl) (by kernel_rfl) (fun _ _ _ h => h) (Or.inl ⟨by rfl, ?_⟩) (by assumption) ?_
  rotate_left 1
  · (intro wq hSw; clear hSw; go_simp; (try with_reducible rfl))
  try simp only [Act.put, List.getElem_toArray, List.getElem_cons_succ, List.getElem_cons_zero, List.setIfInBounds_toArray, List.set_cons_zero, List.set_cons_succ]
  refine wpAnyH_ready (rs := [13]) (by kernel_rfl) (by simp) ?_
  refine AllReadyH.cons rfl (fun K hK => ?_) AllReadyH.nil
  have hH := hHeld
  clear hHeld
  have hLT := hH.out.2.2.2.2.2.2.1
  have hE1 := Lib.hid (show E1 w (Wd.alloc (.cells #[.string (x 0), .string (x 0)] 24)) g aa n cap x Wd.heap.size (x 0) (x 0) from ⟨hH.out.step ((Below.refl _ _).alloc (Nat.le_refl _) _), hLT, pair_new _ _ _ _⟩)
  go_simp
  refine hK.out _ _ ?_ (fun hHeld => ?_)
  · exact Lib.hid (hH.out.step ((Below.refl _ _).alloc (Nat.le_refl _) _))
  clear hK K
  try simp only [Act.put, List.getElem_toArray, List.getElem_cons_succ, List.getElem_cons_zero, List.setIfInBounds_toArray, List.set_cons_zero, List.set_cons_succ]
  refine wpAnyH_ready (rs := [14]) (by kernel_rfl) (by simp) ?_
  refine AllReadyH.cons rfl (fun K hK => ?_) AllReadyH.nil
  have hH := hHeld
  clear hHeld
  have hG : w.heap.size < Wd.heap.size := hLT
  obtain ⟨n0, n1, n2, n3, n4⟩ := pair_new Wd ⟨#[]⟩ ⟨#[]⟩ 24
  go_simp
  refine hK.out _ _ ?_ (fun hHeld => ?_)
  · exact Lib.hid (hE1.out.1)
  clear hK K
  try simp only [Act.put, List.getElem_toArray, List.getElem_cons_succ, List.getElem_cons_zero, List.setIfInBounds_toArray, List.set_cons_zero, List.set_cons_succ]
  clear hHeld n0 n1 n2 n3 n4 hH
  have KE := hE1
  clear hE1
  generalize Wd.heap.size = G at *
  generalize hW9 : Wd.alloc (.cells #[.string (x 0), .string (x 0)] 24) = W9 at *
  clear hW9
  refine wpAnyH_done (by kernel_rfl) ?_ _
  refine NoPanic.normal ?_
  go_wp2_with fail
  go_loopw [5] (fun u5 wr => ∃ i : Nat, i ≤ n ∧ u5 = .int .i64 i ∧ Hid (E1 w wr g aa n cap x G (loF x i) (hiF x i))) (fun u5 _ => n - (intOf u5).toNat)
  case atStart => exact ⟨0, Nat.zero_le _, rfl, KE⟩
  case round =>
    clear KE
    obtain ⟨i, hi1, rfl, KI⟩ := hrel
    by_cases hlt : i < n
    · have ok1 := HL.out i hi1
      have ok2 := HH.out i hi1
      have ok3 := HX.out i hlt
      have E1x := Lib.hid (show loF x (i + 1) = if Fr.rat (x i).data.toList < Fr.rat (loF x i).data.toList then x i else loF x i from rfl)
      have E2x := Lib.hid (show hiF x (i + 1) = if Fr.rat (hiF x i).data.toList < Fr.rat (x i).data.toList then x i else hiF x i from rfl)
      generalize loF x i = lo at *
      generalize hiF x i = hi at *
      obtain ⟨⟨-, -, a3, -, -, -, -⟩, -, -⟩ := KI.out
      by_cases h1 : Fr.rat (x i).data.toList < Fr.rat lo.data.toList
      · obtain ⟨c1, hc1, C1⟩ := rOrder_less h1 ok3.1 ok1.1 ok3.2 ok1.2
        have E1y := Lib.hid (E1x.out.trans (if_pos h1))
        clear h1 E1x
        by_cases h2 : Fr.rat hi.data.toList < Fr.rat (x i).data.toList
        · obtain ⟨c2, hc2, C2⟩ := rOrder_more h2 ok3.1 ok2.1 ok3.2 ok2.2
          have E2y := Lib.hid (E2x.out.trans (if_pos h2))
          clear h2 E2x ok1 ok2 ok3
          go_wp2_with fail
          clear a3
          refine wp_region_noPanic ?_
          refine wp_region_held_drew (S := (fun X => Hid (E1 w X g aa n cap x G (lo) (hi)))) (by kernel_rfl) ?_ (fun hHeld => ?_)
          · exact Lib.hid (KI.out.step (Below.refl _ _).drew)
          clear KI
          generalize wr.drew = Wd at *
          refine wpAnyH_take (i := 0) (v := ?_) rfl (by kernel_rfl) (by kernel_rfl) (by kernel_rfl) (fun _ _ _ h => h) (Or.inl ⟨by rfl, ?_⟩) (by assumption) ?_
          rotate_left 1
          · (intro wq hSw; clear hSw; go_simp; (try with_reducible rfl))
          try simp only [Act.put, List.getElem_toArray, List.getElem_cons_zero, List.setIfInBounds_toArray, List.set_cons_zero, List.set_cons_succ]
          refine wpAnyH_take (i := 1) (v := .pointer (some ⟨g, 0, none⟩)) rfl (by kernel_rfl) (by kernel_rfl) (by kernel_rfl) (fun _ _ _ h => h) (Or.inl ⟨by rfl, ?_⟩) (by assumption) ?_
          · (intro wq hSw; clear hSw; go_simp)
          try simp only [Act.put, List.getElem_toArray, List.getElem_cons_succ, List.getElem_cons_zero, List.setIfInBounds_toArray, List.set_cons_zero, List.set_cons_succ]
          refine wpAnyH_take (i := 2) (v := ?_) rfl (by kernel_rfl) (by kernel_rfl) (by kernel_rfl) (fun _ _ _ h => h) (Or.inl ⟨by rfl, ?_⟩) (by assumption) ?_
          rotate_left 1
          · (intro wq hSw; clear hSw; go_simp; (try with_reducible rfl))
          try simp only [Act.put, List.getElem_toArray, List.getElem_cons_succ, List.getElem_cons_zero, List.setIfInBounds_toArray, List.set_cons_zero, List.set_cons_succ]
          refine wpAnyH_take (i := 3) (v := .slice (some ⟨aa, 0, none⟩) n cap) rfl (by kernel_rfl) (by kernel_rfl) (by kernel_rfl) (fun _ _ _ h => h) (Or.inl ⟨by rfl, ?_⟩) (by assumption) ?_
          · (intro wq hSw; obtain ⟨-, -, a1, -, -, -, -⟩ := hSw.out.1; clear hSw; go_simp)
          try simp only [Act.put, List.getElem_toArray, List.getElem_cons_succ, List.getElem_cons_zero, List.setIfInBounds_toArray, List.set_cons_zero, List.set_cons_succ]
          refine wpAnyH_take (i := 4) (v := ?_) rfl (by kernel_rfl) (by kernel_rfl) (by kernel_rfl) (fun _ _ _ h => h) (Or.inl ⟨by rfl, ?_⟩) (by assumption) ?_
          rotate_left 1
          · (intro wq hSw; clear hSw; go_simp; (try with_reducible rfl))
          try simp only [Act.put, List.getElem_toArray, List.getElem_cons_succ, List.getElem_cons_zero, List.setIfInBounds_toArray, List.set_cons_zero, List.set_cons_succ]
          refine wpAnyH_take (i := 5) (v := .pointer (some ⟨aa, i, none⟩)) rfl (by kernel_rfl) (by kernel_rfl) (by kernel_rfl) (fun _ _ _ h => h) (Or.inl ⟨by rfl, ?_⟩) (by assumption) ?_
          · (intro wq hSw; clear hSw; go_simp)
          try simp only [Act.put, List.getElem_toArray, List.getElem_cons_succ, List.getElem_cons_zero, List.setIfInBounds_toArray, List.set_cons_zero, List.set_cons_succ]
          refine wpAnyH_take (i := 6) (v := .string (x i)) rfl (by kernel_rfl) (by kernel_rfl) (by kernel_rfl) (fun _ _ _ h => h) (Or.inl ⟨by rfl, ?_⟩) (by assumption) ?_
          · (intro wq hSw; obtain ⟨-, -, -, -, -, a1, -⟩ := hSw.out.1; have a2 := a1 i hlt; clear a1; clear hSw; go_simp)
          try simp only [Act.put, List.getElem_toArray, List.getElem_cons_succ, List.getElem_cons_zero, List.setIfInBounds_toArray, List.set_cons_zero, List.set_cons_succ]
          refine wpAnyH_take (i := 7) (v := ?_) rfl (by kernel_rfl) (by kernel_rfl) (by kernel_rfl) (fun _ _ _ h => h) (Or.inl ⟨by rfl, ?_⟩) (by assumption) ?_
          rotate_left 1
          · (intro wq hSw; clear hSw; go_simp; (try with_reducible rfl))
          try simp only [Act.put, List.getElem_toArray, List.getElem_cons_succ, List.getElem_cons_zero, List.setIfInBounds_toArray, List.set_cons_zero, List.set_cons_succ]
          refine wpAnyH_take (i := 8) (v := .string (lo)) rfl (by kernel_rfl) (by kernel_rfl) (by kernel_rfl) (fun _ _ _ h => h) (Or.inl ⟨by rfl, ?_⟩) (by assumption) ?_
          · (intro wq hSw; obtain ⟨-, a1, a2, -, -⟩ := hSw.out.2.2; clear hSw; go_simp)
          try simp only [Act.put, List.getElem_toArray, List.getElem_cons_succ, List.getElem_cons_zero, List.setIfInBounds_toArray, List.set_cons_zero, List.set_cons_succ]
          refine wpAnyH_ready (rs := [9]) (by kernel_rfl) (by simp) ?_
          refine AllReadyH.cons rfl (fun K hK => ?_) AllReadyH.nil
          have hH := hHeld
          clear hHeld
          go_simp
          (with_reducible refine ((C1 _).out).mono ?_)
          rintro e wn ⟨rfl, hb⟩
          go_simp
          refine hK.out _ _ ?_ (fun hHeld => ?_)
          · exact Lib.hid (hH.out.step hb)
          clear hK K hH hb
          try simp only [Act.put, List.getElem_toArray, List.getElem_cons_succ, List.getElem_cons_zero, List.setIfInBounds_toArray, List.set_cons_zero, List.set_cons_succ]
          refine wpAnyH_take (i := 10) (v := ?_) rfl (by kernel_rfl) (by kernel_rfl) (by kernel_rfl) (fun _ _ _ h => h) (Or.inl ⟨by rfl, ?_⟩) (by assumption) ?_
          rotate_left 1
          · (intro wq hSw; clear hSw; go_simp; (try with_reducible rfl))
          try simp only [Act.put, List.getElem_toArray, List.getElem_cons_succ, List.getElem_cons_zero, List.setIfInBounds_toArray, List.set_cons_zero, List.set_cons_succ]
          refine wpAnyH_done (by kernel_rfl) ?_ _
          refine NoPanic.normal ?_
          have KI := hHeld
          clear hHeld
          obtain ⟨⟨-, -, a3, -, -, a6, -⟩, -, ⟨-, b1, b2, b3, b4⟩⟩ := KI.out
          have a7 := a6 i hlt
          clear a6
          go_wp2_with fail
          clear a3 a7 b1 b2 b3 b4
          have KI2 := Lib.hid (KI.out.put0 (x i))
          clear KI
          have KI := KI2
          clear KI2
          generalize wn.setCell ⟨G, 0, none⟩ (.string (x i)) = wn at *
          refine wp_region_noPanic ?_
          refine wp_region_held_drew (S := (fun X => Hid (E1 w X g aa n cap x G (x i) (hi)))) (by kernel_rfl) ?_ (fun hHeld => ?_)
          · exact Lib.hid (KI.out.step (Below.refl _ _).drew)
          clear KI
          generalize wn.drew = Wd at *
          refine wpAnyH_take (i := 0) (v := ?_) rfl (by kernel_rfl) (by kernel_rfl) (by kernel_rfl) (fun _ _ _ h => h) (Or.inl ⟨by rfl, ?_⟩) (by assumption) ?_
          rotate_left 1
          · (intro wq hSw; clear hSw; go_simp; (try with_reducible rfl))
          try simp only [Act.put, List.getElem_toArray, List.getElem_cons_zero, List.setIfInBounds_toArray, List.set_cons_zero, List.set_cons_succ]
          refine wpAnyH_take (i := 1) (v := .pointer (some ⟨g, 0, none⟩)) rfl (by kernel_rfl) (by kernel_rfl) (by kernel_rfl) (fun _ _ _ h => h) (Or.inl ⟨by rfl, ?_⟩) (by assumption) ?_
          · (intro wq hSw; clear hSw; go_simp)
          try simp only [Act.put, List.getElem_toArray, List.getElem_cons_succ, List.getElem_cons_zero, List.setIfInBounds_toArray, List.set_cons_zero, List.set_cons_succ]
          refine wpAnyH_take (i := 2) (v := ?_) rfl (by kernel_rfl) (by kernel_rfl) (by kernel_rfl) (fun _ _ _ h => h) (Or.inl ⟨by rfl, ?_⟩) (by assumption) ?_
          rotate_left 1
          · (intro wq hSw; clear hSw; go_simp; (try with_reducible rfl))
          try simp only [Act.put, List.getElem_toArray, List.getElem_cons_succ, List.getElem_cons_zero, List.setIfInBounds_toArray, List.set_cons_zero, List.set_cons_succ]
          refine wpAnyH_take (i := 3) (v := .slice (some ⟨aa, 0, none⟩) n cap) rfl (by kernel_rfl) (by kernel_rfl) (by kernel_rfl) (fun _ _ _ h => h) (Or.inl ⟨by rfl, ?_⟩) (by assumption) ?_
          · (intro wq hSw; obtain ⟨-, -, a1, -, -, -, -⟩ := hSw.out.1; clear hSw; go_simp)
          try simp only [Act.put, List.getElem_toArray, List.getElem_cons_succ, List.getElem_cons_zero, List.setIfInBounds_toArray, List.set_cons_zero, List.set_cons_succ]
          refine wpAnyH_take (i := 4) (v := ?_) rfl (by kernel_rfl) (by kernel_rfl) (by kernel_rfl) (fun _ _ _ h => h) (Or.inl ⟨by rfl, ?_⟩) (by assumption) ?_
          rotate_left 1
          · (intro wq hSw; clear hSw; go_simp; (try with_reducible rfl))
          try simp only [Act.put, List.getElem_toArray, List.getElem_cons_succ, List.getElem_cons_zero, List.setIfInBounds_toArray, List.set_cons_zero, List.set_cons_succ]
          refine wpAnyH_take (i := 5) (v := .pointer (some ⟨aa, i, none⟩)) rfl (by kernel_rfl) (by kernel_rfl) (by kernel_rfl) (fun _ _ _ h => h) (Or.inl ⟨by rfl, ?_⟩) (by assumption) ?_
          · (intro wq hSw; clear hSw; go_simp)
          try simp only [Act.put, List.getElem_toArray, List.getElem_cons_succ, List.getElem_cons_zero, List.setIfInBounds_toArray, List.set_cons_zero, List.set_cons_succ]
          refine wpAnyH_take (i := 6) (v := .string (x i)) rfl (by kernel_rfl) (by kernel_rfl) (by kernel_rfl) (fun _ _ _ h => h) (Or.inl ⟨by rfl, ?_⟩) (by assumption) ?_
          · (intro wq hSw; obtain ⟨-, -, -, -, -, a1, -⟩ := hSw.out.1; have a2 := a1 i hlt; clear a1; clear hSw; go_simp)
          try simp only [Act.put, List.getElem_toArray, List.getElem_cons_succ, List.getElem_cons_zero, List.setIfInBounds_toArray, List.set_cons_zero, List.set_cons_succ]
          refine wpAnyH_take (i := 7) (v := ?_) rfl (by kernel_rfl) (by kernel_rfl) (by kernel_rfl) (fun _ _ _ h => h) (Or.inl ⟨by rfl, ?_⟩) (by assumption) ?_
          rotate_left 1
          · (intro wq hSw; clear hSw; go_simp; (try with_reducible rfl))
          try simp only [Act.put, List.getElem_toArray, List.getElem_cons_succ, List.getElem_cons_zero, List.setIfInBounds_toArray, List.set_cons_zero, List.set_cons_succ]
          refine wpAnyH_take (i := 8) (v := .string (hi)) rfl (by kernel_rfl) (by kernel_rfl) (by kernel_rfl) (fun _ _ _ h => h) (Or.inl ⟨by rfl, ?_⟩) (by assumption) ?_
          · (intro wq hSw; obtain ⟨-, a1, a2, -, -⟩ := hSw.out.2.2; clear hSw; go_simp)
          try simp only [Act.put, List.getElem_toArray, List.getElem_cons_succ, List.getElem_cons_zero, List.setIfInBounds_toArray, List.set_cons_zero, List.set_cons_succ]
          refine wpAnyH_ready (rs := [9]) (by kernel_rfl) (by simp) ?_
          refine AllReadyH.cons rfl (fun K hK => ?_) AllReadyH.nil
          have hH := hHeld
          clear hHeld
          go_simp
          (with_reducible refine ((C2 _).out).mono ?_)
          rintro e wn ⟨rfl, hb⟩
          go_simp
          refine hK.out _ _ ?_ (fun hHeld => ?_)
          · exact Lib.hid (hH.out.step hb)
          clear hK K hH hb
          try simp only [Act.put, List.getElem_toArray, List.getElem_cons_succ, List.getElem_cons_zero, List.setIfInBounds_toArray, List.set_cons_zero, List.set_cons_succ]
          refine wpAnyH_take (i := 10) (v := ?_) rfl (by kernel_rfl) (by kernel_rfl) (by kernel_rfl) (fun _ _ _ h => h) (Or.inl ⟨by rfl, ?_⟩) (by assumption) ?_
          rotate_left 1
          · (intro wq hSw; clear hSw; go_simp; (try with_reducible rfl))
          try simp only [Act.put, List.getElem_toArray, List.getElem_cons_succ, List.getElem_cons_zero, List.setIfInBounds_toArray, List.set_cons_zero, List.set_cons_succ]
          refine wpAnyH_done (by kernel_rfl) ?_ _
          refine NoPanic.normal ?_
          have KI := hHeld
          clear hHeld
          obtain ⟨⟨-, -, a3, -, -, a6, -⟩, -, ⟨-, b1, b2, b3, b4⟩⟩ := KI.out
          have a7 := a6 i hlt
          clear a6
          go_wp2_with fail
          clear a3 a7 b1 b2 b3 b4
          have KI2 := Lib.hid (KI.out.put1 (x i))
          clear KI
          have KI := KI2
          clear KI2
          refine ⟨⟨i + 1, by omega, by go_num, ?_⟩, by simp [intOf]; omega⟩
          rw [E1y.out, E2y.out]
          exact KI
        · obtain ⟨c2, hc2, C2⟩ := rOrder_notMore h2 ok3.1 ok2.1 ok3.2 ok2.2
          have E2y := Lib.hid (E2x.out.trans (if_neg h2))
          clear h2 E2x ok1 ok2 ok3
          go_wp2_with fail
          clear a3
          refine wp_region_noPanic ?_
          refine wp_region_held_drew (S := (fun X => Hid (E1 w X g aa n cap x G (lo) (hi)))) (by kernel_rfl) ?_ (fun hHeld => ?_)
          · exact Lib.hid (KI.out.step (Below.refl _ _).drew)
          clear KI
          generalize wr.drew = Wd at *
          refine wpAnyH_take (i := 0) (v := ?_) rfl (by kernel_rfl) (by kernel_rfl) (by kernel_rfl) (fun _ _ _ h => h) (Or.inl ⟨by rfl, ?_⟩) (by assumption) ?_
          rotate_left 1
          · (intro wq hSw; clear hSw; go_simp; (try with_reducible rfl))
          try simp only [Act.put, List.getElem_toArray, List.getElem_cons_zero, List.setIfInBounds_toArray, List.set_cons_zero, List.set_cons_succ]
          refine wpAnyH_take (i := 1) (v := .pointer (some ⟨g, 0, none⟩)) rfl (by kernel_rfl) (by kernel_rfl) (by kernel_rfl) (fun _ _ _ h => h) (Or.inl ⟨by rfl, ?_⟩) (by assumption) ?_
          · (intro wq hSw; clear hSw; go_simp)
          try simp only [Act.put, List.getElem_toArray, List.getElem_cons_succ, List.getElem_cons_zero, List.setIfInBounds_toArray, List.set_cons_zero, List.set_cons_succ]
          refine wpAnyH_take (i := 2) (v := ?_) rfl (by kernel_rfl) (by kernel_rfl) (by kernel_rfl) (fun _ _ _ h => h) (Or.inl ⟨by rfl, ?_⟩) (by assumption) ?_
          rotate_left 1
          · (intro wq hSw; clear hSw; go_simp; (try with_reducible rfl))
          try simp only [Act.put, List.getElem_toArray, List.getElem_cons_succ, List.getElem_cons_zero, List.setIfInBounds_toArray, List.set_cons_zero, List.set_cons_succ]
          refine wpAnyH_take (i := 3) (v := .slice (some ⟨aa, 0, none⟩) n cap) rfl (by kernel_rfl) (by kernel_rfl) (by kernel_rfl) (fun _ _ _ h => h) (Or.inl ⟨by rfl, ?_⟩) (by assumption) ?_
          · (intro wq hSw; obtain ⟨-, -, a1, -, -, -, -⟩ := hSw.out.1; clear hSw; go_simp)
          try simp only [Act.put, List.getElem_toArray, List.getElem_cons_succ, List.getElem_cons_zero, List.setIfInBounds_toArray, List.set_cons_zero, List.set_cons_succ]
          refine wpAnyH_take (i := 4) (v := ?_) rfl (by kernel_rfl) (by kernel_rfl) (by kernel_rfl) (fun _ _ _ h => h) (Or.inl ⟨by rfl, ?_⟩) (by assumption) ?_
          rotate_left 1
          · (intro wq hSw; clear hSw; go_simp; (try with_reducible rfl))
          try simp only [Act.put, List.getElem_toArray, List.getElem_cons_succ, List.getElem_cons_zero, List.setIfInBounds_toArray, List.set_cons_zero, List.set_cons_succ]
          refine wpAnyH_take (i := 5) (v := .pointer (some ⟨aa, i, none⟩)) rfl (by kernel_rfl) (by kernel_rfl) (by kernel_rfl) (fun _ _ _ h => h) (Or.inl ⟨by rfl, ?_⟩) (by assumption) ?_
          · (intro wq hSw; clear hSw; go_simp)
          try simp only [Act.put, List.getElem_toArray, List.getElem_cons_succ, List.getElem_cons_zero, List.setIfInBounds_toArray, List.set_cons_zero, List.set_cons_succ]
          refine wpAnyH_take (i := 6) (v := .string (x i)) rfl (by kernel_rfl) (by kernel_rfl) (by kernel_rfl) (fun _ _ _ h => h) (Or.inl ⟨by rfl, ?_⟩) (by assumption) ?_
          · (intro wq hSw; obtain ⟨-, -, -, -, -, a1, -⟩ := hSw.out.1; have a2 := a1 i hlt; clear a1; clear hSw; go_simp)
          try simp only [Act.put, List.getElem_toArray, List.getElem_cons_succ, List.getElem_cons_zero, List.setIfInBounds_toArray, List.set_cons_zero, List.set_cons_succ]
          refine wpAnyH_take (i := 7) (v := ?_) rfl (by kernel_rfl) (by kernel_rfl) (by kernel_rfl) (fun _ _ _ h => h) (Or.inl ⟨by rfl, ?_⟩) (by assumption) ?_
          rotate_left 1
          · (intro wq hSw; clear hSw; go_simp; (try with_reducible rfl))
          try simp only [Act.put, List.getElem_toArray, List.getElem_cons_succ, List.getElem_cons_zero, List.setIfInBounds_toArray, List.set_cons_zero, List.set_cons_succ]
          refine wpAnyH_take (i := 8) (v := .string (lo)) rfl (by kernel_rfl) (by kernel_rfl) (by kernel_rfl) (fun _ _ _ h => h) (Or.inl ⟨by rfl, ?_⟩) (by assumption) ?_
          · (intro wq hSw; obtain ⟨-, a1, a2, -, -⟩ := hSw.out.2.2; clear hSw; go_simp)
          try simp only [Act.put, List.getElem_toArray, List.getElem_cons_succ, List.getElem_cons_zero, List.setIfInBounds_toArray, List.set_cons_zero, List.set_cons_succ]
          refine wpAnyH_ready (rs := [9]) (by kernel_rfl) (by simp) ?_
          refine AllReadyH.cons rfl (fun K hK => ?_) AllReadyH.nil
          have hH := hHeld
          clear hHeld
          go_simp
          (with_reducible refine ((C1 _).out).mono ?_)
          rintro e wn ⟨rfl, hb⟩
          go_simp
          refine hK.out _ _ ?_ (fun hHeld => ?_)
          · exact Lib.hid (hH.out.step hb)
          clear hK K hH hb
          try simp only [Act.put, List.getElem_toArray, List.getElem_cons_succ, List.getElem_cons_zero, List.setIfInBounds_toArray, List.set_cons_zero, List.set_cons_succ]
          refine wpAnyH_take (i := 10) (v := ?_) rfl (by kernel_rfl) (by kernel_rfl) (by kernel_rfl) (fun _ _ _ h => h) (Or.inl ⟨by rfl, ?_⟩) (by assumption) ?_
          rotate_left 1
          · (intro wq hSw; clear hSw; go_simp; (try with_reducible rfl))
          try simp only [Act.put, List.getElem_toArray, List.getElem_cons_succ, List.getElem_cons_zero, List.setIfInBounds_toArray, List.set_cons_zero, List.set_cons_succ]
          refine wpAnyH_done (by kernel_rfl) ?_ _
          refine NoPanic.normal ?_
          have KI := hHeld
          clear hHeld
          obtain ⟨⟨-, -, a3, -, -, a6, -⟩, -, ⟨-, b1, b2, b3, b4⟩⟩ := KI.out
          have a7 := a6 i hlt
          clear a6
          go_wp2_with fail
          clear a3 a7 b1 b2 b3 b4
          have KI2 := Lib.hid (KI.out.put0 (x i))
          clear KI
          have KI := KI2
          clear KI2
          generalize wn.setCell ⟨G, 0, none⟩ (.string (x i)) = wn at *
          refine wp_region_noPanic ?_
          refine wp_region_held_drew (S := (fun X => Hid (E1 w X g aa n cap x G (x i) (hi)))) (by kernel_rfl) ?_ (fun hHeld => ?_)
          · exact Lib.hid (KI.out.step (Below.refl _ _).drew)
          clear KI
          generalize wn.drew = Wd at *
          refine wpAnyH_take (i := 0) (v := ?_) rfl (by kernel_rfl) (by kernel_rfl) (by kernel_rfl) (fun _ _ _ h => h) (Or.inl ⟨by rfl, ?_⟩) (by assumption) ?_
          rotate_left 1
          · (intro wq hSw; clear hSw; go_simp; (try with_reducible rfl))
          try simp only [Act.put, List.getElem_toArray, List.getElem_cons_zero, List.setIfInBounds_toArray, List.set_cons_zero, List.set_cons_succ]
          refine wpAnyH_take (i := 1) (v := .pointer (some ⟨g, 0, none⟩)) rfl (by kernel_rfl) (by kernel_rfl) (by kernel_rfl) (fun _ _ _ h => h) (Or.inl ⟨by rfl, ?_⟩) (by assumption) ?_
          · (intro wq hSw; clear hSw; go_simp)
          try simp only [Act.put, List.getElem_toArray, List.getElem_cons_succ, List.getElem_cons_zero, List.setIfInBounds_toArray, List.set_cons_zero, List.set_cons_succ]
          refine wpAnyH_take (i := 2) (v := ?_) rfl (by kernel_rfl) (by kernel_rfl) (by kernel_rfl) (fun _ _ _ h => h) (Or.inl ⟨by rfl, ?_⟩) (by assumption) ?_
          rotate_left 1
          · (intro wq hSw; clear hSw; go_simp; (try with_reducible rfl))
          try simp only [Act.put, List.getElem_toArray, List.getElem_cons_succ, List.getElem_cons_zero, List.setIfInBounds_toArray, List.set_cons_zero, List.set_cons_succ]
          refine wpAnyH_take (i := 3) (v := .slice (some ⟨aa, 0, none⟩) n cap) rfl (by kernel_rfl) (by kernel_rfl) (by kernel_rfl) (fun _ _ _ h => h) (Or.inl ⟨by rfl, ?_⟩) (by assumption) ?_
          · (intro wq hSw; obtain ⟨-, -, a1, -, -, -, -⟩ := hSw.out.1; clear hSw; go_simp)
          try simp only [Act.put, List.getElem_toArray, List.getElem_cons_succ, List.getElem_cons_zero, List.setIfInBounds_toArray, List.set_cons_zero, List.set_cons_succ]
          refine wpAnyH_take (i := 4) (v := ?_) rfl (by kernel_rfl) (by kernel_rfl) (by kernel_rfl) (fun _ _ _ h => h) (Or.inl ⟨by rfl, ?_⟩) (by assumption) ?_
          rotate_left 1
          · (intro wq hSw; clear hSw; go_simp; (try with_reducible rfl))
          try simp only [Act.put, List.getElem_toArray, List.getElem_cons_succ, List.getElem_cons_zero, List.setIfInBounds_toArray, List.set_cons_zero, List.set_cons_succ]
          refine wpAnyH_take (i := 5) (v := .pointer (some ⟨aa, i, none⟩)) rfl (by kernel_rfl) (by kernel_rfl) (by kernel_rfl) (fun _ _ _ h => h) (Or.inl ⟨by rfl, ?_⟩) (by assumption) ?_
          · (intro wq hSw; clear hSw; go_simp)
          try simp only [Act.put, List.getElem_toArray, List.getElem_cons_succ, List.getElem_cons_zero, List.setIfInBounds_toArray, List.set_cons_zero, List.set_cons_succ]
          refine wpAnyH_take (i := 6) (v := .string (x i)) rfl (by kernel_rfl) (by kernel_rfl) (by kernel_rfl) (fun _ _ _ h => h) (Or.inl ⟨by rfl, ?_⟩) (by assumption) ?_
          · (intro wq hSw; obtain ⟨-, -, -, -, -, a1, -⟩ := hSw.out.1; have a2 := a1 i hlt; clear a1; clear hSw; go_simp)
          try simp only [Act.put, List.getElem_toArray, List.getElem_cons_succ, List.getElem_cons_zero, List.setIfInBounds_toArray, List.set_cons_zero, List.set_cons_succ]
          refine wpAnyH_take (i := 7) (v := ?_) rfl (by kernel_rfl) (by kernel_rfl) (by kernel_rfl) (fun _ _ _ h => h) (Or.inl ⟨by rfl, ?_⟩) (by assumption) ?_
          rotate_left 1
          · (intro wq hSw; clear hSw; go_simp; (try with_reducible rfl))
          try simp only [Act.put, List.getElem_toArray, List.getElem_cons_succ, List.getElem_cons_zero, List.setIfInBounds_toArray, List.set_cons_zero, List.set_cons_succ]
          refine wpAnyH_take (i := 8) (v := .string (hi)) rfl (by kernel_rfl) (by kernel_rfl) (by kernel_rfl) (fun _ _ _ h => h) (Or.inl ⟨by rfl, ?_⟩) (by assumption) ?_
          · (intro wq hSw; obtain ⟨-, a1, a2, -, -⟩ := hSw.out.2.2; clear hSw; go_simp)
          try simp only [Act.put, List.getElem_toArray, List.getElem_cons_succ, List.getElem_cons_zero, List.setIfInBounds_toArray, List.set_cons_zero, List.set_cons_succ]
          refine wpAnyH_ready (rs := [9]) (by kernel_rfl) (by simp) ?_
          refine AllReadyH.cons rfl (fun K hK => ?_) AllReadyH.nil
          have hH := hHeld
          clear hHeld
          go_simp
          (with_reducible refine ((C2 _).out).mono ?_)
          rintro e wn ⟨rfl, hb⟩
          go_simp
          refine hK.out _ _ ?_ (fun hHeld => ?_)
          · exact Lib.hid (hH.out.step hb)
          clear hK K hH hb
          try simp only [Act.put, List.getElem_toArray, List.getElem_cons_succ, List.getElem_cons_zero, List.setIfInBounds_toArray, List.set_cons_zero, List.set_cons_succ]
          refine wpAnyH_take (i := 10) (v := ?_) rfl (by kernel_rfl) (by kernel_rfl) (by kernel_rfl) (fun _ _ _ h => h) (Or.inl ⟨by rfl, ?_⟩) (by assumption) ?_
          rotate_left 1
          · (intro wq hSw; clear hSw; go_simp; (try with_reducible rfl))
          try simp only [Act.put, List.getElem_toArray, List.getElem_cons_succ, List.getElem_cons_zero, List.setIfInBounds_toArray, List.set_cons_zero, List.set_cons_succ]
          refine wpAnyH_done (by kernel_rfl) ?_ _
          refine NoPanic.normal ?_
          have KI := hHeld
          clear hHeld
          obtain ⟨⟨-, -, a3, -, -, a6, -⟩, -, ⟨-, b1, b2, b3, b4⟩⟩ := KI.out
          have a7 := a6 i hlt
          clear a6
          go_wp2_with fail
          clear a3 a7 b1 b2 b3 b4
          refine ⟨⟨i + 1, by omega, by go_num, ?_⟩, by simp [intOf]; omega⟩
          rw [E1y.out, E2y.out]
          exact KI
      · obtain ⟨c1, hc1, C1⟩ := rOrder_notLess h1 ok3.1 ok1.1 ok3.2 ok1.2
        have E1y := Lib.hid (E1x.out.trans (if_neg h1))
        clear h1 E1x
        by_cases h2 : Fr.rat hi.data.toList < Fr.rat (x i).data.toList
        · obtain ⟨c2, hc2, C2⟩ := rOrder_more h2 ok3.1 ok2.1 ok3.2 ok2.2
          have E2y := Lib.hid (E2x.out.trans (if_pos h2))
          clear h2 E2x ok1 ok2 ok3
          go_wp2_with fail
          clear a3
          refine wp_region_noPanic ?_
          refine wp_region_held_drew (S := (fun X => Hid (E1 w X g aa n cap x G (lo) (hi)))) (by kernel_rfl) ?_ (fun hHeld => ?_)
          · exact Lib.hid (KI.out.step (Below.refl _ _).drew)
          clear KI
          generalize wr.drew = Wd at *
          refine wpAnyH_take (i := 0) (v := ?_) rfl (by kernel_rfl) (by kernel_rfl) (by kernel_rfl) (fun _ _ _ h => h) (Or.inl ⟨by rfl, ?_⟩) (by assumption) ?_
          rotate_left 1
          · (intro wq hSw; clear hSw; go_simp; (try with_reducible rfl))
          try simp only [Act.put, List.getElem_toArray, List.getElem_cons_zero, List.setIfInBounds_toArray, List.set_cons_zero, List.set_cons_succ]
          refine wpAnyH_take (i := 1) (v := .pointer (some ⟨g, 0, none⟩)) rfl (by kernel_rfl) (by kernel_rfl) (by kernel_rfl) (fun _ _ _ h => h) (Or.inl ⟨by rfl, ?_⟩) (by assumption) ?_
          · (intro wq hSw; clear hSw; go_simp)
          try simp only [Act.put, List.getElem_toArray, List.getElem_cons_succ, List.getElem_cons_zero, List.setIfInBounds_toArray, List.set_cons_zero, List.set_cons_succ]
          refine wpAnyH_take (i := 2) (v := ?_) rfl (by kernel_rfl) (by kernel_rfl) (by kernel_rfl) (fun _ _ _ h => h) (Or.inl ⟨by rfl, ?_⟩) (by assumption) ?_
          rotate_left 1
          · (intro wq hSw; clear hSw; go_simp; (try with_reducible rfl))
          try simp only [Act.put, List.getElem_toArray, List.getElem_cons_succ, List.getElem_cons_zero, List.setIfInBounds_toArray, List.set_cons_zero, List.set_cons_succ]
          refine wpAnyH_take (i := 3) (v := .slice (some ⟨aa, 0, none⟩) n cap) rfl (by kernel_rfl) (by kernel_rfl) (by kernel_rfl) (fun _ _ _ h => h) (Or.inl ⟨by rfl, ?_⟩) (by assumption) ?_
          · (intro wq hSw; obtain ⟨-, -, a1, -, -, -, -⟩ := hSw.out.1; clear hSw; go_simp)
          try simp only [Act.put, List.getElem_toArray, List.getElem_cons_succ, List.getElem_cons_zero, List.setIfInBounds_toArray, List.set_cons_zero, List.set_cons_succ]
          refine wpAnyH_take (i := 4) (v := ?_) rfl (by kernel_rfl) (by kernel_rfl) (by kernel_rfl) (fun _ _ _ h => h) (Or.inl ⟨by rfl, ?_⟩) (by assumption) ?_
          rotate_left 1
          · (intro wq hSw; clear hSw; go_simp; (try with_reducible rfl))
          try simp only [Act.put, List.getElem_toArray, List.getElem_cons_succ, List.getElem_cons_zero, List.setIfInBounds_toArray, List.set_cons_zero, List.set_cons_succ]
          refine wpAnyH_take (i := 5) (v := .pointer (some ⟨aa, i, none⟩)) rfl (by kernel_rfl) (by kernel_rfl) (by kernel_rfl) (fun _ _ _ h => h) (Or.inl ⟨by rfl, ?_⟩) (by assumption) ?_
          · (intro wq hSw; clear hSw; go_simp)
          try simp only [Act.put, List.getElem_toArray, List.getElem_cons_succ, List.getElem_cons_zero, List.setIfInBounds_toArray, List.set_cons_zero, List.set_cons_succ]
          refine wpAnyH_take (i := 6) (v := .string (x i)) rfl (by kernel_rfl) (by kernel_rfl) (by kernel_rfl) (fun _ _ _ h => h) (Or.inl ⟨by rfl, ?_⟩) (by assumption) ?_
          · (intro wq hSw; obtain ⟨-, -, -, -, -, a1, -⟩ := hSw.out.1; have a2 := a1 i hlt; clear a1; clear hSw; go_simp)
          try simp only [Act.put, List.getElem_toArray, List.getElem_cons_succ, List.getElem_cons_zero, List.setIfInBounds_toArray, List.set_cons_zero, List.set_cons_succ]
          refine wpAnyH_take (i := 7) (v := ?_) rfl (by kernel_rfl) (by kernel_rfl) (by kernel_rfl) (fun _ _ _ h => h) (Or.inl ⟨by rfl, ?_⟩) (by assumption) ?_
          rotate_left 1
          · (intro wq hSw; clear hSw; go_simp; (try with_reducible rfl))
          try simp only [Act.put, List.getElem_toArray, List.getElem_cons_succ, List.getElem_cons_zero, List.setIfInBounds_toArray, List.set_cons_zero, List.set_cons_succ]
          refine wpAnyH_take (i := 8) (v := .string (lo)) rfl (by kernel_rfl) (by kernel_rfl) (by kernel_rfl) (fun _ _ _ h => h) (Or.inl ⟨by rfl, ?_⟩) (by assumption) ?_
          · (intro wq hSw; obtain ⟨-, a1, a2, -, -⟩ := hSw.out.2.2; clear hSw; go_simp)
          try simp only [Act.put, List.getElem_toArray, List.getElem_cons_succ, List.getElem_cons_zero, List.setIfInBounds_toArray, List.set_cons_zero, List.set_cons_succ]
          refine wpAnyH_ready (rs := [9]) (by kernel_rfl) (by simp) ?_
          refine AllReadyH.cons rfl (fun K hK => ?_) AllReadyH.nil
          have hH := hHeld
          clear hHeld
          go_simp
          (with_reducible refine ((C1 _).out).mono ?_)
          rintro e wn ⟨rfl, hb⟩
          go_simp
          refine hK.out _ _ ?_ (fun hHeld => ?_)
          · exact Lib.hid (hH.out.step hb)
          clear hK K hH hb
          try simp only [Act.put, List.getElem_toArray, List.getElem_cons_succ, List.getElem_cons_zero, List.setIfInBounds_toArray, List.set_cons_zero, List.set_cons_succ]
          refine wpAnyH_take (i := 10) (v := ?_) rfl (by kernel_rfl) (by kernel_rfl) (by kernel_rfl) (fun _ _ _ h => h) (Or.inl ⟨by rfl, ?_⟩) (by assumption) ?_
          rotate_left 1
          · (intro wq hSw; clear hSw; go_simp; (try with_reducible rfl))
          try simp only [Act.put, List.getElem_toArray, List.getElem_cons_succ, List.getElem_cons_zero, List.setIfInBounds_toArray, List.set_cons_zero, List.set_cons_succ]
          refine wpAnyH_done (by kernel_rfl) ?_ _
          refine NoPanic.normal ?_
          have KI := hHeld
          clear hHeld
          obtain ⟨⟨-, -, a3, -, -, a6, -⟩, -, ⟨-, b1, b2, b3, b4⟩⟩ := KI.out
          have a7 := a6 i hlt
          clear a6
          go_wp2_with fail
          clear a3 a7 b1 b2 b3 b4
          refine wp_region_noPanic ?_
          refine wp_region_held_drew (S := (fun X => Hid (E1 w X g aa n cap x G (lo) (hi)))) (by kernel_rfl) ?_ (fun hHeld => ?_)
          · exact Lib.hid (KI.out.step (Below.refl _ _).drew)
          clear KI
          generalize wn.drew = Wd at *
          refine wpAnyH_take (i := 0) (v := ?_) rfl (by kernel_rfl) (by kernel_rfl) (by kernel_rfl) (fun _ _ _ h => h) (Or.inl ⟨by rfl, ?_⟩) (by assumption) ?_
          rotate_left 1
          · (intro wq hSw; clear hSw; go_simp; (try with_reducible rfl))
          try simp only [Act.put, List.getElem_toArray, List.getElem_cons_zero, List.setIfInBounds_toArray, List.set_cons_zero, List.set_cons_succ]
          refine wpAnyH_take (i := 1) (v := .pointer (some ⟨g, 0, none⟩)) rfl (by kernel_rfl) (by kernel_rfl) (by kernel_rfl) (fun _ _ _ h => h) (Or.inl ⟨by rfl, ?_⟩) (by assumption) ?_
          · (intro wq hSw; clear hSw; go_simp)
          try simp only [Act.put, List.getElem_toArray, List.getElem_cons_succ, List.getElem_cons_zero, List.setIfInBounds_toArray, List.set_cons_zero, List.set_cons_succ]
          refine wpAnyH_take (i := 2) (v := ?_) rfl (by kernel_rfl) (by kernel_rfl) (by kernel_rfl) (fun _ _ _ h => h) (Or.inl ⟨by rfl, ?_⟩) (by assumption) ?_
          rotate_left 1
          · (intro wq hSw; clear hSw; go_simp; (try with_reducible rfl))
          try simp only [Act.put, List.getElem_toArray, List.getElem_cons_succ, List.getElem_cons_zero, List.setIfInBounds_toArray, List.set_cons_zero, List.set_cons_succ]
          refine wpAnyH_take (i := 3) (v := .slice (some ⟨aa, 0, none⟩) n cap) rfl (by kernel_rfl) (by kernel_rfl) (by kernel_rfl) (fun _ _ _ h => h) (Or.inl ⟨by rfl, ?_⟩) (by assumption) ?_
          · (intro wq hSw; obtain ⟨-, -, a1, -, -, -, -⟩ := hSw.out.1; clear hSw; go_simp)
          try simp only [Act.put, List.getElem_toArray, List.getElem_cons_succ, List.getElem_cons_zero, List.setIfInBounds_toArray, List.set_cons_zero, List.set_cons_succ]
          refine wpAnyH_take (i := 4) (v := ?_) rfl (by kernel_rfl) (by kernel_rfl) (by kernel_rfl) (fun _ _ _ h => h) (Or.inl ⟨by rfl, ?_⟩) (by assumption) ?_
          rotate_left 1
          · (intro wq hSw; clear hSw; go_simp; (try with_reducible rfl))
          try simp only [Act.put, List.getElem_toArray, List.getElem_cons_succ, List.getElem_cons_zero, List.setIfInBounds_toArray, List.set_cons_zero, List.set_cons_succ]
          refine wpAnyH_take (i := 5) (v := .pointer (some ⟨aa, i, none⟩)) rfl (by kernel_rfl) (by kernel_rfl) (by kernel_rfl) (fun _ _ _ h => h) (Or.inl ⟨by rfl, ?_⟩) (by assumption) ?_
          · (intro wq hSw; clear hSw; go_simp)
          try simp only [Act.put, List.getElem_toArray, List.getElem_cons_succ, List.getElem_cons_zero, List.setIfInBounds_toArray, List.set_cons_zero, List.set_cons_succ]
          refine wpAnyH_take (i := 6) (v := .string (x i)) rfl (by kernel_rfl) (by kernel_rfl) (by kernel_rfl) (fun _ _ _ h => h) (Or.inl ⟨by rfl, ?_⟩) (by assumption) ?_
          · (intro wq hSw; obtain ⟨-, -, -, -, -, a1, -⟩ := hSw.out.1; have a2 := a1 i hlt; clear a1; clear hSw; go_simp)
          try simp only [Act.put, List.getElem_toArray, List.getElem_cons_succ, List.getElem_cons_zero, List.setIfInBounds_toArray, List.set_cons_zero, List.set_cons_succ]
          refine wpAnyH_take (i := 7) (v := ?_) rfl (by kernel_rfl) (by kernel_rfl) (by kernel_rfl) (fun _ _ _ h => h) (Or.inl ⟨by rfl, ?_⟩) (by assumption) ?_
          rotate_left 1
          · (intro wq hSw; clear hSw; go_simp; (try with_reducible rfl))
          try simp only [Act.put, List.getElem_toArray, List.getElem_cons_succ, List.getElem_cons_zero, List.setIfInBounds_toArray, List.set_cons_zero, List.set_cons_succ]
          refine wpAnyH_take (i := 8) (v := .string (hi)) rfl (by kernel_rfl) (by kernel_rfl) (by kernel_rfl) (fun _ _ _ h => h) (Or.inl ⟨by rfl, ?_⟩) (by assumption) ?_
          · (intro wq hSw; obtain ⟨-, a1, a2, -, -⟩ := hSw.out.2.2; clear hSw; go_simp)
          try simp only [Act.put, List.getElem_toArray, List.getElem_cons_succ, List.getElem_cons_zero, List.setIfInBounds_toArray, List.set_cons_zero, List.set_cons_succ]
          refine wpAnyH_ready (rs := [9]) (by kernel_rfl) (by simp) ?_
          refine AllReadyH.cons rfl (fun K hK => ?_) AllReadyH.nil
          have hH := hHeld
          clear hHeld
          go_simp
          (with_reducible refine ((C2 _).out).mono ?_)
          rintro e wn ⟨rfl, hb⟩
          go_simp
          refine hK.out _ _ ?_ (fun hHeld => ?_)
          · exact Lib.hid (hH.out.step hb)
          clear hK K hH hb
          try simp only [Act.put, List.getElem_toArray, List.getElem_cons_succ, List.getElem_cons_zero, List.setIfInBounds_toArray, List.set_cons_zero, List.set_cons_succ]
          refine wpAnyH_take (i := 10) (v := ?_) rfl (by kernel_rfl) (by kernel_rfl) (by kernel_rfl) (fun _ _ _ h => h) (Or.inl ⟨by rfl, ?_⟩) (by assumption) ?_
          rotate_left 1
          · (intro wq hSw; clear hSw; go_simp; (try with_reducible rfl))
          try simp only [Act.put, List.getElem_toArray, List.getElem_cons_succ, List.getElem_cons_zero, List.setIfInBounds_toArray, List.set_cons_zero, List.set_cons_succ]
          refine wpAnyH_done (by kernel_rfl) ?_ _
          refine NoPanic.normal ?_
          have KI := hHeld
          clear hHeld
          obtain ⟨⟨-, -, a3, -, -, a6, -⟩, -, ⟨-, b1, b2, b3, b4⟩⟩ := KI.out
          have a7 := a6 i hlt
          clear a6
          go_wp2_with fail
          clear a3 a7 b1 b2 b3 b4
          have KI2 := Lib.hid (KI.out.put1 (x i))
          clear KI
          have KI := KI2
          clear KI2
          refine ⟨⟨i + 1, by omega, by go_num, ?_⟩, by simp [intOf]; omega⟩
          rw [E1y.out, E2y.out]
          exact KI
        · obtain ⟨c2, hc2, C2⟩ := rOrder_notMore h2 ok3.1 ok2.1 ok3.2 ok2.2
          have E2y := Lib.hid (E2x.out.trans (if_neg h2))
          clear h2 E2x ok1 ok2 ok3
          go_wp2_with fail
          clear a3
          refine wp_region_noPanic ?_
          refine wp_region_held_drew (S := (fun X => Hid (E1 w X g aa n cap x G (lo) (hi)))) (by kernel_rfl) ?_ (fun hHeld => ?_)
          · exact Lib.hid (KI.out.step (Below.refl _ _).drew)
          clear KI
          generalize wr.drew = Wd at *
          refine wpAnyH_take (i := 0) (v := ?_) rfl (by kernel_rfl) (by kernel_rfl) (by kernel_rfl) (fun _ _ _ h => h) (Or.inl ⟨by rfl, ?_⟩) (by assumption) ?_
          rotate_left 1
          · (intro wq hSw; clear hSw; go_simp; (try with_reducible rfl))
          try simp only [Act.put, List.getElem_toArray, List.getElem_cons_zero, List.setIfInBounds_toArray, List.set_cons_zero, List.set_cons_succ]
          refine wpAnyH_take (i := 1) (v := .pointer (some ⟨g, 0, none⟩)) rfl (by kernel_rfl) (by kernel_rfl) (by kernel_rfl) (fun _ _ _ h => h) (Or.inl ⟨by rfl, ?_⟩) (by assumption) ?_
          · (intro wq hSw; clear hSw; go_simp)
          try simp only [Act.put, List.getElem_toArray, List.getElem_cons_succ, List.getElem_cons_zero, List.setIfInBounds_toArray, List.set_cons_zero, List.set_cons_succ]
          refine wpAnyH_take (i := 2) (v := ?_) rfl (by kernel_rfl) (by kernel_rfl) (by kernel_rfl) (fun _ _ _ h => h) (Or.inl ⟨by rfl, ?_⟩) (by assumption) ?_
          rotate_left 1
          · (intro wq hSw; clear hSw; go_simp; (try with_reducible rfl))
          try simp only [Act.put, List.getElem_toArray, List.getElem_cons_succ, List.getElem_cons_zero, List.setIfInBounds_toArray, List.set_cons_zero, List.set_cons_succ]
          refine wpAnyH_take (i := 3) (v := .slice (some ⟨aa, 0, none⟩) n cap) rfl (by kernel_rfl) (by kernel_rfl) (by kernel_rfl) (fun _ _ _ h => h) (Or.inl ⟨by rfl, ?_⟩) (by assumption) ?_
          · (intro wq hSw; obtain ⟨-, -, a1, -, -, -, -⟩ := hSw.out.1; clear hSw; go_simp)
          try simp only [Act.put, List.getElem_toArray, List.getElem_cons_succ, List.getElem_cons_zero, List.setIfInBounds_toArray, List.set_cons_zero, List.set_cons_succ]
          refine wpAnyH_take (i := 4) (v := ?_) rfl (by kernel_rfl) (by kernel_rfl) (by kernel_rfl) (fun _ _ _ h => h) (Or.inl ⟨by rfl, ?_⟩) (by assumption) ?_
          rotate_left 1
          · (intro wq hSw; clear hSw; go_simp; (try with_reducible rfl))
          try simp only [Act.put, List.getElem_toArray, List.getElem_cons_succ, List.getElem_cons_zero, List.setIfInBounds_toArray, List.set_cons_zero, List.set_cons_succ]
          refine wpAnyH_take (i := 5) (v := .pointer (some ⟨aa, i, none⟩)) rfl (by kernel_rfl) (by kernel_rfl) (by kernel_rfl) (fun _ _ _ h => h) (Or.inl ⟨by rfl, ?_⟩) (by assumption) ?_
          · (intro wq hSw; clear hSw; go_simp)
          try simp only [Act.put, List.getElem_toArray, List.getElem_cons_succ, List.getElem_cons_zero, List.setIfInBounds_toArray, List.set_cons_zero, List.set_cons_succ]
          refine wpAnyH_take (i := 6) (v := .string (x i)) rfl (by kernel_rfl) (by kernel_rfl) (by kernel_rfl) (fun _ _ _ h => h) (Or.inl ⟨by rfl, ?_⟩) (by assumption) ?_
          · (intro wq hSw; obtain ⟨-, -, -, -, -, a1, -⟩ := hSw.out.1; have a2 := a1 i hlt; clear a1; clear hSw; go_simp)
          try simp only [Act.put, List.getElem_toArray, List.getElem_cons_succ, List.getElem_cons_zero, List.setIfInBounds_toArray, List.set_cons_zero, List.set_cons_succ]
          refine wpAnyH_take (i := 7) (v := ?_) rfl (by kernel_rfl) (by kernel_rfl) (by kernel_rfl) (fun _ _ _ h => h) (Or.inl ⟨by rfl, ?_⟩) (by assumption) ?_
          rotate_left 1
          · (intro wq hSw; clear hSw; go_simp; (try with_reducible rfl))
          try simp only [Act.put, List.getElem_toArray, List.getElem_cons_succ, List.getElem_cons_zero, List.setIfInBounds_toArray, List.set_cons_zero, List.set_cons_succ]
          refine wpAnyH_take (i := 8) (v := .string (lo)) rfl (by kernel_rfl) (by kernel_rfl) (by kernel_rfl) (fun _ _ _ h => h) (Or.inl ⟨by rfl, ?_⟩) (by assumption) ?_
          · (intro wq hSw; obtain ⟨-, a1, a2, -, -⟩ := hSw.out.2.2; clear hSw; go_simp)
          try simp only [Act.put, List.getElem_toArray, List.getElem_cons_succ, List.getElem_cons_zero, List.setIfInBounds_toArray, List.set_cons_zero, List.set_cons_succ]
          refine wpAnyH_ready (rs := [9]) (by kernel_rfl) (by simp) ?_
          refine AllReadyH.cons rfl (fun K hK => ?_) AllReadyH.nil
          have hH := hHeld
          clear hHeld
          go_simp
          (with_reducible refine ((C1 _).out).mono ?_)
          rintro e wn ⟨rfl, hb⟩
          go_simp
          refine hK.out _ _ ?_ (fun hHeld => ?_)
          · exact Lib.hid (hH.out.step hb)
          clear hK K hH hb
          try simp only [Act.put, List.getElem_toArray, List.getElem_cons_succ, List.getElem_cons_zero, List.setIfInBounds_toArray, List.set_cons_zero, List.set_cons_succ]
          refine wpAnyH_take (i := 10) (v := ?_) rfl (by kernel_rfl) (by kernel_rfl) (by kernel_rfl) (fun _ _ _ h => h) (Or.inl ⟨by rfl, ?_⟩) (by assumption) ?_
          rotate_left 1
          · (intro wq hSw; clear hSw; go_simp; (try with_reducible rfl))
          try simp only [Act.put, List.getElem_toArray, List.getElem_cons_succ, List.getElem_cons_zero, List.setIfInBounds_toArray, List.set_cons_zero, List.set_cons_succ]
          refine wpAnyH_done (by kernel_rfl) ?_ _
          refine NoPanic.normal ?_
          have KI := hHeld
          clear hHeld
          obtain ⟨⟨-, -, a3, -, -, a6, -⟩, -, ⟨-, b1, b2, b3, b4⟩⟩ := KI.out
          have a7 := a6 i hlt
          clear a6
          go_wp2_with fail
          clear a3 a7 b1 b2 b3 b4
          refine wp_region_noPanic ?_
          refine wp_region_held_drew (S := (fun X => Hid (E1 w X g aa n cap x G (lo) (hi)))) (by kernel_rfl) ?_ (fun hHeld => ?_)
          · exact Lib.hid (KI.out.step (Below.refl _ _).drew)
          clear KI
          generalize wn.drew = Wd at *
          refine wpAnyH_take (i := 0) (v := ?_) rfl (by kernel_rfl) (by kernel_rfl) (by kernel_rfl) (fun _ _ _ h => h) (Or.inl ⟨by rfl, ?_⟩) (by assumption) ?_
          rotate_left 1
          · (intro wq hSw; clear hSw; go_simp; (try with_reducible rfl))
          try simp only [Act.put, List.getElem_toArray, List.getElem_cons_zero, List.setIfInBounds_toArray, List.set_cons_zero, List.set_cons_succ]
          refine wpAnyH_take (i := 1) (v := .pointer (some ⟨g, 0, none⟩)) rfl (by kernel_rfl) (by kernel_rfl) (by kernel_rfl) (fun _ _ _ h => h) (Or.inl ⟨by rfl, ?_⟩) (by assumption) ?_
          · (intro wq hSw; clear hSw; go_simp)
          try simp only [Act.put, List.getElem_toArray, List.getElem_cons_succ, List.getElem_cons_zero, List.setIfInBounds_toArray, List.set_cons_zero, List.set_cons_succ]
          refine wpAnyH_take (i := 2) (v := ?_) rfl (by kernel_rfl) (by kernel_rfl) (by kernel_rfl) (fun _ _ _ h => h) (Or.inl ⟨by rfl, ?_⟩) (by assumption) ?_
          rotate_left 1
          · (intro wq hSw; clear hSw; go_simp; (try with_reducible rfl))
          try simp only [Act.put, List.getElem_toArray, List.getElem_cons_succ, List.getElem_cons_zero, List.setIfInBounds_toArray, List.set_cons_zero, List.set_cons_succ]
          refine wpAnyH_take (i := 3) (v := .slice (some ⟨aa, 0, none⟩) n cap) rfl (by kernel_rfl) (by kernel_rfl) (by kernel_rfl) (fun _ _ _ h => h) (Or.inl ⟨by rfl, ?_⟩) (by assumption) ?_
          · (intro wq hSw; obtain ⟨-, -, a1, -, -, -, -⟩ := hSw.out.1; clear hSw; go_simp)
          try simp only [Act.put, List.getElem_toArray, List.getElem_cons_succ, List.getElem_cons_zero, List.setIfInBounds_toArray, List.set_cons_zero, List.set_cons_succ]
          refine wpAnyH_take (i := 4) (v := ?_) rfl (by kernel_rfl) (by kernel_rfl) (by kernel_rfl) (fun _ _ _ h => h) (Or.inl ⟨by rfl, ?_⟩) (by assumption) ?_
          rotate_left 1
          · (intro wq hSw; clear hSw; go_simp; (try with_reducible rfl))
          try simp only [Act.put, List.getElem_toArray, List.getElem_cons_succ, List.getElem_cons_zero, List.setIfInBounds_toArray, List.set_cons_zero, List.set_cons_succ]
          refine wpAnyH_take (i := 5) (v := .pointer (some ⟨aa, i, none⟩)) rfl (by kernel_rfl) (by kernel_rfl) (by kernel_rfl) (fun _ _ _ h => h) (Or.inl ⟨by rfl, ?_⟩) (by assumption) ?_
          · (intro wq hSw; clear hSw; go_simp)
          try simp only [Act.put, List.getElem_toArray, List.getElem_cons_succ, List.getElem_cons_zero, List.setIfInBounds_toArray, List.set_cons_zero, List.set_cons_succ]
          refine wpAnyH_take (i := 6) (v := .string (x i)) rfl (by kernel_rfl) (by kernel_rfl) (by kernel_rfl) (fun _ _ _ h => h) (Or.inl ⟨by rfl, ?_⟩) (by assumption) ?_
          · (intro wq hSw; obtain ⟨-, -, -, -, -, a1, -⟩ := hSw.out.1; have a2 := a1 i hlt; clear a1; clear hSw; go_simp)
          try simp only [Act.put, List.getElem_toArray, List.getElem_cons_succ, List.getElem_cons_zero, List.setIfInBounds_toArray, List.set_cons_zero, List.set_cons_succ]
          refine wpAnyH_take (i := 7) (v := ?_) rfl (by kernel_rfl) (by kernel_rfl) (by kernel_rfl) (fun _ _ _ h => h) (Or.inl ⟨by rfl, ?_⟩) (by assumption) ?_
          rotate_left 1
          · (intro wq hSw; clear hSw; go_simp; (try with_reducible rfl))
          try simp only [Act.put, List.getElem_toArray, List.getElem_cons_succ, List.getElem_cons_zero, List.setIfInBounds_toArray, List.set_cons_zero, List.set_cons_succ]
          refine wpAnyH_take (i := 8) (v := .string (hi)) rfl (by kernel_rfl) (by kernel_rfl) (by kernel_rfl) (fun _ _ _ h => h) (Or.inl ⟨by rfl, ?_⟩) (by assumption) ?_
          · (intro wq hSw; obtain ⟨-, a1, a2, -, -⟩ := hSw.out.2.2; clear hSw; go_simp)
          try simp only [Act.put, List.getElem_toArray, List.getElem_cons_succ, List.getElem_cons_zero, List.setIfInBounds_toArray, List.set_cons_zero, List.set_cons_succ]
          refine wpAnyH_ready (rs := [9]) (by kernel_rfl) (by simp) ?_
          refine AllReadyH.cons rfl (fun K hK => ?_) AllReadyH.nil
          have hH := hHeld
          clear hHeld
          go_simp
          (with_reducible refine ((C2 _).out).mono ?_)
          rintro e wn ⟨rfl, hb⟩
          go_simp
          refine hK.out _ _ ?_ (fun hHeld => ?_)
          · exact Lib.hid (hH.out.step hb)
          clear hK K hH hb
          try simp only [Act.put, List.getElem_toArray, List.getElem_cons_succ, List.getElem_cons_zero, List.setIfInBounds_toArray, List.set_cons_zero, List.set_cons_succ]
          refine wpAnyH_take (i := 10) (v := ?_) rfl (by kernel_rfl) (by kernel_rfl) (by kernel_rfl) (fun _ _ _ h => h) (Or.inl ⟨by rfl, ?_⟩) (by assumption) ?_
          rotate_left 1
          · (intro wq hSw; clear hSw; go_simp; (try with_reducible rfl))
          try simp only [Act.put, List.getElem_toArray, List.getElem_cons_succ, List.getElem_cons_zero, List.setIfInBounds_toArray, List.set_cons_zero, List.set_cons_succ]
          refine wpAnyH_done (by kernel_rfl) ?_ _
          refine NoPanic.normal ?_
          have KI := hHeld
          clear hHeld
          obtain ⟨⟨-, -, a3, -, -, a6, -⟩, -, ⟨-, b1, b2, b3, b4⟩⟩ := KI.out
          have a7 := a6 i hlt
          clear a6
          go_wp2_with fail
          clear a3 a7 b1 b2 b3 b4
          refine ⟨⟨i + 1, by omega, by go_num, ?_⟩, by simp [intOf]; omega⟩
          rw [E1y.out, E2y.out]
          exact KI
    · obtain ⟨⟨hbel, -, a3, -, -, -, ⟨-, b1, b2, b3, b4⟩⟩, hG2, ⟨-, d1, d2, d3, d4⟩⟩ := KI.out
      have ei : i = n := by omega
      subst ei
      clear HL HH HX KI
      go_wp2
      have hfin := (hbel.setCell (p := ⟨w.heap.size, 0, none⟩) (Nat.le_refl _) (.string (loF x i))).setCell (p := ⟨w.heap.size, 1, none⟩) (Nat.le_refl _) (.string (hiF x i))
      exact bodyPost_ret (v := .tuple #[.agg #[.string (loF x i), .string (hiF x i)], .int .i64 0]) (by simp [results, Tryz.results61, go_sem, b1, b2]) rfl ⟨rfl, hfin⟩
def fourX (l h m k : ByteArray) : Nat → ByteArray | 0 => l | 1 => h | 2 => m | _ => k
theorem fourX_ok {l h m k : ByteArray} (hl : l.size ≤ 800) (hh : h.size ≤ 800) (hm : m.size ≤ 800) (hk : k.size ≤ 800) (kl : Fr.chk l.data.toList = 0) (kh : Fr.chk h.data.toList = 0) (km : Fr.chk m.data.toList = 0) (kk : Fr.chk k.data.toList = 0) (i : Nat) : (fourX l h m k i).size ≤ 800 ∧ Fr.chk (fourX l h m k i).data.toList = 0 := by
  match i with
  | 0 => exact ⟨hl, kl⟩
  | 1 => exact ⟨hh, kh⟩
  | 2 => exact ⟨hm, km⟩
  | _ + 3 => exact ⟨hk, kk⟩
/-- The least and the greatest one of the four ends of two right enclosures. -/
theorem ends_four {l h m k : ByteArray} (h0 : chk2 l h m k = 0) : loF (fourX l h m k) 4 = leastB l m ∧ hiF (fourX l h m k) 4 = greatB h k := by
  obtain ⟨kl, kh, km, kk⟩ := chk2_parts h0
  obtain ⟨e1, e2⟩ := chk2_zero h0
  obtain ⟨-, -, o1⟩ := chkE_zero e1
  obtain ⟨-, -, o2⟩ := chkE_zero e2
  have inj := fun (s t : ByteArray) (hs : Fr.chk s.data.toList = 0) (ht : Fr.chk t.data.toList = 0) (e : Fr.rat s.data.toList = Fr.rat t.data.toList) => show s = t from by
    have := Fr.rat_inj hs ht e
    cases s; cases t
    simp only at this ⊢
    rw [Array.toList_inj.1 this]
  have i1 := inj l h kl kh
  have i2 := inj m k km kk
  have i3 := inj l k kl kk
  have i4 := inj m h km kh
  have i5 := inj h k kh kk
  have i6 := inj l m kl km
  constructor
  · simp only [loF, fourX, leastB]
    clear i1 i2 i3 i4 i5 i6 inj
    split <;> split <;> (try split) <;> (try split) <;> (try split) <;> (try split) <;> (first | rfl | (exfalso; grind))
  · simp only [hiF, fourX, greatB]
    clear inj
    split <;> split <;> (try split) <;> (try split) <;> (try split) <;> (try split) <;> (first | rfl | (exfalso; grind) | (exact i3 (by grind)) | (exact (i1 (by grind))) | (exact (i1 (by grind)).symm) | (exact (i2 (by grind))) | (exact (i4 (by grind))) | (exact (i4 (by grind)).symm) | (exact (i5 (by grind))) | (exact (i5 (by grind)).symm))
set_option maxRecDepth 100000 in
set_option maxHeartbeats 4000000 in
theorem rHull_any (l h m k : ByteArray) (w : World) (hl : l.size ≤ 800) (hh : h.size ≤ 800) (hm : m.size ≤ 800) (hk : k.size ≤ 800) :
    Calls Tryz.prog 25 #[.agg #[.string l, .string h], .agg #[.string m, .string k]] w (HullPost w (chk2 l h m k) (loF (fourX l h m k) 4) (hiF (fourX l h m k) 4)) := by
  have CB := fun W => Lib.hid (rbothE_any l h m k W hl hh hm hk)
  have KF := Lib.hid (show M0 w ((Two w l h m k).alloc (.cells #[.string ⟨#[]⟩, .string ⟨#[]⟩] 24)) l h m k from by
    have h1 := two_below w l h m k
    unfold Two at *
    obtain ⟨hp, hq⟩ := pair_next w l h m k 24 24
    have hr := pair_new ((w.alloc (.cells #[.string l, .string h] 24)).alloc (.cells #[.string m, .string k] 24)) ⟨#[]⟩ ⟨#[]⟩ 24
    rw [show ((w.alloc (.cells #[.string l, .string h] 24)).alloc (.cells #[.string m, .string k] 24)).heap.size = w.heap.size + 1 + 1 by simp] at hr
    have b1 := fun (W : World) (o : Obj) => (Below.refl W.heap.size W).alloc (Nat.le_refl _) o
    exact ⟨h1.alloc h1.size _, hp.below (b1 _ _), hq.below (b1 _ _), hr⟩)
  unfold HullPost
  by_cases h0 : chk2 l h m k = 0
  · obtain ⟨kl, kh, km, kk⟩ := chk2_parts h0
    have CE := fun (W : World) (g aa : Nat) (hg : g < W.heap.size) (ha : aa < W.heap.size) c0 c1 cx => Lib.hid (rEnds_any g aa 4 4 (fourX l h m k) W (by decide) (by decide) hg ha c0 c1 cx (fun i _ => fourX_ok hl hh hm hk kl kh km kk i))
    generalize hlo : loF (fourX l h m k) 4 = lo at *
    generalize hhi : hiF (fourX l h m k) 4 = hi at *
    rw [h0] at CB ⊢
    rw [if_pos rfl]
    clear h0 kl kh km kk hl hh hm hk hlo hhi
    unfold Two at *
    go_enter Tryz.func25, Tryz.ntmps25
    go_wp2_with fail
    refine ((CB _).out).mono ?_
    rintro e w1 ⟨rfl, hb1⟩
    have K1 := Lib.hid (KF.out.step hb1)
    clear hb1 KF CB
    obtain ⟨hB, ⟨p0, p1, p2, p3, p4⟩, ⟨q0, q1, q2, q3, q4⟩, ⟨r0, r1, r2, r3, r4⟩⟩ := K1.out
    go_wp2_with fail
    clear hB p0 p1 p2 p3 p4 q0 q1 q2 q3 q4 r0 r1 r2 r3 r4
    refine ((CE _ (w1.heap.size + 1) w1.heap.size (by simp) (by simp; omega) (by simp [go_sem]) (by simp [go_sem]) (by
      intro i hi4
      have h4 : i = 0 ∨ i = 1 ∨ i = 2 ∨ i = 3 := by omega
      rcases h4 with rfl | rfl | rfl | rfl <;> simp [go_sem, fourX])).out).mono ?_
    rintro e w2 ⟨rfl, hb2⟩
    have hbb := (((Below.refl w1.heap.size w1).alloc (Nat.le_refl _) (.cells #[.string l, .string h, .string m, .string k] 22)).alloc (by simp) (.cells #[.slice (some ⟨w1.heap.size, 0, none⟩) 4 4, .int .i64 0] 84)).trans (hb2.mono (by simp; omega))
    have K2 := Lib.hid (K1.out.step hbb)
    clear hbb hb2 K1 CE
    obtain ⟨hB, -, -, ⟨r0, r1, r2, r3, r4⟩⟩ := K2.out
    go_wp2
    have hfin := (hB.setCell (p := ⟨w.heap.size + 1 + 1, 0, none⟩) (by show w.heap.size ≤ w.heap.size + 1 + 1; omega) (.string lo)).setCell (p := ⟨w.heap.size + 1 + 1, 1, none⟩) (by show w.heap.size ≤ w.heap.size + 1 + 1; omega) (.string hi)
    exact bodyPost_ret (v := .tuple #[.agg #[.string lo, .string hi], .int .i64 0]) (by simp [results, Tryz.results25, go_sem, r1, r2]) rfl ⟨rfl, hfin⟩
  · have hne : (chk2 l h m k != 0) = true := by simpa using h0
    rw [if_neg h0]
    generalize chk2 l h m k = f at *
    clear h0
    unfold Two at *
    go_enter Tryz.func25, Tryz.ntmps25
    go_wp2_with fail
    refine ((CB _).out).mono ?_
    rintro e w1 ⟨rfl, hb1⟩
    have KK := Lib.hid (KF.out.step hb1)
    clear hb1 KF CB
    obtain ⟨p0, p1, p2, p3, p4⟩ := KK.out.2.2.2
    go_wp2
    have hfin := (KK.out.1.setCell (p := ⟨w.heap.size + 1 + 1, 0, none⟩) (by show w.heap.size ≤ w.heap.size + 1 + 1; omega) (.string ⟨#[]⟩)).setCell (p := ⟨w.heap.size + 1 + 1, 1, none⟩) (by show w.heap.size ≤ w.heap.size + 1 + 1; omega) (.string ⟨#[]⟩)
    exact bodyPost_ret (v := .tuple #[.agg #[.string ⟨#[]⟩, .string ⟨#[]⟩], .int .i64 f]) (by simp [results, Tryz.results25, go_sem, p1, p2]) rfl ⟨rfl, hfin⟩
/-- The same ends as the program's. -/
theorem rHull_same (l h m k : ByteArray) (w : World) (hl : l.size ≤ 800) (hh : h.size ≤ 800) (hm : m.size ≤ 800) (hk : k.size ≤ 800) :
    Calls Tryz.prog 25 #[.agg #[.string l, .string h], .agg #[.string m, .string k]] w (HullPost w (chk2 l h m k) (leastB l m) (greatB h k)) := by
  have h9 := rHull_any l h m k w hl hh hm hk
  by_cases h0 : chk2 l h m k = 0
  · rw [(ends_four h0).1, (ends_four h0).2] at h9
    exact h9
  · unfold HullPost at *
    rw [if_neg h0] at h9 ⊢
    exact h9
end Go.Proofs.YtldclpdmcopgnaaGreatDoor
