/- 'append' of several texts; slices.Sort of texts; Ports of package part. -/
import Derived.Test.YthjkcncfppndkaaDoorGF
namespace Pt
theorem srt_len (l : List ByteArray) : (srt l).length = l.length := by simp [srt, List.length_mergeSort]
end Pt
namespace Go.Proofs.YthjkcncfppndkaaDoor
open Go.RowKit
theorem wpList_append_texts {P : Program} {w : World} {ops : Array Oper} {rest : List Oper} {o : Oper} {a : Act} {Q : Exit → Act → World → Prop} (hgd : o.guard = none) (s x : Operand) (t : TypeId)
    (ho : o.op = .call { callee := .builtin .append, args := #[s, x], argTypes := #[t, t] })
    (i : TypeInfo) (ht : P.underlying t = some (.slice 9)) (hi : P.info? 9 = some i) (hz : i.zero = some (.string ⟨#[]⟩)) (hsize : i.size = 1) (hby : i.bytes = 16)
    (v : Value) (l m : List ByteArray) (A : Nat) (hs : a.eval s = v) (hx : a.eval x = .slice (some ⟨A, 0, none⟩) m.length m.length) (B B2 : Nat) (hown : RowS B w v l) (hu : RowS B2 w (.slice (some ⟨A, 0, none⟩) m.length m.length) m)
    (hlen : l.length + m.length ≤ 1048576) (hB : B ≤ w.heap.size)
    (h : ∀ v' w', RowS B w' v' (l ++ m) → Below B w w' → wpList P ops Q rest (a.put o.dst v') w') : wpList P ops Q (o :: rest) a w := by
  refine wpList_append_own w hgd s x t ho B 9 i (.string ⟨#[]⟩) 1 16 ht hi hz hsize hby rfl (by omega) v l.length _ hs hown ⟨A, 0, none⟩ m.length m.length (m.map fun s => .string s) hx (by simp) ?_ ?_ (by unfold maxLen; omega) (by omega) hB ?_
  · intro j u hj
    have hjl : j < m.length := by simpa using (List.getElem?_eq_some_iff.1 hj).1
    have hadd : (⟨A, 0, none⟩ : Addr).add j = ⟨A, j, none⟩ := by unfold Addr.add; split <;> simp_all
    rw [hadd, World.ownsRow.cellAt hu j (by omega)]
    exact hj
  · intro u hu
    obtain ⟨y, -, rfl⟩ := List.mem_map.1 hu
    rfl
  · intro v' w' r1 r2 r3
    refine h v' w' ?_ ((Below.refl _ _).grown r2 hB (fun g hg => (World.ownsRow.lt hown g hg).1))
    unfold RowS
    rw [List.length_append, List.map_append]
    exact r1
theorem RowS.sees {B : Nat} {w : World} {v : Value} {l : List ByteArray} (h : RowS B w v l) : SeeS w v l := by
  rcases id h.2 with ⟨rfl, h0⟩ | ⟨g, cap, cur, rfl, hb, hg, h1, h2, h3, h4⟩
  · exact .inl ⟨rfl, List.eq_nil_of_length_eq_zero h0⟩
  · refine .inr ⟨g, 0, cap, rfl, (Array.getElem?_eq_some_iff.1 hg).1, by omega, by unfold maxLen at *; omega, fun i hi => ?_⟩
    have := World.ownsRow.cellAt h i (by omega)
    rw [Nat.zero_add, this, List.getElem?_map, List.getD_eq_getElem?_getD, List.getElem?_eq_getElem hi]
    rfl
set_option maxHeartbeats 2000000 in
theorem sort_any (B : Nat) (v : Value) (l : List ByteArray) (w : World) (h : RowS B w v l) (h0 : 0 < l.length) (hl : l.length ≤ 1000) :
    Calls Tryd.prog 45 #[v] w fun e w' => e = .returned (.tuple #[]) ∧ SeeS w' v (Pt.srt l) ∧ Below B w w' := by
  rcases id h.2 with ⟨rfl, h0'⟩ | ⟨g, cap, cur, rfl, hb, hg, h1, h2, h3, h4⟩
  · omega
  · have hgs := (Array.getElem?_eq_some_iff.1 hg).1
    have hsz : (l.map (·.data.toList)).toArray.size = l.length := by simp
    have hH : Go.Sort.Holds encStr w g 0 (l.map (·.data.toList)).toArray := fun j hj => by
      have hjl : j < l.length := by simpa using hj
      have h5 := World.ownsRow.cellAt h j (by omega)
      rw [Nat.zero_add, h5, List.getElem?_map, List.getElem?_eq_getElem hjl]
      refine ⟨?_, by simp [World.frozen?, hg]⟩
      rw [getElem!_pos _ j hj]
      simp [encStr]
    have := Tryd.slices_Sort_string g 0 cap (l.map (·.data.toList)) w hH hgs (by simp; omega)
    rw [List.length_map] at this
    refine this.mono ?_
    rintro e w' ⟨rfl, n, os, rfl⟩
    have hyl : ((l.map (·.data.toList)).mergeSort fun x y => decide (x ≤ y)).length = (l.map (·.data.toList)).toArray.size := by rw [List.length_mergeSort, hsz, List.length_map]
    rw [Lib.sorted_world encStr w g 0 n _ _ os hH hyl]
    have hlen : ((((l.map (·.data.toList)).mergeSort fun x y => decide (x ≤ y)).map encStr)).length = l.length := by rw [List.length_map, hyl, hsz]
    have hB1 : Below B w ((w.drewN n).setCells g 0 (((l.map (·.data.toList)).mergeSort fun x y => decide (x ≤ y)).map encStr)) := below_cells (below_drewN w n) hb _ 0
    have hz := size_cells g (((l.map (·.data.toList)).mergeSort fun x y => decide (x ≤ y)).map encStr) 0 (w.drewN n)
    have hz2 : w.heap.size ≤ ((w.drewN n).setCells g 0 (((l.map (·.data.toList)).mergeSort fun x y => decide (x ≤ y)).map encStr)).heap.size := hz
    have hcs := World.cell?_setCells_in g (((l.map (·.data.toList)).mergeSort fun x y => decide (x ≤ y)).map encStr) 0 (w.drewN n) (fun j hj => by
      have h5 := World.ownsRow.cellAt h j (by omega)
      show (w.cell? ⟨g, 0 + j, none⟩).isSome = true
      rw [Nat.zero_add, h5, List.getElem?_map, List.getElem?_eq_getElem (by omega)]
      rfl)
    generalize hX : (w.drewN n).setCells g 0 (((l.map (·.data.toList)).mergeSort fun x y => decide (x ≤ y)).map encStr) = X at *
    refine ⟨rfl, .inr ⟨g, 0, cap, by rw [Pt.srt_len], ?_, by rw [Pt.srt_len]; omega, by unfold maxLen at *; omega, fun i hi => ?_⟩, ?_⟩
    · show g < (X.heap ++ os).size
      simp; omega
    · rw [Go.Sort.cell?_grow _ _ _ (show g < X.heap.size by omega), hcs i (by rw [hlen]; rw [Pt.srt_len] at hi; exact hi)]
      have hi2 : i < ((l.map (·.data.toList)).mergeSort fun x y => decide (x ≤ y)).length := by rw [hyl, hsz]; rw [Pt.srt_len] at hi; exact hi
      rw [List.getElem_map, List.getD_eq_getElem?_getD, List.getElem?_eq_getElem hi]
      simp [Pt.srt, encStr]
    · exact hB1.trans ⟨rfl, rfl, rfl, by show X.heap.size ≤ (X.heap ++ os).size; simp, fun k hk => Go.Sort.heap_grow_old X os (by have := hB1.size; omega)⟩
end Go.Proofs.YthjkcncfppndkaaDoor
