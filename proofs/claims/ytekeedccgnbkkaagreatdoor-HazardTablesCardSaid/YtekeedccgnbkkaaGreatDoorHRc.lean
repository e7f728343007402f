/- The reference of package hazard: what a form has on the way of a change, and its errors. -/
import Derived.Test.YtekeedccgnbkkaaGreatDoorHRa
import Derived.Test.YtekeedccgnbkkaaGreatDoorHRb
import Derived.Test.YtekeedccgnbkkaaGreatDoorHC
namespace Go.Proofs.YtekeedccgnbkkaaGreatDoor
open Go.RowKit Go.Shelf


set_option maxHeartbeats 4000000 in
set_option maxRecDepth 100000 in
theorem rState_any (n a b : Nat) (l : List (Nat × Nat)) (v : Value) (w : World) (hn : n ≤ 6) (ha : a < 64) (hb : b < 64) (hw : Hz.W64 l) (hs : SeesO w v l) :
    Calls Tryz.prog 27 #[.int .i64 n, v, .int .i64 a, .int .i64 b] w fun e w' => e = .returned (.int .i64 (Hz.st (Hz.way n a b) l)) ∧ Below w.heap.size w w' := by
  obtain ⟨ao, cap, rfl, hcap1, hcap2, hcells⟩ := hs.opened
  have HC := Lib.hid hcells
  have CO := fun W => Lib.hid (rOn8_any n a b W hn ha hb)
  have hW : ∀ k ∈ Hz.way n a b, k < 64 := fun k hk => Nat.lt_of_lt_of_le (Hz.way_mem.1 hk).1 (Tt.size_le hn)
  have CA := fun i (hi : i < l.length) pv W h => Lib.hid (rAll8_any (l.getD i (0, 0)).1 (l.getD i (0, 0)).2 (Hz.way n a b) pv W (hw.at hi).1 hW h)
  have HEND : Hid (∀ r : Nat, (∀ p ∈ l, Hz.al (Hz.way n a b) p = false) → r = (if (l.any (Hz.so (Hz.way n a b))) = true then 2 else 0) → r = Hz.st (Hz.way n a b) l) := Lib.hid (fun r h1 h2 => by
    have h0 : l.any (Hz.al (Hz.way n a b)) = false := List.any_eq_false.2 (fun p hp => by simp [h1 p hp])
    unfold Hz.st
    rw [h0]; simpa using h2)
  have HONE : Hid (∀ i, i < l.length → Hz.al (Hz.way n a b) (l.getD i (0, 0)) = true → Hz.st (Hz.way n a b) l = 1) := Lib.hid (fun i hi h => by
    have h0 : l.any (Hz.al (Hz.way n a b)) = true := List.any_eq_true.2 ⟨_, Hz.getD_mem hi, h⟩
    unfold Hz.st
    rw [h0]; rfl)
  obtain ⟨F, F0, FS, FE⟩ : ∃ F : Nat → Nat, F 0 = 0 ∧ Hid (∀ i, i < l.length → F (i + 1) = if Hz.so (Hz.way n a b) (l.getD i (0, 0)) = true then 2 else F i) ∧ Hid (F l.length = if (l.any (Hz.so (Hz.way n a b))) = true then 2 else 0) := by
    refine ⟨fun i => if (l.take i).any (Hz.so (Hz.way n a b)) = true then 2 else 0, by simp, Lib.hid ?_, Lib.hid ?_⟩
    · intro i hi
      simp only [Hz.take_at hi, List.any_append, List.any_cons, List.any_nil, Bool.or_false]
      cases (l.take i).any (Hz.so (Hz.way n a b)) <;> cases Hz.so (Hz.way n a b) (l.getD i (0, 0)) <;> rfl
    · simp only [List.take_length]
  clear hcells hs hW
  generalize Hz.way n a b = W8 at *
  generalize Hz.st W8 l = R at *
  go_enter Tryz.func27, Tryz.ntmps27
  go_wp2
  go_loopw [9, 10] (fun s9 s10 wr => ∃ i : Nat, i ≤ l.length ∧ s10 = .int .i64 i ∧ s9 = .int .i64 (F i) ∧ Hid (∀ j, j < i → Hz.al W8 (l.getD j (0, 0)) = false) ∧ Hid (Below w.heap.size w wr)) (fun _ s10 _ => l.length - (intOf s10).toNat)
  case atStart => exact ⟨0, Nat.zero_le _, rfl, by rw [F0]; rfl, Lib.hid (fun j h => by omega), Lib.hid (Below.refl _ _)⟩
  case round =>
    obtain ⟨i, hi, rfl, rfl, HJ, HB⟩ := hrel
    have hwr := HB.out.size
    by_cases hil : i < l.length
    · obtain ⟨g, off, rfl, hg, c1, c2⟩ := HC.out.at HB.out hil
      have CAi := CA i hil
      have FSi := FS.out i hil
      have ONEi := HONE.out i hil
      have HJ2 : Hid (Hz.al W8 (l.getD i (0, 0)) = false → ∀ j, j < i + 1 → Hz.al W8 (l.getD j (0, 0)) = false) := Lib.hid (fun h j hj => by
        by_cases e : j = i
        · rw [e]; exact h
        · exact HJ.out j (by omega))
      clear CA FS HONE HJ HEND HC hw FE F0
      obtain ⟨f0, HF0⟩ : ∃ f0, Hid (F i = f0) := ⟨_, Lib.hid rfl⟩
      rw [HF0.out] at FSi ⊢
      generalize hy : l.getD i (0, 0) = y at *
      obtain ⟨yc, yv⟩ := y
      simp only at CAi c1 c2
      clear hy
      cases hal : Hz.al W8 (yc, yv)
      · have HJ3 := Lib.hid (HJ2.out hal)
        clear HJ2 ONEi
        rw [hal] at CAi
        cases hso : Hz.so W8 (yc, yv)
        · rw [hso] at CAi FSi
          have HF : Hid (F (i + 1) = f0) := Lib.hid (by simpa using FSi)
          clear FSi hso hal HF0
          go_wp2
          go_region_with (first | (go_at_call 49; go_loud ((with_reducible refine ((CO _).out).mono ?_); rintro e w3 ⟨ov, rfl, hr, hb⟩; have hb := ((Below.refl wr.heap.size wr).drew).trans hb; have HB3 := Lib.hid hb; have HR := Lib.hid hr.sees; have hgr := Nat.lt_of_lt_of_le hg hwr; have d1 := (hb.cell (p := ⟨g, off + i * 2, none⟩) hgr).trans c1; have d2 := (hb.cell (p := ⟨g, off + i * 2 + 1, none⟩) hgr).trans c2; clear hb hr)) | (go_at_call 48; (with_reducible refine ((CAi _ _ HR.out).out).mono ?_); rintro e w4 ⟨rfl, hb⟩; have HB4 := Lib.hid (below_nxt HB3.out hb); clear hb))
          all_goals (go_wp2; exact ⟨⟨i + 1, by omega, rfl, by rw [HF.out], HJ3, Lib.hid (below_nxt HB.out HB4.out)⟩, by simp [intOf]; omega⟩)
        · rw [hso] at CAi FSi
          have HF : Hid (F (i + 1) = 2) := Lib.hid (by simpa using FSi)
          clear FSi hso hal HF0
          go_wp2
          go_region_with (first | (go_at_call 49; go_loud ((with_reducible refine ((CO _).out).mono ?_); rintro e w3 ⟨ov, rfl, hr, hb⟩; have hb := ((Below.refl wr.heap.size wr).drew).trans hb; have HB3 := Lib.hid hb; have HR := Lib.hid hr.sees; have hgr := Nat.lt_of_lt_of_le hg hwr; have d1 := (hb.cell (p := ⟨g, off + i * 2, none⟩) hgr).trans c1; have d2 := (hb.cell (p := ⟨g, off + i * 2 + 1, none⟩) hgr).trans c2; clear hb hr)) | (go_at_call 48; (with_reducible refine ((CAi _ _ HR.out).out).mono ?_); rintro e w4 ⟨rfl, hb⟩; have HB4 := Lib.hid (below_nxt HB3.out hb); clear hb))
          all_goals (go_wp2; exact ⟨⟨i + 1, by omega, rfl, by rw [HF.out]; rfl, HJ3, Lib.hid (below_nxt HB.out HB4.out)⟩, by simp [intOf]; omega⟩)
      · rw [hal] at CAi
        have HR1 : Hid (R = 1) := Lib.hid (ONEi hal)
        clear FSi HJ2 ONEi hal HF0
        generalize Hz.so W8 (yc, yv) = z at *
        go_wp2
        go_region_with (first | (go_at_call 49; go_loud ((with_reducible refine ((CO _).out).mono ?_); rintro e w3 ⟨ov, rfl, hr, hb⟩; have hb := ((Below.refl wr.heap.size wr).drew).trans hb; have HB3 := Lib.hid hb; have HR := Lib.hid hr.sees; have hgr := Nat.lt_of_lt_of_le hg hwr; have d1 := (hb.cell (p := ⟨g, off + i * 2, none⟩) hgr).trans c1; have d2 := (hb.cell (p := ⟨g, off + i * 2 + 1, none⟩) hgr).trans c2; clear hb hr)) | (go_at_call 48; (with_reducible refine ((CAi _ _ HR.out).out).mono ?_); rintro e w4 ⟨rfl, hb⟩; have HB4 := Lib.hid (below_nxt HB3.out hb); clear hb))
        all_goals (go_wp2; exact bodyPost_ret (v := .int .i64 1) (by simp [results, Tryz.results27, go_sem]) rfl ⟨by rw [HR1.out]; rfl, below_nxt HB.out HB4.out⟩)
    · obtain rfl : i = l.length := by omega
      have HRE := HEND.out (F l.length) (fun p hp => by
        obtain ⟨j, hj, rfl⟩ := List.getElem_of_mem hp
        have := HJ.out j hj
        rw [List.getD_eq_getElem?_getD, List.getElem?_eq_getElem hj] at this
        exact this) FE.out
      clear HEND CA CO FS FE HONE HJ HC
      go_wp2
      exact bodyPost_ret (v := .int .i64 (F l.length)) (by simp [results, Tryz.results27, go_sem]) rfl ⟨by rw [HRE], HB.out⟩
end Go.Proofs.YtekeedccgnbkkaaGreatDoor
