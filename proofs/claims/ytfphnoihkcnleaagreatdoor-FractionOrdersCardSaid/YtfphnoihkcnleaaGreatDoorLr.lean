/- The contract of right of the statements about fractions: all texts are fractions, and short. -/
import Derived.Test.YtfphnoihkcnleaaGreatDoorRk
import Derived.Test.YtfphnoihkcnleaaGreatDoorLa
import Derived.Test.YtfphnoihkcnleaaGreatDoorTx
namespace Go.Proofs.YtfphnoihkcnleaaGreatDoor
open Go.RowKit

def okF (s : ByteArray) : Bool := decide (s.size ≤ 10) && decide (Fr.chk s.data.toList = 0)
/-- A slice value reads as a list of texts. -/
def SeesT (w : World) (v : Value) (l : List ByteArray) : Prop :=
  ∃ b off cap, v = .slice (some ⟨b, off, none⟩) l.length cap ∧ b < w.heap.size ∧ ∀ i, (h : i < l.length) → w.cell? ⟨b, off + i, none⟩ = some (.string (l[i]'h))

theorem closure_any (s : ByteArray) (w : World) (hs : s.size ≤ 9223372036854775807) :
    Calls Tryz.prog 82 #[.string s] w fun e w' => e = .returned (.bool (!okF s)) ∧ Below w.heap.size w w' := by
  have CS := Lib.hid (rShort_any s w hs)
  unfold okF
  by_cases h : s.size ≤ 10
  · rw [decide_eq_true h] at CS ⊢
    have CC := Lib.hid (rCheck_any s w (by omega))
    by_cases hc : Fr.chk s.data.toList = 0
    · rw [decide_eq_true hc]
      rw [hc] at CC
      clear hc h
      go_enter Tryz.func82, Tryz.ntmps82
      go_wp2_with (first
        | (go_at_call 83; refine (CS.out).mono ?_; rintro e w' ⟨rfl, rfl⟩)
        | (go_at_call 20; refine (CC.out).mono ?_; rintro e w1 ⟨rfl, hb1⟩))
      go_ret
      exact ⟨rfl, hb1⟩
    · rw [decide_eq_false hc]
      have hne : (Fr.chk s.data.toList != 0) = true := by simpa using hc
      clear hc h
      generalize Fr.chk s.data.toList = c at *
      go_enter Tryz.func82, Tryz.ntmps82
      go_wp2_with (first
        | (go_at_call 83; refine (CS.out).mono ?_; rintro e w' ⟨rfl, rfl⟩)
        | (go_at_call 20; refine (CC.out).mono ?_; rintro e w1 ⟨rfl, hb1⟩))
      go_ret
      exact ⟨rfl, hb1⟩
  · rw [decide_eq_false h] at CS ⊢
    clear h
    go_enter Tryz.func82, Tryz.ntmps82
    go_wp2_with (go_at_call 83; refine (CS.out).mono ?_; rintro e w' ⟨rfl, rfl⟩)
    go_ret
    exact ⟨rfl, Below.refl _ _⟩
theorem closure_lit {s : ByteArray} {b : Bool} (hb : okF s = b) (w : World) (hs : s.size ≤ 9223372036854775807) :
    Calls Tryz.prog 82 #[.string s] w fun e w' => e = .returned (.bool (!b)) ∧ Below w.heap.size w w' := by
  rw [← hb]; exact closure_any s w hs

def IdxPost (w : World) (b : Bool) (e : Ending) (w' : World) : Prop := ∃ r : Int, e = .returned (.int .i64 r) ∧ ((b = true ∧ 0 ≤ r) ∨ (b = false ∧ r = -1)) ∧ Below w.heap.size w w'

theorem index_any (v : Value) (l : List ByteArray) (w : World) (h : SeesT w v l) (hl : l.length ≤ 100) (hz : ∀ i, (h : i < l.length) → (l[i]'h).size ≤ 9223372036854775807) :
    Calls Tryz.prog 106 #[v, .func (.func 82) #[] #[]] w (IdxPost w (!l.all okF)) := by
  obtain ⟨b, off, cap, rfl, hb, hc⟩ := h
  obtain ⟨B, hB⟩ : ∃ B, (!l.all okF) = B := ⟨_, rfl⟩
  rw [hB]
  have HB := Lib.hid hB
  have HC := Lib.hid hc
  have HZ := Lib.hid hz
  clear hB hc hz
  go_enter Tryz.func106, Tryz.ntmps106
  go_wp2
  go_loopw [8] (fun u8 wr => ∃ j : Nat, j ≤ l.length ∧ u8 = .int .i64 j ∧ Below w.heap.size w wr ∧ Hid ((l.take j).all okF = true)) (fun u8 _ => l.length - (intOf u8).toNat)
  case atStart => exact ⟨0, Nat.zero_le _, rfl, Below.refl _ _, rfl⟩
  case round =>
    obtain ⟨j, hj, rfl, hbel, HJ⟩ := hrel
    by_cases hlt : j < l.length
    · have hcell : wr.cell? ⟨b, off + j, none⟩ = some (.string (l[j]'hlt)) := (hbel.cell (p := ⟨b, off + j, none⟩) hb).trans (HC.out j hlt)
      obtain ⟨s, hs⟩ : ∃ s, l[j]'hlt = s := ⟨_, rfl⟩
      have hsz := HZ.out j hlt
      rw [hs] at hcell hsz
      cases hok : okF s with
      | true =>
        have CL := Lib.hid (closure_lit hok wr hsz)
        have HS : Hid ((l.take (j + 1)).all okF = true) := by
          unfold Hid
          rw [List.take_succ_eq_append_getElem hlt, List.all_append, HJ.out, hs]
          simp [hok]
        clear hs hok
        go_wp2_with (go_at_call 82; refine (CL.out).mono ?_; rintro e w1 ⟨rfl, hb1⟩)
        go_roundw
        case rel => exact ⟨j + 1, by omega, by go_num, hbel.trans (hb1.mono hbel.size), HS⟩
        case measure => simp [intOf]; omega
      | false =>
        have CL := Lib.hid (closure_lit hok wr hsz)
        have HF := Lib.hid (show B = true by
          rw [← HB.out]
          have : l.all okF = false := by
            rw [List.all_eq_false]
            exact ⟨s, by rw [← hs]; exact List.getElem_mem hlt, by rw [hok]; simp⟩
          rw [this]; rfl)
        clear hs hok
        go_wp2_with (go_at_call 82; refine (CL.out).mono ?_; rintro e w1 ⟨rfl, hb1⟩)
        go_ret
        exact ⟨_, rfl, .inl ⟨HF.out, by omega⟩, hbel.trans (hb1.mono hbel.size)⟩
    · have HF := Lib.hid (show B = false by
        rw [← HB.out]
        have h := HJ.out
        rw [List.take_of_length_le (by omega)] at h
        rw [h]; rfl)
      go_wp2
      go_ret
      exact ⟨_, rfl, .inr ⟨HF.out, rfl⟩, hbel⟩

theorem contains_any (v : Value) (l : List ByteArray) (w : World) (h : SeesT w v l) (hl : l.length ≤ 100) (hz : ∀ i, (h : i < l.length) → (l[i]'h).size ≤ 9223372036854775807) :
    Calls Tryz.prog 81 #[v, .func (.func 82) #[] #[]] w fun e w' => e = .returned (.bool (!l.all okF)) ∧ Below w.heap.size w w' := by
  have CI := Lib.hid (index_any v l w h hl hz)
  obtain ⟨b, off, cap, rfl, _, _⟩ := h
  clear hz
  cases hB : (!l.all okF) with
  | true =>
    rw [hB] at CI
    clear hB
    go_enter Tryz.func81, Tryz.ntmps81
    go_wp2_with fail
    refine (CI.out).mono ?_
    rintro e w1 ⟨r, rfl, hr, hb1⟩
    have hr0 : 0 ≤ r := by
      rcases hr with hr | hr
      · exact hr.2
      · cases hr.1
    clear hr
    go_wp2
    go_ret
    exact ⟨by simp, hb1⟩
  | false =>
    rw [hB] at CI
    clear hB
    go_enter Tryz.func81, Tryz.ntmps81
    go_wp2_with fail
    refine (CI.out).mono ?_
    rintro e w1 ⟨r, rfl, hr, hb1⟩
    have hr0 : r = -1 := by
      rcases hr with hr | hr
      · cases hr.1
      · exact hr.2
    subst hr0
    clear hr
    go_wp2
    go_ret
    exact ⟨rfl, hb1⟩

theorem right_any (v : Value) (l : List ByteArray) (w : World) (h : SeesT w v l) (hl : l.length ≤ 100) (hz : ∀ i, (h : i < l.length) → (l[i]'h).size ≤ 9223372036854775807) :
    Calls Tryz.prog 44 #[v] w fun e w' => e = .returned (.bool (l.all okF)) ∧ Below w.heap.size w w' := by
  have CI := Lib.hid (contains_any v l w h hl hz)
  obtain ⟨b, off, cap, rfl, _, _⟩ := h
  clear hz
  cases hB : l.all okF with
  | true =>
    rw [hB] at CI
    clear hB
    go_enter Tryz.func44, Tryz.ntmps44
    go_wp2_with fail
    refine (CI.out).mono ?_
    rintro e w1 ⟨rfl, hb1⟩
    go_wp2
    go_ret
    exact ⟨rfl, hb1⟩
  | false =>
    rw [hB] at CI
    clear hB
    go_enter Tryz.func44, Tryz.ntmps44
    go_wp2_with fail
    refine (CI.out).mono ?_
    rintro e w1 ⟨rfl, hb1⟩
    go_wp2
    go_ret
    exact ⟨rfl, hb1⟩

end Go.Proofs.YtfphnoihkcnleaaGreatDoor
