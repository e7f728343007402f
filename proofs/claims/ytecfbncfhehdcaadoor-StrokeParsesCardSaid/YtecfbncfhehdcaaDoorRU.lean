/- What is written is read back, and what is read is written again: plain facts. -/
import Derived.Test.YtecfbncfhehdcaaDoorRT
import Derived.Test.YtecfbncfhehdcaaDoorRM
namespace Sk
open Go
theorem rdS_strT {k : Nat} {o : Bool} (hk : k < 6) : rdS (strT ((k : Int), o)) = some ((k : Int), o) := by
  rcases (show k = 0 ∨ k = 1 ∨ k = 2 ∨ k = 3 ∨ k = 4 ∨ k = 5 by omega) with rfl | rfl | rfl | rfl | rfl | rfl <;> cases o <;> decide
theorem strT_rdS {p : List UInt8} {y : Str} (h : rdS p = some y) : strT y = p := by
  unfold rdS at h
  split at h
  · rename_i a b
    split at h
    · rename_i hab
      obtain ⟨h1, h2, h3⟩ := hab
      cases h
      unfold strT
      have e : ((a.toNat : Int) - 65).toNat = a.toNat - 65 := by omega
      simp only [e]
      have e2 : (65 + (a.toNat - 65)).toUInt8 = a := by
        rw [show 65 + (a.toNat - 65) = a.toNat by omega]; simp
      rw [e2]
      rcases h3 with rfl | rfl <;> rfl
    · cases h
  · cases h
theorem rdS_dig {p : List UInt8} (h : p.all Fr.isDig = true) : rdS p = none := by
  unfold rdS
  split
  · rename_i a b
    have ha : Fr.isDig a = true := by simp at h; exact h.1
    unfold Fr.isDig at ha
    rw [Bool.and_eq_true, decide_eq_true_iff, decide_eq_true_iff] at ha
    rw [if_neg]
    rintro ⟨h1, h2, _⟩
    have h3 := ha.2
    omega
  · rfl
theorem wtV_render {n : Nat} (h0 : n ≠ 0) (h : n ≤ 1000000) : wtV (Fr.render n) = ((n : Int), true) := by
  unfold wtV
  rw [Tm.numOk_render h, Fr.dv_render, Bool.true_and, if_pos (by simpa using h0)]
theorem render_wtV {p : List UInt8} (h : (wtV p).2 = true) : Fr.render (wtV p).1.toNat = p ∧ (wtV p).1 ≠ 0 ∧ p.all Fr.isDig = true := by
  unfold wtV at h ⊢
  by_cases hc : (Tm.numOk p && decide (Fr.dv p ≠ 0)) = true
  · rw [if_pos hc]
    rw [Bool.and_eq_true, decide_eq_true_iff] at hc
    exact ⟨by simpa using Tm.numOk_back hc.1, by simpa using hc.2, (Tm.numOk_all hc.1).1⟩
  · rw [if_neg hc] at h; cases h
/-- The parts of a step. -/
def wrd (x : Stp) : List (List UInt8) := x.1.map strT ++ (if x.2 = 0 then [] else [Fr.render x.2.toNat])
theorem stpT_join {x : Stp} (h : x.1.length ≠ 0) : stpT x = Lib.join (wrd x) [32] := by
  unfold stpT wrd lnT
  by_cases h0 : x.2 = 0
  · rw [if_pos h0, if_pos h0, List.append_nil, List.append_nil]
  · rw [if_neg h0, if_neg h0, join_snoc, if_neg (by simpa using h), List.append_assoc]; rfl
/-- readStep over the texts of the parts. -/
def runL : List (List UInt8) → List Str × Int → Option (List Str × Int)
  | [], st => some st
  | p :: r, st => (stp1 st p).bind (runL r)
theorem runP_map : ∀ (ps : List (Int × List UInt8)) (st : List Str × Int), runP ps st = runL (ps.map (·.2)) st
  | [], _ => rfl
  | p :: r, st => by
    rw [runP, List.map_cons, runL]
    congr 1
    funext s
    exact runP_map r s
theorem runL_strs : ∀ (l : List Str) (L : List Str) (r : List (List UInt8)), (∀ y ∈ l, 0 ≤ y.1 ∧ y.1 < 6) → runL (l.map strT ++ r) (L, 0) = runL r (L ++ l, 0)
  | [], L, r, _ => by simp
  | y :: l, L, r, h => by
    obtain ⟨h1, h2⟩ := h y (by simp)
    obtain ⟨a, o⟩ := y
    obtain ⟨k, rfl⟩ := Int.eq_ofNat_of_zero_le h1
    have hs : stp1 (L, 0) (strT ((k : Int), o)) = some (L ++ [((k : Int), o)], 0) := stp1_str (rdS_strT (by simp only at h2; omega))
    rw [List.map_cons, List.cons_append, runL, hs, Option.bind_some, runL_strs l _ r (fun z hz => h z (by simp [hz])), List.append_assoc]; rfl
theorem runL_back : ∀ (ps : List (List UInt8)) (L M : List Str) (m : Int), runL ps (L, 0) = some (M, m) → ∃ l, M = L ++ l ∧ ps = l.map strT ++ (if m = 0 then [] else [Fr.render m.toNat])
  | [], L, M, m, h => by
    rw [runL] at h
    cases h
    exact ⟨[], by simp, rfl⟩
  | p :: r, L, M, m, h => by
    rw [runL] at h
    cases hr : rdS p with
    | some y =>
      rw [stp1_str hr, Option.bind_some] at h
      obtain ⟨l, h1, h2⟩ := runL_back r _ M m h
      exact ⟨y :: l, by rw [h1, List.append_assoc]; rfl, by rw [h2, List.map_cons, strT_rdS hr]; rfl⟩
    | none =>
      by_cases hw : (wtV p).2 = true ∧ L.length ≠ 0
      · rw [stp1_num hr hw.1 hw.2, Option.bind_some] at h
        obtain ⟨g1, g2, g3⟩ := render_wtV hw.1
        cases r with
        | nil =>
          rw [runL] at h
          cases h
          exact ⟨[], by simp, by rw [if_neg g2, g1]; rfl⟩
        | cons q r =>
          rw [runL, stp1_wait g2] at h
          cases h
      · have hno : stp1 (L, 0) p = none := stp1_no hr (by
          by_cases h1 : (wtV p).2 = true
          · exact .inr (Decidable.byContradiction (fun h2 => hw ⟨h1, h2⟩))
          · exact .inl (by simpa using h1))
        rw [hno] at h
        cases h
theorem no_strT {c : UInt8} (hc : c = 32 ∨ c = 59) {y : Str} (h : 0 ≤ y.1 ∧ y.1 < 6) : c ∉ strT y := by
  obtain ⟨a, o⟩ := y
  obtain ⟨k, rfl⟩ := Int.eq_ofNat_of_zero_le h.1
  have hk : k < 6 := by have := h.2; simp only at this; omega
  rcases hc with rfl | rfl <;> rcases (show k = 0 ∨ k = 1 ∨ k = 2 ∨ k = 3 ∨ k = 4 ∨ k = 5 by omega) with rfl | rfl | rfl | rfl | rfl | rfl <;> cases o <;> decide
theorem no_dig {c : UInt8} (hc : c = 32 ∨ c = 59) {p : List UInt8} (h : p.all Fr.isDig = true) : c ∉ p := by
  intro hm
  have := List.all_eq_true.1 h c hm
  rcases hc with rfl | rfl <;> revert this <;> decide
theorem act_mem {l : List Str} (h : RtL l) : ∀ y ∈ l, 0 ≤ y.1 ∧ y.1 < 6 := by
  intro y hy
  obtain ⟨i, hi, rfl⟩ := List.mem_iff_getElem.1 hy
  have := h.act i hi
  rw [List.getD_eq_getElem?_getD, List.getElem?_eq_getElem hi] at this
  exact this
theorem no_wrd {c : UInt8} (hc : c = 32 ∨ c = 59) {x : Stp} (h : RtL x.1) : ∀ p ∈ wrd x, c ∉ p := by
  intro p hp
  unfold wrd at hp
  rcases List.mem_append.1 hp with hp | hp
  · obtain ⟨y, hy, rfl⟩ := List.mem_map.1 hp
    exact no_strT hc (act_mem h y hy)
  · by_cases h0 : x.2 = 0
    · rw [if_pos h0] at hp; simp at hp
    · rw [if_neg h0] at hp
      simp at hp
      subst hp
      exact no_dig hc (Fr.render_all _)
/-- The text of a right step is read back. -/
theorem rdP_stpT {x : Stp} (hc : chkP x.1 x.2 = 0) : rdP (stpT x) = some x := by
  obtain ⟨hR, h0, h1⟩ := chkP_ok hc
  have hne : x.1.length ≠ 0 := by have := hR.pos; omega
  unfold rdP prts
  rw [runP_map]
  have hw : wrd x ≠ [] := by
    unfold wrd
    intro h
    have := (List.append_eq_nil_iff.1 h).1
    simp at this
    exact hne (by rw [this]; rfl)
  obtain ⟨p, r, hpr⟩ := List.exists_cons_of_ne_nil hw
  have hj := stpT_join hne
  rw [hpr] at hj
  have hcut : (prt (stpT x) [32] ((stpT x).length + 1) 0).map (·.2) = p :: r := prt_join (stpT x) r p _ 0 (by rw [← hpr]; exact no_wrd (.inl rfl) hR) (by rw [List.drop_zero]; exact hj) (by
    rw [hj, Lib.join_cons, List.length_append]
    have : r.length ≤ (Lib.joinTail [32] r).length := by
      clear hj hpr
      induction r with
      | nil => simp
      | cons y r ih =>
        have e : Lib.joinTail [32] (y :: r) = [32] ++ (y ++ Lib.joinTail [32] r) := by simp [Lib.joinTail]
        rw [e]; simp; omega
    omega)
  rw [hcut, ← hpr]
  unfold wrd
  rw [runL_strs x.1 [] _ (act_mem hR), List.nil_append]
  obtain ⟨l, n⟩ := x
  simp only at *
  by_cases hn : n = 0
  · subst hn; rw [if_pos rfl]; rfl
  · rw [if_neg hn]
    obtain ⟨m, rfl⟩ := Int.eq_ofNat_of_zero_le h0
    have hm : wtV (Fr.render m) = ((m : Int), true) := wtV_render (by omega) (by omega)
    have hs : stp1 (l, 0) (Fr.render m) = some (l, (m : Int)) := by
      rw [stp1_num (rdS_dig (Fr.render_all m)) (by rw [hm]) hne, hm]
    rw [show ((m : Int).toNat) = m from Int.toNat_natCast m, runL, hs]; rfl
/-- What was read as a right step is its text. -/
theorem stpT_rdP {p : List UInt8} {x : Stp} (h : rdP p = some x) (hc : chkP x.1 x.2 = 0) : stpT x = p := by
  obtain ⟨hR, h0, h1⟩ := chkP_ok hc
  have hne : x.1.length ≠ 0 := by have := hR.pos; omega
  unfold rdP at h
  rw [runP_map] at h
  obtain ⟨l, n⟩ := x
  obtain ⟨l', e1, e2⟩ := runL_back _ [] l n h
  rw [List.nil_append] at e1
  subst e1
  rw [stpT_join hne]
  have hj := join_prts p [32] (by decide)
  rw [e2] at hj
  exact hj
end Sk

