/- Going through a graph level by level: plain facts. -/
import Derived.Test.YtkjhockppkdakaaDh
namespace Dg
section
variable (n : Nat) (es : List (Nat × Nat)) (s : Nat)
/-- What is known of a vertex when the levels below d are done. -/
def aw (d : Nat) (v : Nat) : Int := if 0 ≤ dist n es s v ∧ dist n es s v < d then dist n es s v else -1
def awL (d : Nat) : List Int := (List.range n).map (aw n es s d)
/-- .. and the first j vertices of the front. -/
def mid (d : Nat) (F : List Int) (j v : Nat) : Int := if dist n es s v = d ∧ (v : Int) ∈ F.take j then d else aw n es s d v
def midL (d : Nat) (F : List Int) (j : Nat) : List Int := (List.range n).map (mid n es s d F j)
/-- What comes behind the first j vertices of the front. -/
def fut (d : Nat) (F : List Int) : Nat → List Int
  | 0 => []
  | j + 1 => if dist n es s (F.getD j 0).toNat = d ∧ F.getD j 0 ∉ F.take j then fut d F j ++ nb es (F.getD j 0).toNat else fut d F j
def distL : List Int := (List.range n).map (dist n es s)
/-- A front of level d. -/
def Frt (d : Nat) (F : List Int) : Prop := (∀ x ∈ F, ∃ u : Nat, x = u ∧ u < n ∧ 0 ≤ dist n es s u ∧ dist n es s u ≤ d) ∧ ∀ u : Nat, u < n → dist n es s u = d → (u : Int) ∈ F
end
section
variable {n : Nat} {es : List (Nat × Nat)} {s : Nat}
theorem midL_len (d : Nat) (F : List Int) (j : Nat) : (midL n es s d F j).length = n := by simp [midL]
theorem midL_at {d : Nat} {F : List Int} {j v : Nat} (hv : v < n) : (midL n es s d F j).getD v 0 = mid n es s d F j v := by
  unfold midL
  rw [List.getD_eq_getElem?_getD, List.getElem?_map, List.getElem?_range hv]; rfl
theorem distL_len : (distL n es s).length = n := by simp [distL]
theorem distL_at {v : Nat} (hv : v < n) : (distL n es s).getD v 0 = dist n es s v := by
  unfold distL
  rw [List.getD_eq_getElem?_getD, List.getElem?_map, List.getElem?_range hv]; rfl
theorem aw_zero (v : Nat) : aw n es s 0 v = -1 := by
  unfold aw; rw [if_neg (by omega)]
theorem midL_zero (d : Nat) (F : List Int) : midL n es s d F 0 = awL n es s d := by
  unfold midL awL
  refine List.map_congr_left fun v _ => ?_
  unfold mid; rw [if_neg (by simp)]
theorem awL_zero : awL n es s 0 = List.replicate n (-1) := by
  refine ext_getD 0 (by simp [awL]) fun i hi => ?_
  have hi' : i < n := by simpa [awL] using hi
  unfold awL
  rw [List.getD_eq_getElem?_getD, List.getElem?_map, List.getElem?_range hi', Option.map_some, Option.getD_some, aw_zero]
  simp [List.getD_eq_getElem?_getD, hi']
/-- Is a vertex new? -/
theorem mid_new {d : Nat} {F : List Int} (hF : Frt n es s d F) {j : Nat} {u : Nat} (hu : (u : Int) ∈ F) : mid n es s d F j u = -1 ↔ dist n es s u = d ∧ (u : Int) ∉ F.take j := by
  obtain ⟨u', hu', h1, h2, h3⟩ := hF.1 u hu
  obtain rfl : u = u' := Int.ofNat_inj.1 hu'
  unfold mid aw
  by_cases h : dist n es s u = d
  · by_cases hm : (u : Int) ∈ F.take j
    · rw [if_pos ⟨h, hm⟩]; simp [hm]
    · rw [if_neg (by simp [hm]), if_neg (by omega)]; simp [h, hm]
  · rw [if_neg (by simp [h]), if_pos (by omega)]
    simp [h]; omega
theorem midL_set {d : Nat} {F : List Int} {j u : Nat} (hj : j < F.length) (hu : F.getD j 0 = u) (hun : u < n) (hd : dist n es s u = d) : midL n es s d F (j + 1) = (midL n es s d F j).set u (d : Int) := by
  refine ext_getD 0 (by simp [midL_len]) fun i hi => ?_
  rw [midL_len] at hi
  rw [set_getD _ _ _ _ _ (by rw [midL_len]; exact hun), midL_at hi, midL_at hi]
  unfold mid
  rw [take_at 0 hj, hu]
  by_cases h : i = u
  · subst h; rw [if_pos ⟨hd, by simp⟩, if_pos rfl]
  · rw [if_neg h]
    have : ((i : Int) ∈ F.take j ++ [(u : Int)]) ↔ (i : Int) ∈ F.take j := by simp; omega
    simp only [this]
theorem midL_same {d : Nat} {F : List Int} {j u : Nat} (hj : j < F.length) (hu : F.getD j 0 = u) (h : ¬ (dist n es s u = d ∧ (u : Int) ∉ F.take j)) : midL n es s d F (j + 1) = midL n es s d F j := by
  refine ext_getD 0 (by simp [midL_len]) fun i hi => ?_
  rw [midL_len] at hi
  rw [midL_at hi, midL_at hi]
  unfold mid
  rw [take_at 0 hj, hu]
  have : (dist n es s i = d ∧ (i : Int) ∈ F.take j ++ [(u : Int)]) ↔ (dist n es s i = d ∧ (i : Int) ∈ F.take j) := by
    constructor
    · rintro ⟨h1, h2⟩
      refine ⟨h1, ?_⟩
      rcases List.mem_append.1 h2 with h2 | h2
      · exact h2
      · have e : (i : Int) = u := by simpa using h2
        obtain rfl : i = u := Int.ofNat_inj.1 e
        exact Classical.byContradiction fun h3 => h ⟨h1, h3⟩
    · rintro ⟨h1, h2⟩; exact ⟨h1, List.mem_append_left _ h2⟩
  simp only [this]
theorem fut_on {d : Nat} {F : List Int} {j u : Nat} (hu : F.getD j 0 = u) (h : dist n es s u = d ∧ (u : Int) ∉ F.take j) : fut n es s d F (j + 1) = fut n es s d F j ++ nb es u := by
  have e : fut n es s d F (j + 1) = if dist n es s (F.getD j 0).toNat = d ∧ F.getD j 0 ∉ F.take j then fut n es s d F j ++ nb es (F.getD j 0).toNat else fut n es s d F j := rfl
  rw [e, hu, Int.toNat_natCast, if_pos h]
theorem fut_off {d : Nat} {F : List Int} {j u : Nat} (hu : F.getD j 0 = u) (h : ¬ (dist n es s u = d ∧ (u : Int) ∉ F.take j)) : fut n es s d F (j + 1) = fut n es s d F j := by
  have e : fut n es s d F (j + 1) = if dist n es s (F.getD j 0).toNat = d ∧ F.getD j 0 ∉ F.take j then fut n es s d F j ++ nb es (F.getD j 0).toNat else fut n es s d F j := rfl
  rw [e, hu, Int.toNat_natCast, if_neg h]
/-- The marks so far. -/
def mk (n : Nat) (es : List (Nat × Nat)) (s d : Nat) (F : List Int) (j v : Nat) : Bool := decide (dist n es s v = d ∧ (v : Int) ∈ F.take j)
theorem fut_len {d : Nat} {F : List Int} (hF : Frt n es s d F) : ∀ {j : Nat}, j ≤ F.length → (fut n es s d F j).length ≤ es.length * cnt (mk n es s d F j) n
  | 0, _ => by simp [fut]
  | j + 1, hj => by
    have ih := fut_len hF (j := j) (by omega)
    have hm : ∀ v, v < n → mk n es s d F j v = true → mk n es s d F (j + 1) v = true := fun v _ h => by
      unfold mk at *
      rw [decide_eq_true_iff] at *
      rw [take_at 0 (by omega)]
      exact ⟨h.1, List.mem_append_left _ h.2⟩
    obtain ⟨u, hu, hun, _⟩ := hF.1 _ (getD_mem (d := 0) (show j < F.length by omega))
    by_cases h : dist n es s u = d ∧ (u : Int) ∉ F.take j
    · rw [fut_on hu h, List.length_append, nb_len]
      have h1 := adj_len es u
      have h2 : cnt (mk n es s d F j) n < cnt (mk n es s d F (j + 1)) n := cnt_lt hm hun (by unfold mk; simp [h.2]) (by unfold mk; rw [take_at 0 (by omega), hu]; simp [h.1])
      have h3 : es.length * (cnt (mk n es s d F j) n + 1) ≤ es.length * cnt (mk n es s d F (j + 1)) n := Nat.mul_le_mul (Nat.le_refl _) h2
      rw [Nat.mul_succ] at h3
      omega
    · rw [fut_off hu h]
      exact Nat.le_trans ih (Nat.mul_le_mul (Nat.le_refl _) (cnt_le hm))
theorem fut_small {d : Nat} {F : List Int} (hF : Frt n es s d F) (hn : n ≤ 16) (he : es.length ≤ 64) {j : Nat} (hj : j ≤ F.length) : (fut n es s d F j).length ≤ 1024 := by
  refine Nat.le_trans (fut_len hF hj) ?_
  have := cnt_le_n (mk n es s d F j) n
  exact Nat.mul_le_mul he (show _ ≤ 16 by omega)
theorem fut_mem {d : Nat} {F : List Int} (hF : Frt n es s d F) {x : Int} : ∀ {j : Nat}, j ≤ F.length → (x ∈ fut n es s d F j ↔ ∃ u : Nat, dist n es s u = d ∧ (u : Int) ∈ F.take j ∧ x ∈ nb es u)
  | 0, _ => by simp [fut]
  | j + 1, hj => by
    have ih := fut_mem hF (x := x) (j := j) (by omega)
    obtain ⟨u, hu, hun, _⟩ := hF.1 _ (getD_mem (d := 0) (show j < F.length by omega))
    rw [take_at 0 (show j < F.length by omega), hu]
    by_cases h : dist n es s u = d ∧ (u : Int) ∉ F.take j
    · rw [fut_on hu h, List.mem_append, ih]
      constructor
      · rintro (⟨v, h1, h2, h3⟩ | h3)
        · exact ⟨v, h1, List.mem_append_left _ h2, h3⟩
        · exact ⟨u, h.1, by simp, h3⟩
      · rintro ⟨v, h1, h2, h3⟩
        rcases List.mem_append.1 h2 with h2 | h2
        · exact .inl ⟨v, h1, h2, h3⟩
        · have e : (v : Int) = u := by simpa using h2
          obtain rfl : v = u := Int.ofNat_inj.1 e
          exact .inr h3
    · rw [fut_off hu h, ih]
      constructor
      · rintro ⟨v, h1, h2, h3⟩; exact ⟨v, h1, List.mem_append_left _ h2, h3⟩
      · rintro ⟨v, h1, h2, h3⟩
        rcases List.mem_append.1 h2 with h2 | h2
        · exact ⟨v, h1, h2, h3⟩
        · have e : (v : Int) = u := by simpa using h2
          obtain rfl : v = u := Int.ofNat_inj.1 e
          exact ⟨v, h1, Classical.byContradiction fun h4 => h ⟨h1, h4⟩, h3⟩
end
section
variable {n : Nat} {es : List (Nat × Nat)} {s : Nat} (hE : Ok n es) (hs : s < n)
include hE hs
omit hE hs in
theorem midL_all {d : Nat} {F : List Int} (hF : Frt n es s d F) : midL n es s d F F.length = awL n es s (d + 1) := by
  unfold midL awL
  refine List.map_congr_left fun v hv => ?_
  have hv' := List.mem_range.1 hv
  unfold mid aw
  rw [List.take_length]
  have hg := dist_ge (n := n) (E := es) (s := s) (v := v)
  by_cases h : dist n es s v = d
  · rw [if_pos ⟨h, hF.2 v hv' h⟩, if_pos (by omega), h]
  · rw [if_neg (by simp [h])]
    by_cases h2 : 0 ≤ dist n es s v ∧ dist n es s v < d
    · rw [if_pos h2, if_pos (by omega)]
    · rw [if_neg h2, if_neg (by omega)]
theorem frt_zero : Frt n es s 0 [(s : Int)] := by
  refine ⟨fun x hx => ?_, fun u _ hu => ?_⟩
  · have : x = s := by simpa using hx
    exact ⟨s, this, hs, by rw [dist_self hE hs]; omega, by rw [dist_self hE hs]; omega⟩
  · rw [(dist_zero hE hs).1 hu]; simp
theorem frt_next {d : Nat} {F : List Int} (hF : Frt n es s d F) : Frt n es s (d + 1) (fut n es s d F F.length) := by
  refine ⟨fun x hx => ?_, fun u hu hd => ?_⟩
  · obtain ⟨v, h1, _, h3⟩ := (fut_mem hF (Nat.le_refl _)).1 hx
    obtain ⟨u, rfl, h4⟩ := nb_mem.1 h3
    have h5 := dist_edge hE hs h4 (by omega)
    exact ⟨u, rfl, (hE _ h4).2, h5.1, by omega⟩
  · obtain ⟨v, h1, h2⟩ := dist_pred hE hs (v := u) (k := d) (by omega)
    refine (fut_mem hF (Nat.le_refl _)).2 ⟨v, h2, ?_, nb_mem.2 ⟨u, rfl, h1⟩⟩
    rw [List.take_length]
    exact hF.2 v (hE _ h1).1 h2
theorem fut_end {d : Nat} {F : List Int} (hF : Frt n es s d F) (h : fut n es s d F F.length = []) : awL n es s (d + 1) = distL n es s := by
  have hno : ∀ u, u < n → dist n es s u ≠ (d + 1 : Nat) := fun u hu hd => by
    have := (frt_next hE hs hF).2 u hu hd
    rw [h] at this; cases this
  have hno2 : ∀ (k : Nat) (u : Nat), u < n → dist n es s u ≠ (d + 1 + k : Nat) := by
    intro k
    induction k with
    | zero => exact hno
    | succ k ih =>
      intro u hu hd
      obtain ⟨v, h1, h2⟩ := dist_pred hE hs (v := u) (k := d + 1 + k) (by omega)
      exact ih v (hE _ h1).1 h2
  unfold awL distL
  refine List.map_congr_left fun v hv => ?_
  have hv' := List.mem_range.1 hv
  have hg := dist_ge (n := n) (E := es) (s := s) (v := v)
  unfold aw
  by_cases h2 : 0 ≤ dist n es s v ∧ dist n es s v < (d + 1 : Nat)
  · rw [if_pos h2]
  · rw [if_neg h2]
    by_cases h3 : dist n es s v = -1
    · rw [h3]
    · exact absurd (show dist n es s v = (d + 1 + (dist n es s v - (d + 1)).toNat : Nat) by omega) (hno2 _ v hv')
omit hE in
theorem fut_more {d : Nat} {F : List Int} (hF : Frt n es s d F) (h : fut n es s d F F.length ≠ []) : d < n := by
  obtain ⟨x, hx⟩ := List.exists_mem_of_ne_nil _ h
  obtain ⟨v, h1, _⟩ := (fut_mem hF (Nat.le_refl _)).1 hx
  have := dist_lt (n := n) (E := es) (s := s) hs (v := v)
  omega
end
end Dg
