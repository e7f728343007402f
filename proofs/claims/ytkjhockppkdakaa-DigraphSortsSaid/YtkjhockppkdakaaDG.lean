/- Walks that end at a vertex; an order of all vertices, or a vertex on a cycle. Plain facts. -/
import Derived.Test.YtkjhockppkdakaaDE
namespace Dg
/-- Does a walk of so many edges end at a vertex? -/
def wk (E : List (Nat × Nat)) : Nat → Nat → Bool
  | 0, _ => true
  | k + 1, v => E.any fun e => e.2 == v && wk E k e.1
theorem wk_succ {E : List (Nat × Nat)} {k v : Nat} : wk E (k + 1) v = true ↔ ∃ u, (u, v) ∈ E ∧ wk E k u = true := by
  rw [wk, List.any_eq_true]
  constructor
  · rintro ⟨⟨a, b⟩, he, h⟩
    simp only [Bool.and_eq_true, beq_iff_eq] at h
    obtain ⟨rfl, h⟩ := h
    exact ⟨a, he, h⟩
  · rintro ⟨u, he, h⟩
    exact ⟨(u, v), he, by simp [h]⟩
/-- The longest walks. -/
def Top (n : Nat) (es : List (Nat × Nat)) (L : List Int) : Prop := L.length = n ∧ ∀ x, x < n → ∃ k : Nat, L.getD x 0 = k ∧ wk es k x = true ∧ ∀ m, wk es m x = true → m ≤ k
theorem top_eq {n : Nat} {es : List (Nat × Nat)} {L L' : List Int} (h : Top n es L) (h' : Top n es L') : L = L' := ext_getD 0 (h.1.trans h'.1.symm) fun i hi => by
  obtain ⟨k, e, h1, h2⟩ := h.2 i (h.1 ▸ hi)
  obtain ⟨k', e', h1', h2'⟩ := h'.2 i (h.1 ▸ hi)
  have := h2 _ h1'
  have := h2' _ h1
  rw [e, e']; omega
/-- The longest walks whose last edge is one of some. -/
def Prt (n : Nat) (es : List (Nat × Nat)) (S : Nat → Nat → Prop) (L : List Int) : Prop := L.length = n ∧ ∀ x, x < n → ∃ k : Nat, L.getD x 0 = k ∧ wk es k x = true ∧ ∀ u m, S u x → wk es m u = true → m + 1 ≤ k
section
variable {n : Nat} {es : List (Nat × Nat)} {S S' : Nat → Nat → Prop} {L : List Int}
theorem Prt.top (h : Prt n es S L) (hS : ∀ u x, (u, x) ∈ es → S u x) : Top n es L := ⟨h.1, fun x hx => by
  obtain ⟨k, e, h1, h2⟩ := h.2 x hx
  refine ⟨k, e, h1, fun m hm => ?_⟩
  cases m with
  | zero => omega
  | succ m =>
    obtain ⟨u, he, hu⟩ := wk_succ.1 hm
    exact h2 u m (hS u x he) hu⟩
theorem Prt.zero (n : Nat) (es : List (Nat × Nat)) : Prt n es (fun _ _ => False) (List.replicate n 0) := ⟨by simp, fun x hx => ⟨0, by simp [List.getD_eq_getElem?_getD, hx], rfl, fun _ _ h => h.elim⟩⟩
theorem Prt.less (h : Prt n es S L) (hS : ∀ u x, S' u x → S u x) : Prt n es S' L := ⟨h.1, fun x hx => by
  obtain ⟨k, e, h1, h2⟩ := h.2 x hx
  exact ⟨k, e, h1, fun u m hu hm => h2 u m (hS u x hu) hm⟩⟩
theorem Prt.own (h : Prt n es S L) {v : Nat} (hv : v < n) (hS : ∀ u, (u, v) ∈ es → S u v) : ∃ k : Nat, L.getD v 0 = k ∧ wk es k v = true ∧ ∀ m, wk es m v = true → m ≤ k := by
  obtain ⟨k, e, h1, h2⟩ := h.2 v hv
  refine ⟨k, e, h1, fun m hm => ?_⟩
  cases m with
  | zero => omega
  | succ m =>
    obtain ⟨u, he, hu⟩ := wk_succ.1 hm
    exact h2 u m (hS u he) hu
theorem Prt.put (h : Prt n es S L) {v w k : Nat} (hw : w < n) (he : (v, w) ∈ es) (hk : wk es k v = true) (hm : ∀ m, wk es m v = true → m ≤ k) (hS : ∀ u x, S' u x → S u x ∨ (u = v ∧ x = w)) : Prt n es S' (L.set w (max (L.getD w 0) ((k : Int) + 1))) := ⟨by rw [List.length_set]; exact h.1, fun x hx => by
  obtain ⟨j, e, h1, h2⟩ := h.2 x hx
  by_cases hxw : x = w
  · subst hxw
    have h3 : (L.set x (max (L.getD x 0) ((k : Int) + 1))).getD x 0 = max (j : Int) ((k : Int) + 1) := by
      rw [← e]; simp [List.getD_eq_getElem?_getD, h.1, hx]
    rw [h3]
    rcases Nat.lt_or_ge j (k + 1) with hjk | hjk
    · refine ⟨k + 1, by omega, wk_succ.2 ⟨v, he, hk⟩, fun u m hu hm' => ?_⟩
      rcases hS u x hu with hu | ⟨rfl, _⟩
      · have := h2 u m hu hm'; omega
      · have := hm m hm'; omega
    · refine ⟨j, by omega, h1, fun u m hu hm' => ?_⟩
      rcases hS u x hu with hu | ⟨rfl, _⟩
      · exact h2 u m hu hm'
      · have := hm m hm'; omega
  · have h3 : (L.set w (max (L.getD w 0) ((k : Int) + 1))).getD x 0 = j := by
      rw [← e, List.getD_eq_getElem?_getD, List.getElem?_set_ne (by omega), List.getD_eq_getElem?_getD]
    refine ⟨j, h3, h1, fun u m hu hm' => ?_⟩
    rcases hS u x hu with hu | ⟨_, hxx⟩
    · exact h2 u m hu hm'
    · exact absurd hxx hxw⟩
end
theorem cnt_full {p : Nat → Bool} {n : Nat} (h : n ≤ cnt p n) {x : Nat} (hx : x < n) : p x = true := by
  cases hp : p x
  · have := cnt_lt (p := p) (q := fun _ => true) (n := n) (x := x) (fun _ _ _ => rfl) hx hp rfl
    have := cnt_le_n (fun _ => true) n
    omega
  · rfl
theorem cnt_or (p q : Nat → Bool) (n : Nat) : cnt (fun x => p x || q x) n ≤ cnt p n + cnt q n := by
  induction n with
  | zero => simp [cnt]
  | succ n ih => rw [cnt_succ, cnt_succ, cnt_succ]; cases p n <;> cases q n <;> simp <;> omega
theorem cnt_one (a n : Nat) : cnt (fun x => decide (x = a)) n ≤ if a < n then 1 else 0 := by
  induction n with
  | zero => simp [cnt]
  | succ n ih =>
    rw [cnt_succ]
    by_cases h : n = a
    · subst h; simp at ih ⊢; omega
    · simp only [h, decide_false, Bool.false_eq_true, if_false]
      split at ih <;> split <;> omega
theorem cnt_mem (n : Nat) : ∀ l : List Nat, cnt (fun x => decide (x ∈ l)) n ≤ l.length
  | [] => by simp [cnt]
  | a :: l => by
    have h1 := cnt_or (fun x => decide (x = a)) (fun x => decide (x ∈ l)) n
    have h2 := cnt_mem n l
    have h3 := cnt_one a n
    have h4 : cnt (fun x => decide (x ∈ a :: l)) n ≤ cnt (fun x => decide (x = a) || decide (x ∈ l)) n := cnt_le fun v _ hv => by simpa using hv
    simp only [List.length_cons]
    split at h3 <;> omega
theorem cnt_true (n : Nat) : cnt (fun _ => true) n = n := by
  induction n with
  | zero => simp [cnt]
  | succ n ih => rw [cnt_succ, ih]; simp
theorem ords_len (n : Nat) (es : List (Nat × Nat)) (j : Nat) : ∀ m, (ords n es (j + m)).length ≤ (ords n es j).length + m
  | 0 => Nat.le_refl _
  | m + 1 => by
    have := ords_len n es j m
    rw [← Nat.add_assoc, ords]
    split
    · simp; omega
    · omega
theorem ords_pre (n : Nat) (es : List (Nat × Nat)) (j : Nat) : ∀ m, ∃ t, ords n es (j + m) = ords n es j ++ t
  | 0 => ⟨[], by simp⟩
  | m + 1 => by
    obtain ⟨t, h⟩ := ords_pre n es j m
    rw [← Nat.add_assoc, ords]
    split
    · next v _ => exact ⟨t ++ [v], by rw [h, List.append_assoc]⟩
    · exact ⟨t, h⟩
section
variable {n : Nat} {es : List (Nat × Nat)} (hF : (ordL n es).length = n)
include hF
theorem full_len {j : Nat} (hj : j ≤ n) : (ords n es j).length = j := by
  have h1 := ords_len n es 0 j
  have h2 := ords_len n es j (n - j)
  have h3 : (ords n es (j + (n - j))).length = n := by rw [Nat.add_sub_cancel' hj]; exact hF
  have h4 : (ords n es 0).length = 0 := rfl
  rw [Nat.zero_add] at h1
  omega
theorem full_take {j : Nat} (hj : j ≤ n) : (ordL n es).take j = ords n es j := by
  obtain ⟨t, h⟩ := ords_pre n es j (n - j)
  rw [Nat.add_sub_cancel' hj] at h
  unfold ordL
  rw [h, List.take_append_of_le_length (by rw [full_len hF hj]; exact Nat.le_refl _), List.take_of_length_le (by rw [full_len hF hj]; exact Nat.le_refl _)]
theorem full_at {i : Nat} (hi : i < n) : (ordL n es).getD i 0 < n ∧ (ordL n es).getD i 0 ∉ (ordL n es).take i ∧ ∀ u, (u, (ordL n es).getD i 0) ∈ es → u ∈ (ordL n es).take i := by
  rw [full_take hF (Nat.le_of_lt hi)]
  have h1 := full_take hF (j := i + 1) hi
  rw [take_at 0 (by rw [hF]; exact hi), full_take hF (Nat.le_of_lt hi), ords] at h1
  split at h1
  · next v hp =>
    have h2 := List.append_cancel_left h1
    simp only [List.cons.injEq, and_true] at h2
    rw [h2]
    obtain ⟨g1, ⟨g2, g3⟩, _⟩ := pk_some.1 hp
    exact ⟨g1, g2, g3⟩
  · have := congrArg List.length h1; simp at this
theorem full_all {x : Nat} (hx : x < n) : ∃ i, i < n ∧ (ordL n es).getD i 0 = x := by
  have h := (ords_ok n es n).len
  rw [full_len hF (Nat.le_refl n)] at h
  have := cnt_full h hx
  simp only [decide_eq_true_eq] at this
  obtain ⟨i, h1, h2⟩ := mem_getD 0 (show x ∈ ordL n es from this)
  exact ⟨i, by rw [← hF]; exact h1, h2⟩
theorem full_pre {i u : Nat} (hi : i < n) (h : (u, (ordL n es).getD i 0) ∈ es) : ∃ j, j < i ∧ (ordL n es).getD j 0 = u := by
  obtain ⟨j, h1, h2⟩ := mem_getD 0 ((full_at hF hi).2.2 u h)
  rw [List.length_take] at h1
  refine ⟨j, by omega, ?_⟩
  rw [← h2, List.getD_eq_getElem?_getD, List.getD_eq_getElem?_getD, List.getElem?_take_of_lt (by omega)]
theorem full_inj {i j : Nat} (hi : i < n) (hj : j < n) (h : (ordL n es).getD i 0 = (ordL n es).getD j 0) : i = j := by
  have key : ∀ i j, i < j → j < n → (ordL n es).getD i 0 = (ordL n es).getD j 0 → False := fun i j hij hj h => by
    refine (full_at hF hj).2.1 ?_
    rw [← h]
    rw [List.getD_eq_getElem?_getD, List.getElem?_eq_getElem (by omega), Option.getD_some]
    exact List.mem_take_iff_getElem.2 ⟨i, by omega, rfl⟩
  rcases Nat.lt_trichotomy i j with e | e | e
  · exact (key i j e hj h).elim
  · exact e
  · exact (key j i e hi h.symm).elim
theorem full_wk : ∀ {k i : Nat}, i < n → wk es k ((ordL n es).getD i 0) = true → k ≤ i
  | 0, _, _, _ => Nat.zero_le _
  | k + 1, i, hi, h => by
    obtain ⟨u, he, hu⟩ := wk_succ.1 h
    obtain ⟨j, hj, rfl⟩ := full_pre hF hi he
    have := full_wk (k := k) (i := j) (by omega) hu
    omega
theorem full_lt {k x : Nat} (hx : x < n) (h : wk es k x = true) : k < n := by
  obtain ⟨i, hi, rfl⟩ := full_all hF hx
  have := full_wk hF hi h
  omega
theorem full_ball : ∀ {k u i : Nat}, i < n → ball es u k ((ordL n es).getD i 0) = true → ∃ j, j ≤ i ∧ (ordL n es).getD j 0 = u
  | 0, u, i, _, h => ⟨i, Nat.le_refl _, ball_zero.1 h⟩
  | k + 1, u, i, hi, h => by
    rcases ball_succ.1 h with h | ⟨y, he, hy⟩
    · exact full_ball hi h
    · obtain ⟨j, hj, rfl⟩ := full_pre hF hi he
      obtain ⟨m, hm, e⟩ := full_ball (i := j) (by omega) hy
      exact ⟨m, by omega, e⟩
/-- Where there is an order there is no cycle. -/
theorem full_ring (hE : Ok n es) {v u : Nat} (he : (v, u) ∈ es) (h : rch es u v) : False := by
  obtain ⟨i, hi, rfl⟩ := full_all hF (hE _ he).1
  obtain ⟨k, hk⟩ := h
  obtain ⟨j, hj, rfl⟩ := full_ball hF hi hk
  obtain ⟨m, hm, e⟩ := full_pre hF (i := j) (by omega) he
  have := full_inj hF (i := m) (j := i) (by omega) hi e
  omega
end
/-- Is there a cycle through a vertex? -/
theorem onC_iff {n : Nat} {es : List (Nat × Nat)} (hE : Ok n es) {v : Nat} (hv : v < n) : onC n es v = true ↔ ∃ u, (v, u) ∈ es ∧ rch es u v := by
  unfold onC
  constructor
  · intro h
    obtain ⟨h1, _, _, h4, _⟩ := near_ok (t := v) hE v h
    exact ⟨_, h1, rch_rv.1 ((dist_rch (rv_ok hE) hv).1 h4)⟩
  · rintro ⟨u, he, hr⟩
    cases h : (near (distL n (rv es) v) (nb es v)).2
    · have h1 := near_none (t := v) hE h u he
      have h2 := (dist_rch (rv_ok hE) hv).2 (rch_rv.2 hr)
      unfold dt at h1
      omega
    · rfl
theorem rch_edge {es : List (Nat × Nat)} {a b c : Nat} (he : (a, b) ∈ es) (h : rch es b c) : rch es a c := rch_trans (rch_snoc (rch_refl es a) he) h
/-- Either all vertices can be ordered, or there is one on a cycle. -/
theorem full_iff {n : Nat} {es : List (Nat × Nat)} (hE : Ok n es) : (ordL n es).length = n ↔ ∀ v, v < n → onC n es v = false := by
  constructor
  · intro hF v hv
    cases h : onC n es v
    · rfl
    · obtain ⟨u, he, hr⟩ := (onC_iff hE hv).1 h
      exact (full_ring hF hE he hr).elim
  · intro hC
    have hI := ords_ok n es n
    have hl := hI.len_n
    refine Classical.byContradiction fun hne => ?_
    have hpk : pk n es (ordL n es) = none := by
      cases hp : pk n es (ordL n es) with
      | none => rfl
      | some v =>
        exfalso
        have h1 : ∀ j, j ≤ n → (ords n es j).length = j ∨ pk n es (ords n es j) = none := by
          intro j
          induction j with
          | zero => intro _; exact .inl rfl
          | succ j ih =>
            intro hj
            rcases ih (by omega) with ih | ih
            · rw [ords]
              split
              · left; simp [ih]
              · next h => right; exact h
            · right
              rw [ords, ih]; exact ih
        rcases h1 n (Nat.le_refl n) with h1 | h1
        · exact hne h1
        · exact absurd (hp.symm.trans h1) (by simp)
    have key : ∀ c x, cnt (fun u => decide (0 ≤ dist n es u x)) n ≤ c → x < n → x ∉ ordL n es → False := by
      intro c
      induction c with
      | zero =>
        intro x hc hx _
        have h0 : cnt (fun _ => false) n < cnt (fun u => decide (0 ≤ dist n es u x)) n := cnt_lt (x := x) (fun _ _ h => by cases h) hx rfl (by simp [dist_self hE hx])
        omega
      | succ c ih =>
        intro x hc hx hxl
        have h1 := pk_none hpk hx
        obtain ⟨y, hy⟩ : ∃ y, (y, x) ∈ es ∧ y ∉ ordL n es := by
          refine Classical.byContradiction fun h => h1 ⟨hxl, fun u hu => ?_⟩
          refine Classical.byContradiction fun hu' => h ⟨u, hu, hu'⟩
        have hyn := (hE _ hy.1).1
        refine ih y ?_ hyn hy.2
        have h2 : cnt (fun u => decide (0 ≤ dist n es u y)) n < cnt (fun u => decide (0 ≤ dist n es u x)) n := by
          refine cnt_lt (x := x) (fun u hu h => ?_) hx ?_ ?_
          · simp only [decide_eq_true_eq] at h ⊢
            exact (dist_rch hE hu).2 (rch_snoc ((dist_rch hE hu).1 h) hy.1)
          · simp only [decide_eq_false_iff_not]
            intro h
            have h3 := (onC_iff hE hyn).2 ⟨x, hy.1, (dist_rch hE hx).1 h⟩
            rw [hC y hyn] at h3; cases h3
          · simp [dist_self hE hx]
        omega
    have hx : ∃ x, x < n ∧ x ∉ ordL n es := by
      refine Classical.byContradiction fun h => hne ?_
      have h1 : ∀ x, x < n → x ∈ ordL n es := fun x hx => Classical.byContradiction fun h' => h ⟨x, hx, h'⟩
      have h2 := cnt_le (n := n) (p := fun _ => true) (q := fun x => decide (x ∈ ordL n es)) fun x hx _ => by simpa using h1 x hx
      have h4 := cnt_mem n (ordL n es)
      rw [cnt_true] at h2
      have h3 : (ordL n es).length ≤ n := hl
      omega
    obtain ⟨x, hx, hxl⟩ := hx
    exact key _ x (Nat.le_refl _) hx hxl
end Dg
