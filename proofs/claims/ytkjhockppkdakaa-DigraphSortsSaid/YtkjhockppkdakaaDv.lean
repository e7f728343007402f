/- Lists of lists of integers that the call itself has made; the lists of vertices of the components. -/
import Derived.Test.YtkjhockppkdakaaDu
namespace Dg
def lds (n : Nat) (es : List (Nat × Nat)) (j : Nat) : List Nat := (List.range j).filter (isL n es)
def mem (n : Nat) (es : List (Nat × Nat)) (j l : Nat) : List Int := ci ((List.range j).filter fun w => ldr n es w == l)
/-- The components' vertices below j; with the leaders below j + 1. -/
def pL (n : Nat) (es : List (Nat × Nat)) (j : Nat) : List (List Int) := (lds n es j).map (mem n es j)
def pM (n : Nat) (es : List (Nat × Nat)) (j : Nat) : List (List Int) := (lds n es (j + 1)).map (mem n es j)
theorem cnt_mono (p : Nat → Bool) {k m : Nat} (hk : k ≤ m) : cnt p k ≤ cnt p m := by
  induction m with
  | zero => rw [show k = 0 by omega]; exact Nat.le_refl _
  | succ m ih =>
    by_cases e : k = m + 1
    · rw [e]; exact Nat.le_refl _
    · have := ih (by omega); rw [cnt_succ]; omega
theorem fr_len (p : Nat → Bool) (m : Nat) : ((List.range m).filter p).length = cnt p m := rfl
theorem fr_succ (p : Nat → Bool) (m : Nat) : (List.range (m + 1)).filter p = (List.range m).filter p ++ if p m then [m] else [] := by
  rw [List.range_succ, List.filter_append]
  cases h : p m <;> simp [h]
theorem fr_at (p : Nat → Bool) : ∀ {m u : Nat}, u < m → p u = true → ((List.range m).filter p).getD (cnt p u) 0 = u
  | m + 1, u, hu, hp => by
    rw [fr_succ, List.getD_eq_getElem?_getD]
    by_cases e : u = m
    · subst e
      rw [List.getElem?_append_right (by rw [fr_len]; exact Nat.le_refl _), fr_len, hp]; simp
    · have h1 := cnt_mono p (show u + 1 ≤ m by omega)
      rw [cnt_succ, hp] at h1
      simp only [if_true] at h1
      rw [List.getElem?_append_left (by rw [fr_len]; omega), ← List.getD_eq_getElem?_getD]
      exact fr_at p (by omega) hp
theorem fr_of (p : Nat → Bool) : ∀ {m i : Nat}, i < cnt p m → p (((List.range m).filter p).getD i 0) = true ∧ ((List.range m).filter p).getD i 0 < m ∧ cnt p (((List.range m).filter p).getD i 0) = i
  | 0, i, hi => by simp [cnt] at hi
  | m + 1, i, hi => by
    rw [fr_succ, List.getD_eq_getElem?_getD]
    by_cases e : i < cnt p m
    · rw [List.getElem?_append_left (by rw [fr_len]; exact e), ← List.getD_eq_getElem?_getD]
      obtain ⟨h1, h2, h3⟩ := fr_of p e
      exact ⟨h1, by omega, h3⟩
    · rw [cnt_succ] at hi
      cases hp : p m
      · rw [hp] at hi; simp at hi; omega
      · rw [hp] at hi
        simp only [if_true] at hi
        obtain rfl : i = cnt p m := by omega
        rw [List.getElem?_append_right (by rw [fr_len]; exact Nat.le_refl _), fr_len]
        simp [hp]
theorem lds_len (n : Nat) (es : List (Nat × Nat)) (j : Nat) : (lds n es j).length = cnt (isL n es) j := rfl
theorem pL_len (n : Nat) (es : List (Nat × Nat)) (j : Nat) : (pL n es j).length = cnt (isL n es) j := by simp [pL, lds_len]
theorem pM_len (n : Nat) (es : List (Nat × Nat)) (j : Nat) : (pM n es j).length = cnt (isL n es) (j + 1) := by simp [pM, lds_len]
theorem mapD {l : List Nat} (f : Nat → List Int) {i : Nat} (hi : i < l.length) : (l.map f).getD i [] = f (l.getD i 0) := by
  rw [List.getD_eq_getElem?_getD, List.getElem?_map, List.getD_eq_getElem?_getD, List.getElem?_eq_getElem hi]; rfl
theorem mem_succ (n : Nat) (es : List (Nat × Nat)) (j l : Nat) : mem n es (j + 1) l = if ldr n es j = l then mem n es j l ++ [(j : Int)] else mem n es j l := by
  unfold mem
  rw [fr_succ]
  by_cases h : ldr n es j = l
  · rw [if_pos h]; simp [ci, h]
  · rw [if_neg h]; simp [h]
theorem mem_len (n : Nat) (es : List (Nat × Nat)) (j l : Nat) : (mem n es j l).length ≤ j := by
  unfold mem; rw [ci_len]; exact Nat.le_trans (List.length_filter_le _ _) (by simp)
section
variable {n : Nat} {es : List (Nat × Nat)} (hE : Ok n es)
include hE
theorem pM_new {j : Nat} (hj : j < n) (h : isL n es j = true) : pM n es j = pL n es j ++ [[]] := by
  unfold pM pL lds
  rw [fr_succ, h, if_pos rfl, List.map_append]
  have : mem n es j j = [] := by
    unfold mem
    rw [List.filter_eq_nil_iff.2 fun w hw => ?_]
    · rfl
    · have h1 := List.mem_range.1 hw
      have h2 := (ldr_spec hE (show w < n by omega)).1
      simp; omega
  simp [this]
omit hE in
theorem pM_old {j : Nat} (h : isL n es j = false) : pM n es j = pL n es j := by
  unfold pM pL lds
  rw [fr_succ, h]; simp
theorem pL_step {j : Nat} (hj : j < n) : num n es j < cnt (isL n es) (j + 1) ∧ pL n es (j + 1) = (pM n es j).set (num n es j) ((pM n es j).getD (num n es j) [] ++ [(j : Int)]) := by
  have h1 := (ldr_spec hE hj).1
  have h2 := ldr_isL hE hj
  have h3 : num n es j < cnt (isL n es) (j + 1) := by
    have := cnt_mono (isL n es) (show ldr n es j + 1 ≤ j + 1 by omega)
    rw [cnt_succ, h2] at this
    simp only [if_true] at this
    unfold num; omega
  refine ⟨h3, ext_getD [] (by simp [pL_len, pM_len]) fun i hi => ?_⟩
  rw [pL_len] at hi
  rw [set_getD _ _ _ _ _ (by rw [pM_len]; exact h3)]
  have hl : i < (lds n es (j + 1)).length := hi
  obtain ⟨f1, f2, f3⟩ := fr_of (isL n es) hi
  unfold pL pM
  rw [mapD _ hl, mapD _ hl, mapD _ (show num n es j < (lds n es (j + 1)).length from h3), mem_succ]
  have hx : (lds n es (j + 1)).getD (num n es j) 0 = ldr n es j := fr_at _ (by omega) h2
  rw [hx]
  by_cases e : i = num n es j
  · subst e
    rw [hx, if_pos rfl, if_pos rfl]
  · rw [if_neg e, if_neg]
    intro g
    refine e ?_
    have : (lds n es (j + 1)).getD i 0 = ldr n es j := g.symm
    unfold lds at this
    rw [this] at f3
    exact f3.symm
end
end Dg
namespace Go.Proofs.Ytkjhockppkdakaa
open Go.RowKit Go.Shelf

/-- A list of lists of integers, all of the call's own. -/
structure OutI (T e : TypeId) (B : Nat) (w : World) (v : Value) (us : List Value) (L : List (List Int)) : Prop where
  out : w.ownsRow B T 1 v us.length us
  len : us.length = L.length
  row : ∀ i, i < L.length → RowI B e w (us.getD i (.slice none 0 0)) (L.getD i [])
  apart : ∀ i j, i < L.length → j < L.length → i ≠ j → (us.getD i (.slice none 0 0)).ownBlock = none ∨ (us.getD i (.slice none 0 0)).ownBlock ≠ (us.getD j (.slice none 0 0)).ownBlock
  off : ∀ i, i < L.length → (us.getD i (.slice none 0 0)).ownBlock = none ∨ (us.getD i (.slice none 0 0)).ownBlock ≠ v.ownBlock
theorem OutI.nil (T e : TypeId) (B : Nat) (w : World) : OutI T e B w (.slice none 0 0) [] [] :=
  ⟨World.ownsRow_nil _ _ _ _, rfl, fun i hi => by simp at hi, fun i j hi => by simp at hi, fun i hi => by simp at hi⟩
theorem OutI.below {T e : TypeId} {B : Nat} {w w' : World} {v : Value} {us : List Value} {L : List (List Int)} (h : OutI T e B w v us L) (hb : Below w.heap.size w w') : OutI T e B w' v us L :=
  ⟨h.out.kept (grown_below (r := none) hb) (by cases v.ownBlock <;> simp), h.len, fun i hi => (h.row i hi).step hb, h.apart, h.off⟩
theorem OutI.form {T e : TypeId} {B : Nat} {w : World} {v : Value} {us : List Value} {L : List (List Int)} (h : OutI T e B w v us L) : ∃ ao cap, v = .slice ao L.length cap := by
  have hl := h.len
  rcases h.out.2 with ⟨rfl, h0⟩ | ⟨g, cap, cur, rfl, _⟩
  · exact ⟨none, 0, by rw [← hl, h0]⟩
  · exact ⟨_, _, by rw [hl]⟩
/-- Where there is a list, the value shows its block. -/
theorem OutI.block {T e : TypeId} {B : Nat} {w : World} {v : Value} {us : List Value} {L : List (List Int)} (h : OutI T e B w v us L) (h0 : 0 < L.length) : ∃ A cap, v = .slice (some ⟨A, 0, none⟩) L.length cap ∧ B ≤ A ∧ A < w.heap.size ∧ L.length ≤ cap ∧ cap ≤ maxLen ∧ ∀ i, i < L.length → w.cell? ⟨A, i, none⟩ = some (us.getD i (.slice none 0 0)) ∧ w.frozen? ⟨A, i, none⟩ = false := by
  have hl := h.len
  have ho := h.out
  rcases h.out.2 with ⟨rfl, h1⟩ | ⟨g, cap, cur, rfl, h1, h2, h3, h4, _⟩
  · omega
  · refine ⟨g, cap, by rw [hl], h1, (Array.getElem?_eq_some_iff.1 h2).1, by omega, h4, fun i hi => ⟨?_, ho.frozenAt i⟩⟩
    rw [ho.cellAt i (by omega), List.getD_eq_getElem?_getD, List.getElem?_eq_getElem (by omega)]; rfl
/-- One list has got one more number, and stands in its place. -/
theorem OutI.put {T e : TypeId} {B : Nat} {w w' : World} {A n cap i : Nat} {us : List Value} {L : List (List Int)} (h : OutI T e B w (.slice (some ⟨A, 0, none⟩) n cap) us L) (hi : i < L.length) {u : Value} {l : List Int}
    (hg : w.grownBy w' (us.getD i (.slice none 0 0)).ownBlock) (hr : RowI B e w' u l) (ho : u.ownBlock = (us.getD i (.slice none 0 0)).ownBlock ∨ ∃ g, u.ownBlock = some g ∧ w.heap.size ≤ g) :
    OutI T e B (w'.setCell ⟨A, i, none⟩ u) (.slice (some ⟨A, 0, none⟩) n cap) (us.set i u) (L.set i l) := by
  have hlen := h.len
  have hiu : i < us.length := by omega
  have hn : n = us.length := by
    rcases h.out.2 with ⟨h1, _⟩ | ⟨g, c, cur, h1, _⟩ <;> simp only [Value.slice.injEq] at h1
    · exact absurd h1.1 (by simp)
    · exact h1.2.1
  subst hn
  have hAlt : A < w.heap.size := (World.ownsRow.lt h.out A rfl).2
  have hout : w'.ownsRow B T 1 (.slice (some ⟨A, 0, none⟩) us.length cap) us.length us := h.out.kept hg (by
    rcases h.off i hi with e | e
    · right; rw [e]; simp [Value.ownBlock]
    · right; exact fun e' => e e'.symm)
  obtain ⟨hst, hgs⟩ := World.ownsRow.stored hout i u
  have fresh : ∀ j, j < L.length → ∀ g, w.heap.size ≤ g → (us.getD j (.slice none 0 0)).ownBlock ≠ some g := fun j hj g hg e => by
    have := (World.ownsRow.lt (h.row j hj) g e).2
    omega
  have huA : u.ownBlock = none ∨ u.ownBlock ≠ some A := by
    rcases ho with ho | ⟨g, ho, hg⟩
    · rw [ho]; exact h.off i hi
    · right; rw [ho]; simp; omega
  refine ⟨by rw [List.length_set]; exact hst, by simp [hlen], ?_, ?_, ?_⟩
  · intro j hj
    rw [List.length_set] at hj
    rw [Dg.set_getD _ _ _ _ _ hiu, Dg.set_getD _ _ _ _ _ hi]
    by_cases e : j = i
    · rw [if_pos e, if_pos e]; exact hr.kept hgs huA
    · rw [if_neg e, if_neg e]
      exact ((h.row j hj).kept hg (h.apart j i hj hi e)).kept hgs (h.off j hj)
  · intro j k hj hk hjk
    rw [List.length_set] at hj hk
    rw [Dg.set_getD _ _ _ _ _ hiu, Dg.set_getD _ _ _ _ _ hiu]
    by_cases e1 : j = i
    · rw [if_pos e1, if_neg (by omega)]
      rcases ho with ho | ⟨g, ho, hg⟩
      · rw [ho, ← e1]; exact h.apart j k hj hk hjk
      · right; rw [ho]; exact fun e => fresh k hk g hg e.symm
    · rw [if_neg e1]
      by_cases e2 : k = i
      · rw [if_pos e2]
        rcases ho with ho | ⟨g, ho, hg⟩
        · rw [ho, ← e2]; exact h.apart j k hj hk hjk
        · right; rw [ho]; exact fresh j hj g hg
      · rw [if_neg e2]; exact h.apart j k hj hk hjk
  · intro j hj
    rw [List.length_set] at hj
    rw [Dg.set_getD _ _ _ _ _ hiu]
    by_cases e : j = i
    · rw [if_pos e]; exact huA
    · rw [if_neg e]; exact h.off j hj
/-- 'append' of one more list. -/
theorem wpList_append_list {P : Program} {w : World} {ops : Array Oper} {rest : List Oper} {o : Oper} {a : Act} {Q : Exit → Act → World → Prop} (hgd : o.guard = none) (s x : Operand) (t : TypeId)
    (ho : o.op = .call { callee := .builtin .append, args := #[s, x], argTypes := #[t, t] })
    (T e : TypeId) (i : TypeInfo) (ht : P.underlying t = some (.slice T)) (hi : P.info? T = some i) (hz : i.zero = some (.slice none 0 0)) (hsize : i.size = 1) (hby : i.bytes = 24)
    (v : Value) (us : List Value) (L : List (List Int)) (u : Value) (l : List Int) (g : Nat) (hs : a.eval s = v) (hx : a.eval x = .slice (some ⟨g, 0, none⟩) 1 1) (B : Nat) (hown : OutI T e B w v us L)
    (hc : w.cell? ⟨g, 0, none⟩ = some u) (hu1 : u.oneCell' = true) (hu : RowI B e w u l) (hua : ∀ i, i < L.length → (us.getD i (.slice none 0 0)).ownBlock = none ∨ (us.getD i (.slice none 0 0)).ownBlock ≠ u.ownBlock) (hub : u.ownBlock = none ∨ u.ownBlock ≠ v.ownBlock)
    (hua2 : ∀ i, i < L.length → u.ownBlock = none ∨ u.ownBlock ≠ (us.getD i (.slice none 0 0)).ownBlock)
    (hlen : L.length ≤ 1048576) (hB : B ≤ w.heap.size)
    (h : ∀ ao' cap' w', OutI T e B w' (.slice ao' (L.length + 1) cap') (us ++ [u]) (L ++ [l]) → w.grownBy w' v.ownBlock → Below B w w' → wpList P ops Q rest (a.put o.dst (.slice ao' (L.length + 1) cap')) w') : wpList P ops Q (o :: rest) a w := by
  have hl := hown.len
  refine wpList_append_own_at w hgd s x t ho B T i (.slice none 0 0) 1 24 ht hi hz hsize hby rfl (by omega) v us.length us hs hown.out ⟨g, 0, none⟩ 1 1 [u] hx (by simp) ?_ ?_ (by unfold maxLen; omega) (by omega) hB ?_
  · intro j y hj
    rw [addr_add]
    rcases j with _ | j
    · simp at hj; subst hj; exact hc
    · simp at hj
  · intro y hy
    rw [List.mem_singleton.1 hy]; exact hu1
  · intro v' w' r1 r2 r3 r4
    have fresh : ∀ g, (∃ p, v'.ownBlock = some g ∧ p = g ∧ w.heap.size ≤ p) → ∀ j, j < L.length → (us.getD j (.slice none 0 0)).ownBlock ≠ some g := fun g ⟨p, _, hp, hg⟩ j hj e => by
      have := (World.ownsRow.lt (hown.row j hj) g e).2
      omega
    have hvo : ∀ j, j < L.length → (us.getD j (.slice none 0 0)).ownBlock = none ∨ (us.getD j (.slice none 0 0)).ownBlock ≠ v'.ownBlock := fun j hj => by
      rcases r4 with e | e
      · rw [e]; exact hown.off j hj
      · right; rw [e]; intro e2
        have := (World.ownsRow.lt (hown.row j hj) _ e2).2
        omega
    have huo : u.ownBlock = none ∨ u.ownBlock ≠ v'.ownBlock := by
      rcases r4 with e | e
      · rw [e]; exact hub
      · right; rw [e]; intro e2
        have := (World.ownsRow.lt hu _ e2).2
        omega
    have hgL : ∀ i, i < L.length → (us ++ [u]).getD i (.slice none 0 0) = us.getD i (.slice none 0 0) := fun i hi => by
      simp only [List.getD_eq_getElem?_getD]; rw [List.getElem?_append_left (by omega)]
    have hgl : ∀ i, i < L.length → (L ++ [l]).getD i [] = L.getD i [] := fun i hi => by
      simp only [List.getD_eq_getElem?_getD]; rw [List.getElem?_append_left (by omega)]
    have hgL2 : (us ++ [u]).getD L.length (.slice none 0 0) = u := by
      simp only [List.getD_eq_getElem?_getD]; rw [List.getElem?_append_right (by omega), hl]; simp
    have hgl2 : (L ++ [l]).getD L.length [] = l := by
      simp only [List.getD_eq_getElem?_getD]; rw [List.getElem?_append_right (by omega)]; simp
    have hO : OutI T e B w' v' (us ++ [u]) (L ++ [l]) := by
      refine ⟨by rw [List.length_append]; exact r1, by simp [hl], fun i hi => ?_, fun i j hi hj hij => ?_, fun i hi => ?_⟩
      · rw [List.length_append, List.length_singleton] at hi
        by_cases e : i < L.length
        · rw [hgL i e, hgl i e]; exact (hown.row i e).kept r2 (hown.off i e)
        · obtain rfl : i = L.length := by omega
          rw [hgL2, hgl2]; exact hu.kept r2 hub
      · rw [List.length_append, List.length_singleton] at hi hj
        by_cases e : i < L.length
        · by_cases e2 : j < L.length
          · rw [hgL i e, hgL j e2]; exact hown.apart i j e e2 hij
          · obtain rfl : j = L.length := by omega
            rw [hgL i e, hgL2]; exact hua i e
        · obtain rfl : i = L.length := by omega
          rw [hgL2, hgL j (by omega)]; exact hua2 j (by omega)
      · rw [List.length_append, List.length_singleton] at hi
        by_cases e : i < L.length
        · rw [hgL i e]; exact hvo i e
        · obtain rfl : i = L.length := by omega
          rw [hgL2]; exact huo
    obtain ⟨ao', cap', rfl⟩ := hO.form
    rw [List.length_append, List.length_singleton] at *
    exact h _ _ _ hO r2 ((Below.refl _ _).grown r2 hB (fun g hg => (World.ownsRow.lt hown.out g hg).1))
theorem info_ints : ∃ i : TypeInfo, Try.prog.info? 27 = some i ∧ i.zero = some (.slice none 0 0) ∧ i.size = 1 ∧ i.bytes = 24 := by
  have h : (Try.prog.info? 27).map (fun i => (i.zero, i.size, i.bytes)) = some (some (.slice none 0 0), 1, 24) := by kernel_rfl
  obtain ⟨i, h1, h2⟩ := Option.map_eq_some_iff.1 h
  simp only [Prod.mk.injEq] at h2
  exact ⟨i, h1, h2⟩
/-- A slice value, nil or not, reads as a list of lists of integers. -/
def SeesN (w : World) (v : Value) (L : List (List Int)) : Prop := (v = .slice none 0 0 ∧ L = []) ∨ SeesL w v L
theorem OutI.sees {T e : TypeId} {B : Nat} {w : World} {v : Value} {us : List Value} {L : List (List Int)} (h : OutI T e B w v us L) : SeesN w v L := by
  have hl := h.len
  by_cases h0 : 0 < L.length
  · obtain ⟨A, cap, rfl, _, h2, h3, h4, h5⟩ := h.block h0
    exact .inr ⟨A, cap, rfl, h3, by unfold maxLen at h4; omega, h2, fun i hi => ⟨_, (h5 i hi).1, (h.row i hi).sees⟩⟩
  · rcases h.out.2 with ⟨rfl, h1⟩ | ⟨g, cap, cur, rfl, h1, h2, h3, h4, _⟩
    · exact .inl ⟨rfl, List.length_eq_zero_iff.1 (by omega)⟩
    · refine .inr ⟨g, cap, by rw [hl], by omega, by unfold maxLen at h4; omega, (Array.getElem?_eq_some_iff.1 h2).1, fun i hi => by omega⟩
end Go.Proofs.Ytkjhockppkdakaa
