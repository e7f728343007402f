/- Orders: exchanges, the way back, and how many points a renamed table has. Plain facts, of no program. -/
import Derived.Test.YtmmcakeedejbnaaDoorVi
import Derived.Test.YtmmcakeedejbnaaDoorVq
namespace Tt
theorem Ord.of {n : Nat} {ps : List Nat} (hl : ps.length = n) (ha : ∀ i, i < n → ps.getD i 0 < n) (hi : ∀ i j, i < n → j < n → ps.getD i 0 = ps.getD j 0 → i = j) : Ord n ps := by
  refine ⟨hl, fun p hp => ?_, List.pairwise_iff_getElem.2 fun i j h1 h2 h3 he => ?_⟩
  · obtain ⟨i, h1, rfl⟩ := List.getElem_of_mem hp
    have := ha i (by omega)
    rwa [List.getD_eq_getElem?_getD, List.getElem?_eq_getElem h1] at this
  · have := hi i j (by omega) (by omega) (by rw [List.getD_eq_getElem?_getD, List.getD_eq_getElem?_getD, List.getElem?_eq_getElem h1, List.getElem?_eq_getElem h2]; exact he)
    omega
theorem getD_put (l : List Nat) (i x j : Nat) (hi : i < l.length) : (l.set i x).getD j 0 = if j = i then x else l.getD j 0 := by
  rw [List.getD_eq_getElem?_getD, List.getD_eq_getElem?_getD, List.getElem?_set]
  by_cases h : i = j
  · subst h; simp [hi]
  · rw [if_neg h, if_neg (fun e => h e.symm)]
theorem Ord.range (n : Nat) : Ord n (List.range n) := ⟨List.length_range, fun _ hp => List.mem_range.1 hp, List.nodup_range⟩
/-- An exchange. -/
def swap (l : List Nat) (i k : Nat) : List Nat := (l.set i (l.getD k 0)).set k (l.getD i 0)
theorem swap_len (l : List Nat) (i k : Nat) : (swap l i k).length = l.length := by simp [swap]
theorem swap_at (l : List Nat) (i k j : Nat) (hi : i < l.length) (hk : k < l.length) : (swap l i k).getD j 0 = l.getD (if j = k then i else if j = i then k else j) 0 := by
  unfold swap
  rw [getD_put _ _ _ _ (by simpa using hk), getD_put _ _ _ _ hi]
  by_cases h1 : j = k
  · simp only [if_pos h1]
  · by_cases h2 : j = i
    · simp only [if_neg h1, if_pos h2]
    · simp only [if_neg h1, if_neg h2]
theorem Ord.swap {n : Nat} {ps : List Nat} (h : Ord n ps) {i k : Nat} (hi : i < n) (hk : k < n) : Ord n (swap ps i k) := by
  have hl := h.len
  refine Ord.of (by rw [swap_len, hl]) (fun j hj => ?_) (fun a b ha hb he => ?_)
  · rw [swap_at _ _ _ _ (by omega) (by omega)]
    exact h.at (by split; exact hi; split; exact hk; exact hj)
  · rw [swap_at _ _ _ _ (by omega) (by omega), swap_at _ _ _ _ (by omega) (by omega)] at he
    have h1 := h.inj (by split; exact hi; split; exact hk; exact ha) (by split; exact hi; split; exact hk; exact hb) he
    repeat' split at h1
    all_goals omega
/-- The way back, as far as it is laid. -/
structure Bck (n : Nat) (ps bk : List Nat) (i : Nat) : Prop where
  len : bk.length = n
  at' : ∀ j, j < i → bk.getD (ps.getD j 0) 0 = j
theorem Bck.put {n : Nat} {ps bk : List Nat} {i : Nat} (hO : Ord n ps) (h : Bck n ps bk i) (hi : i < n) : Bck n ps (bk.set (ps.getD i 0) i) (i + 1) := by
  have hp := hO.at hi
  have hl := h.len
  refine ⟨by simp [hl], fun j hj => ?_⟩
  rw [getD_put _ _ _ _ (by omega)]
  by_cases e : ps.getD j 0 = ps.getD i 0
  · rw [if_pos e]; exact (hO.inj (by omega) hi e).symm
  · rw [if_neg e]
    exact h.at' j (by
      have : j ≠ i := fun e' => e (by rw [e'])
      omega)
theorem Bck.ord {n : Nat} {ps bk : List Nat} (hO : Ord n ps) (h : Bck n ps bk n) : Ord n bk := by
  refine Ord.of h.len (fun i hi => ?_) (fun i j hi hj he => ?_)
  · obtain ⟨a, ha, rfl⟩ := hO.all hi
    rw [h.at' a ha]; exact ha
  · obtain ⟨a, ha, rfl⟩ := hO.all hi
    obtain ⟨b, hb, rfl⟩ := hO.all hj
    rw [h.at' a ha, h.at' b hb] at he
    rw [he]
theorem ordFrom_ok (n : Int) : ∀ (r seen : List Int), (∀ x ∈ r, 0 ≤ x ∧ x < n ∧ x ∉ seen) → r.Nodup → ordFrom n seen r = 0
  | [], _, _, _ => rfl
  | x :: r, seen, h, hd => by
    obtain ⟨h1, h2, h3⟩ := h x (by simp)
    obtain ⟨d1, d2⟩ := List.nodup_cons.1 hd
    unfold ordFrom
    rw [if_pos ⟨h1, h2⟩, if_neg h3]
    exact ordFrom_ok n r _ (fun y hy => ⟨(h y (by simp [hy])).1, (h y (by simp [hy])).2.1, fun hm => by
      rcases List.mem_append.1 hm with hm | hm
      · exact (h y (by simp [hy])).2.2 hm
      · have : y = x := by simpa using hm
        subst this
        exact d1 hy⟩) d2
/-- An order as integers. -/
def ints (ps : List Nat) : List Int := ps.map fun p : Nat => (p : Int)
theorem ints_len (ps : List Nat) : (ints ps).length = ps.length := by simp [ints]
theorem ints_nat (ps : List Nat) : (ints ps).map Int.toNat = ps := by simp [ints, List.map_map, Function.comp_def]
theorem ints_at (ps : List Nat) (i : Nat) : (ints ps).getD i 0 = ((ps.getD i 0 : Nat) : Int) := by
  unfold ints
  rw [List.getD_eq_getElem?_getD, List.getD_eq_getElem?_getD, List.getElem?_map]
  cases ps[i]? <;> rfl
theorem Ord.ordE {n : Nat} {ps : List Nat} (h : Ord n ps) : ordE n (ints ps) = 0 := by
  unfold Tt.ordE
  rw [if_pos (by rw [ints_len, h.len])]
  refine ordFrom_ok n _ _ (fun x hx => ?_) ?_
  · obtain ⟨p, hp, rfl⟩ := List.mem_map.1 hx
    have := h.lt p hp
    exact ⟨by omega, by omega, by simp⟩
  · exact List.pairwise_map.2 (h.one.imp fun hne e => hne (by omega))
theorem Bck.undo {n b : Nat} {ps bk : List Nat} (hO : Ord n ps) (h : Bck n ps bk n) (hb : b < 2 ^ 2 ^ n) :
    Tt.mk n (fun x => (Tt.mk n (fun x => b.testBit (refY ps x n))).testBit (refY bk x n)) = b := by
  refine same (mk_lt n _) hb fun k hk => ?_
  have e : refY ps (refY bk k n) n = k := by
    apply Nat.eq_of_testBit_eq
    intro j
    rw [refY_bit, refY_bit]
    by_cases hj : j < n
    · have h1 := hO.at hj
      rw [h.at' j hj]
      rw [decide_eq_true hj, decide_eq_true h1]; rfl
    · have hkj : k < 2 ^ j := Nat.lt_of_lt_of_le hk (Nat.pow_le_pow_right (by omega) (by omega))
      rw [Nat.testBit_lt_two_pow hkj, decide_eq_false hj]; rfl
  rw [mk_bit, mk_bit, e]
  simp [hk, refY_lt]
theorem sub_len : ∀ (l m : List Nat), l.Nodup → (∀ x ∈ l, x ∈ m) → l.length ≤ m.length
  | [], _, _, _ => Nat.zero_le _
  | x :: l, m, hd, h => by
    obtain ⟨d1, d2⟩ := List.nodup_cons.1 hd
    have hx := h x (by simp)
    have h1 := sub_len l (m.erase x) d2 (fun y hy => (List.mem_erase_of_ne (fun e : y = x => d1 (by rw [← e]; exact hy))).2 (h y (by simp [hy])))
    have := List.length_erase_of_mem hx
    have : 0 < m.length := List.length_pos_of_mem hx
    rw [List.length_cons]
    omega
theorem pts_le {p q : Nat → Bool} {N : Nat} (f : Nat → Nat) (hf : ∀ x, x < N → p x = true → f x < N ∧ q (f x) = true) (hi : ∀ x y, x < N → y < N → f x = f y → x = y) : (pts p N).length ≤ (pts q N).length := by
  have h := sub_len ((pts p N).map f) (pts q N) ?_ ?_
  · simpa using h
  · refine List.pairwise_map.2 ?_
    have hd : (pts p N).Nodup := List.Pairwise.filter _ List.nodup_range
    refine hd.imp_of_mem fun ha hb hne e => hne ?_
    have h1 := List.mem_range.1 (List.mem_filter.1 ha).1
    have h2 := List.mem_range.1 (List.mem_filter.1 hb).1
    exact hi _ _ h1 h2 e
  · intro y hy
    obtain ⟨x, hx, rfl⟩ := List.mem_map.1 hy
    obtain ⟨h1, h2⟩ := List.mem_filter.1 hx
    obtain ⟨h3, h4⟩ := hf x (List.mem_range.1 h1) h2
    exact List.mem_filter.2 ⟨List.mem_range.2 h3, h4⟩
theorem Ord.points {n : Nat} {ps : List Nat} (h : Ord n ps) (b : Nat) : (pts (fun k => b.testBit k) (2 ^ n)).length = (pts (fun k => (Tt.mk n (fun x => b.testBit (refY ps x n))).testBit k) (2 ^ n)).length := by
  apply Nat.le_antisymm
  · refine pts_le (fun y => devX ps y n) (fun y hy hp => ?_) (fun x y hx hy e => ?_)
    · have h1 := devX_lt h y (Nat.le_refl n)
      refine ⟨h1, ?_⟩
      show (Tt.mk n _).testBit _ = true
      rw [mk_bit, ref_dev h hy]
      simp [h1, hp]
    · have e' : devX ps x n = devX ps y n := e
      rw [← ref_dev h hx, ← ref_dev h hy, e']
  · refine pts_le (fun y => refY ps y n) (fun y hy hp => ?_) (fun x y hx hy e => ?_)
    · refine ⟨refY_lt ps y n, ?_⟩
      have hp' : (Tt.mk n (fun x => b.testBit (refY ps x n))).testBit y = true := hp
      rw [mk_bit] at hp'
      simp [hy] at hp'
      exact hp'
    · have e' : refY ps x n = refY ps y n := e
      rw [← dev_ref h hx, ← dev_ref h hy, e']
end Tt
