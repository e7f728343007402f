/- Which cubes are held; plain facts. -/
import Derived.Test.YtabflijfbjdpgaaDoorLA
import Derived.Test.YtabflijfbjdpgaaDoorJr
import Derived.Test.YtabflijfbjdpgaaDoorJp
namespace Ic
open Go.Proofs.YtabflijfbjdpgaaDoor (heldB)
theorem any_of {l : List (Nat × Nat)} {c v d u : Nat} (hm : (d, u) ∈ l) (h : insB c v d u = true) : ((List.range l.length).all fun j => !insB c v (l.getD j (0, 0)).1 (l.getD j (0, 0)).2) = false := by
  obtain ⟨j, hj, e⟩ := List.getElem_of_mem hm
  apply all_bad hj
  rw [List.getD_eq_getElem?_getD, List.getElem?_eq_getElem hj, Option.getD_some, e, h]
  rfl
theorem ins_points {n c v d u : Nat} (hc : c < 2 ^ n) (hd : d < 2 ^ n) (hs : Sub v c) (ht : Sub u d) : insB c v d u = true ↔ ∀ k, k < 2 ^ n → inn c v k = true → inn d u k = true := by
  rw [← within_ins hc hd hs ht]
  unfold within
  rw [List.all_eq_true]
  constructor
  · intro h k hk hi
    have := h k (List.mem_range.2 hk)
    rw [hi] at this
    simpa using this
  · intro h k hk
    have := h k (List.mem_range.1 hk)
    cases hi : inn c v k
    · rfl
    · rw [this hi]; rfl
theorem held_of {n on fr c v : Nat} (hn : n ≤ 6) (ho : on < 2 ^ 64) (hf : fr < 2 ^ 64) (hc : c < 2 ^ n) (hs : Sub v c) (h : imp n on fr c v = true) : heldB n on (primesS n on fr) c v = true := by
  unfold Go.Proofs.YtabflijfbjdpgaaDoor.heldB
  by_cases h0 : tab n c v &&& on = 0
  · rw [h0]; rfl
  · obtain ⟨k, hk, h1, h2⟩ := tab_ne.1 h0
    obtain ⟨d, u, b1, b2, b3, -, b5⟩ := prime_over hn ho hf hk h2 c v hc hs h h1
    rw [any_of (primesS_mem.2 ⟨⟨b1, b2⟩, b3⟩) ((ins_points hc b1 hs b2).2 fun j _ hj => b5 j hj)]
    simp
theorem held_not {n on fr c v : Nat} (hn : n ≤ 6) (ho : on < 2 ^ 64) (hf : fr < 2 ^ 64) (hc : c < 2 ^ n) (hs : Sub v c) (h : imp n on fr c v = false) (hh : heldB n on (primesS n on fr) c v = true) : tab n c v &&& on = 0 := by
  apply Classical.byContradiction
  intro h0
  unfold Go.Proofs.YtabflijfbjdpgaaDoor.heldB at hh
  rw [show (tab n c v &&& on == 0) = false from beq_eq_false_iff_ne.2 h0, Bool.false_or, Bool.not_eq_true', ← Bool.not_eq_true, List.all_eq_true] at hh
  apply hh
  intro j hj
  rw [Bool.not_eq_true', ← Bool.not_eq_true]
  intro hi
  obtain ⟨⟨a1, a2⟩, a3⟩ := primesS_mem.1 (getD_mem (List.mem_range.1 hj))
  have h3 := (imp_iff hn ho hf).1 (prime_iff.1 a3).2.1
  have h4 := (ins_points hc a1 hs a2).1 hi
  rw [show imp n on fr c v = true from (imp_iff hn ho hf).2 fun k hk hki => h3 k hk (h4 k hk hki)] at h
  cases h
theorem cons_imp {n on fr c v d u : Nat} (hn : n ≤ 6) (ho : on < 2 ^ 64) (hf : fr < 2 ^ 64) (hc : c < 2 ^ n) (hd : d < 2 ^ n) (hs : Sub v c) (ht : Sub u d) (h1 : imp n on fr c v = true) (h2 : imp n on fr d u = true) (h : cnt (opp c v d u) = 1) : imp n on fr (consC c v d u) (consU c v d u) = true := by
  rw [imp_iff hn ho hf] at h1 h2 ⊢
  intro k hk hi
  have hu := cons_under hn hc hd hs ht h
  rw [sub_iff (Tt.w64 hn (tab_lt n _ _)) (Nat.or_lt_two_pow (Tt.w64 hn (tab_lt n c v)) (Tt.w64 hn (tab_lt n d u)))] at hu
  have := hu k (by rw [tab_in hk]; exact hi)
  rw [Nat.testBit_or, tab_in hk, tab_in hk, Bool.or_eq_true] at this
  rcases this with e | e
  · exact h1 k hk e
  · exact h2 k hk e
end Ic
