/- The reference's way of cutting and reading, as plain facts. -/
import Derived.Test.YtecfbncfhehdcaaDoorRX
import Derived.Test.YtecfbncfhehdcaaDoorRT
namespace Sk
open Go
theorem occ_drop (l sep : List UInt8) (a k : Nat) : Lib.occAt (l.drop a) sep k = Lib.occAt l sep (a + k) := by
  unfold Lib.occAt; rw [List.drop_drop]
theorem prt_hit {l sep : List UInt8} {f a i : Nat} (ha : a ≤ i) (hil : i ≤ l.length) (ho : Lib.occAt l sep i = true) (hno : ∀ j, a ≤ j → j < i → Lib.occAt l sep j = false) :
    prt l sep (f + 1) a = ((a : Int), (l.drop a).take (i - a)) :: prt l sep f (i + sep.length) := by
  have hi : Lib.index (l.drop a) sep = ((i - a : Nat) : Int) := Lib.index_first (by rw [List.length_drop]; omega) (by rw [occ_drop, show a + (i - a) = i by omega]; exact ho) (fun j hj => by rw [occ_drop]; exact hno _ (by omega) (by omega))
  have hc : Lib.cut (l.drop a) sep = ((l.drop a).take (i - a), (l.drop a).drop ((i - a) + sep.length), true) := by
    unfold Lib.cut
    rw [hi, if_pos (by omega), Int.toNat_natCast]
  have hlen : ((l.drop a).take (i - a)).length = i - a := by rw [List.length_take, List.length_drop]; omega
  rw [prt, hc]
  simp only [if_true]
  rw [hlen, show a + (i - a + sep.length) = i + sep.length by omega]
theorem prt_last {l sep : List UInt8} {f a : Nat} (hno : ∀ j, a ≤ j → j + sep.length ≤ l.length → Lib.occAt l sep j = false) (hs : 0 < sep.length) : prt l sep (f + 1) a = [((a : Int), l.drop a)] := by
  have hi : Lib.index (l.drop a) sep = -1 := Lib.index_none (fun j hj => by
    rw [occ_drop]
    by_cases h : a + j + sep.length ≤ l.length
    · exact hno _ (by omega) h
    · cases ho : Lib.occAt l sep (a + j) with
      | false => rfl
      | true =>
        exfalso
        rcases Lib.occAt_room ho with h' | h'
        · omega
        · subst h'; simp at hs)
  have hc : Lib.cut (l.drop a) sep = (l.drop a, [], false) := by unfold Lib.cut; rw [hi, if_neg (by decide)]
  rw [prt, hc]; simp
theorem occ_eq (l sep : List UInt8) (i : Nat) : Lib.occAt l sep i = decide ((l.drop i).take sep.length = sep) := by
  unfold Lib.occAt
  cases h : sep.isPrefixOf (l.drop i) with
  | true =>
    rw [List.isPrefixOf_iff_prefix] at h
    obtain ⟨t, ht⟩ := h
    rw [← ht]; simp
  | false =>
    symm
    rw [decide_eq_false_iff_not]
    intro e
    have : sep.isPrefixOf (l.drop i) = true := by
      rw [List.isPrefixOf_iff_prefix]
      exact ⟨(l.drop i).drop sep.length, by
        have h2 := List.take_append_drop sep.length (l.drop i)
        rw [e] at h2; exact h2⟩
    rw [this] at h; cases h
/-- The words of a step, as the reference reads them. -/
theorem runP_read {p : Int × List UInt8} {r : List (Int × List UInt8)} {L : List Str} {y : Str} (h : rdS p.2 = some y) : runP (p :: r) (L, 0) = runP r (L ++ [y], 0) := runP_on (stp1_str h)
theorem runP_bad {p : Int × List UInt8} {r : List (Int × List UInt8)} {L : List Str} (h : rdS p.2 = none) (h1 : (wtV p.2).2 = false ∨ L.length = 0 ∨ r ≠ []) : runP (p :: r) (L, 0) = none := by
  rcases h1 with h1 | h1 | h1
  · exact runP_stop (stp1_no h (.inl h1))
  · exact runP_stop (stp1_no h (.inr h1))
  · cases hw : (wtV p.2).2 with
    | false => exact runP_stop (stp1_no h (.inl hw))
    | true =>
      by_cases h0 : L.length = 0
      · exact runP_stop (stp1_no h (.inr h0))
      · rw [runP_on (stp1_num h hw h0)]
        obtain ⟨q, r', rfl⟩ := List.exists_cons_of_ne_nil h1
        exact runP_stop (stp1_wait ((wtV_bd p.2).2.2.1 hw) _)
theorem runP_end {p : Int × List UInt8} {L : List Str} (h : rdS p.2 = none) (h1 : (wtV p.2).2 = true) (h2 : L.length ≠ 0) : runP [p] (L, 0) = some (L, (wtV p.2).1) := by
  rw [runP_on (stp1_num h h1 h2)]; rfl
/-- What Step of the reference answers. -/
def stV (l : List UInt8) : Stp × Int := match rdP l with
  | none => (t0, 4)
  | some y => if chkP y.1 y.2 = 0 then (y, 0) else (t0, chkP y.1 y.2)
theorem ro_st {p : Int × List UInt8} {r : List (Int × List UInt8)} {L : List Stp} (h : L.length ≠ 64) : ro (p :: r) L = if (stV p.2).2 = 0 then ro r (L ++ [(stV p.2).1]) else ([], p.1, (stV p.2).2) := by
  unfold stV
  cases hr : rdP p.2 with
  | none => rw [ro_form h hr]; simp
  | some y =>
    simp only
    by_cases hc : chkP y.1 y.2 = 0
    · rw [ro_on h hr hc, if_pos hc]; simp
    · rw [ro_bad h hr hc, if_neg hc]; simp [hc]
/-- The offsets of parts. -/
def offs (k : Nat) : List (Int × List UInt8) → Nat → Prop
  | [], _ => True
  | p :: r, a => p.1 = (a : Int) ∧ offs k r (a + (p.2.length + k))
theorem offs_prt (l sep : List UInt8) : ∀ f a : Nat, offs sep.length (prt l sep f a) a
  | 0, _ => trivial
  | f + 1, a => by
    rw [prt]
    refine ⟨rfl, ?_⟩
    split
    · exact offs_prt l sep f _
    · trivial
theorem prt_pos (l sep : List UInt8) (f a : Nat) : 0 < (prt l sep (f + 1) a).length := by rw [prt]; simp
theorem prt_len (l sep : List UInt8) (hs : 0 < sep.length) : ∀ f a : Nat, a ≤ l.length → (prt l sep f a).length ≤ l.length + 1 - a
  | 0, a, h => by simp [prt]
  | f + 1, a, h => by
    rw [prt, List.length_cons]
    split
    · rename_i hc
      have h2 := cut_room hc
      rw [List.length_drop] at h2
      have := prt_len l sep hs f (a + ((Lib.cut (l.drop a) sep).1.length + sep.length)) (by omega)
      omega
    · simp; omega
theorem prt_sum (l sep : List UInt8) (hs : 0 < sep.length) : ∀ f a : Nat, a ≤ l.length → ∀ p ∈ prt l sep f a, p.2.length ≤ l.length
  | 0, a, h, p, hp => by simp [prt] at hp
  | f + 1, a, h, p, hp => by
    rw [prt, List.mem_cons] at hp
    rcases hp with rfl | hp
    · have := cut_le (l.drop a) sep
      rw [List.length_drop] at this
      simp only; omega
    · split at hp
      · rename_i hc
        have h2 := cut_room hc
        rw [List.length_drop] at h2
        exact prt_sum l sep hs f _ (by omega) p hp
      · simp at hp
end Sk
