/- Lists of steps: what is written is read back, and what is read is written again: plain facts. -/
import Derived.Test.YtgpdfcljchieiaaDoorRU
namespace Sk
open Go
theorem no_tail {c : UInt8} {sep : List UInt8} (hs : c ∉ sep) : ∀ r : List (List UInt8), (∀ p ∈ r, c ∉ p) → c ∉ Lib.joinTail sep r
  | [], _ => by simp [Lib.joinTail]
  | y :: r, h => by
    have e : Lib.joinTail sep (y :: r) = sep ++ (y ++ Lib.joinTail sep r) := by simp [Lib.joinTail]
    rw [e]
    intro hm
    rcases List.mem_append.1 hm with hm | hm
    · exact hs hm
    · rcases List.mem_append.1 hm with hm | hm
      · exact h y (by simp) hm
      · exact no_tail hs r (fun p hp => h p (by simp [hp])) hm
theorem no_join {c : UInt8} {sep : List UInt8} (hs : c ∉ sep) : ∀ r : List (List UInt8), (∀ p ∈ r, c ∉ p) → c ∉ Lib.join r sep
  | [], _ => by rw [Lib.join_nil]; simp
  | y :: r, h => by
    rw [Lib.join_cons]
    intro hm
    rcases List.mem_append.1 hm with hm | hm
    · exact h y (by simp) hm
    · exact no_tail hs r (fun p hp => h p (by simp [hp])) hm
theorem no_stpT {x : Stp} (hc : chkP x.1 x.2 = 0) : (59 : UInt8) ∉ stpT x := by
  obtain ⟨hR, -, -⟩ := chkP_ok hc
  rw [stpT_join (by have := hR.pos; omega)]
  exact no_join (by decide) _ (no_wrd (.inr rfl) hR)
theorem tail_len (sep : List UInt8) (hs : 0 < sep.length) : ∀ r : List (List UInt8), r.length ≤ (Lib.joinTail sep r).length
  | [] => by simp
  | y :: r => by
    have e : Lib.joinTail sep (y :: r) = sep ++ (y ++ Lib.joinTail sep r) := by simp [Lib.joinTail]
    have := tail_len sep hs r
    rw [e]; simp; omega
theorem stpT_pos {x : Stp} (h : x.1.length ≠ 0) : 0 < (stpT x).length := by
  obtain ⟨l, n⟩ := x
  cases l with
  | nil => exact absurd rfl h
  | cons y l =>
    unfold stpT lnT
    rw [List.map_cons, Lib.join_cons, List.length_append, List.length_append]
    have : (strT y).length = 2 := rfl
    omega
theorem ro_steps : ∀ (S : List Stp) (ps : List (Int × List UInt8)) (L : List Stp), ps.map (·.2) = S.map stpT → (∀ x ∈ S, chkP x.1 x.2 = 0) → L.length + S.length ≤ 64 → ro ps L = (L ++ S, 0, 0)
  | [], ps, L, h, _, _ => by
    have : ps = [] := by simpa using h
    subst this
    rw [ro, List.append_nil]
  | x :: S, ps, L, h, hc, hl => by
    cases ps with
    | nil => simp at h
    | cons p r =>
      simp only [List.map_cons, List.cons.injEq] at h
      have hx := hc x (by simp)
      have hr : rdP p.2 = some x := by rw [h.1]; exact rdP_stpT hx
      rw [ro_on (by simp at hl; omega) hr hx, ro_steps S r (L ++ [x]) h.2 (fun y hy => hc y (by simp [hy])) (by simp at hl ⊢; omega), List.append_assoc]; rfl
/-- What is written is read back. -/
theorem par_fmt {L : List Stp} (hc : chkF L = 0) (hl : L.length ≤ 64) : parV (fmtT L) = (L, 0, 0) := by
  have hmem : ∀ x ∈ L, chkP x.1 x.2 = 0 := fun x hx => chkF_mem hc hx
  cases L with
  | nil => rfl
  | cons x S =>
    have hx := hmem x (by simp)
    obtain ⟨hR, -, -⟩ := chkP_ok hx
    have h1 := fmtT_len hc hl
    have hp : 0 < (stpT x).length := stpT_pos (by have := hR.pos; omega)
    have hj : fmtT (x :: S) = stpT x ++ Lib.joinTail [59, 32] (S.map stpT) := by unfold fmtT; rw [List.map_cons, Lib.join_cons]
    have h2 : (fmtT (x :: S)).length = (stpT x).length + (Lib.joinTail [59, 32] (S.map stpT)).length := by rw [hj, List.length_append]
    have h3 := tail_len [59, 32] (by decide) (S.map stpT)
    unfold parV
    rw [if_neg (by omega), if_neg (by omega)]
    have hcut : (prts (fmtT (x :: S)) [59, 32]).map (·.2) = (x :: S).map stpT := by
      unfold prts
      rw [List.map_cons]
      exact prt_join (fmtT (x :: S)) (S.map stpT) (stpT x) _ 0 (fun y hy => by
        rw [← List.map_cons] at hy
        obtain ⟨z, hz, rfl⟩ := List.mem_map.1 hy
        exact no_stpT (hmem z hz)) (by rw [List.drop_zero]; unfold fmtT; rw [List.map_cons]) (by omega)
    rw [ro_steps (x :: S) _ [] hcut hmem (by simpa using hl), List.nil_append]
theorem ro_back : ∀ (ps : List (Int × List UInt8)) (L M : List Stp) (k : Int), L.length ≤ 64 → ro ps L = (M, k, 0) → ∃ S, M = L ++ S ∧ ps.map (·.2) = S.map stpT ∧ (∀ x ∈ S, chkP x.1 x.2 = 0) ∧ M.length ≤ 64
  | [], L, M, k, hl, h => by
    rw [ro] at h
    cases h
    exact ⟨[], by simp, rfl, fun x hx => by simp at hx, hl⟩
  | p :: r, L, M, k, hl, h => by
    by_cases h64 : L.length = 64
    · rw [ro_many h64] at h
      simp at h
    · cases hr : rdP p.2 with
      | none => rw [ro_form h64 hr] at h; simp at h
      | some y =>
        by_cases hc : chkP y.1 y.2 = 0
        · rw [ro_on h64 hr hc] at h
          obtain ⟨S, h1, h2, h3, h4⟩ := ro_back r (L ++ [y]) M k (by simp; omega) h
          exact ⟨y :: S, by rw [h1, List.append_assoc]; rfl, by rw [List.map_cons, List.map_cons, h2, stpT_rdP hr hc], fun x hx => by
            rcases List.mem_cons.1 hx with rfl | hx
            · exact hc
            · exact h3 x hx, h4⟩
        · rw [ro_bad h64 hr hc] at h
          simp at h
          exact absurd h.2.2 hc
/-- What is read is written again. -/
theorem fmt_par {t : List UInt8} {M : List Stp} {k : Int} (h : parV t = (M, k, 0)) : fmtV M = (t, 0) := by
  unfold parV at h
  by_cases h1 : 4096 < t.length
  · rw [if_pos h1] at h; simp at h
  rw [if_neg h1] at h
  by_cases h2 : t.length = 0
  · rw [if_pos h2] at h
    have := List.eq_nil_of_length_eq_zero h2
    subst this
    cases h
    rfl
  rw [if_neg h2] at h
  obtain ⟨S, e1, e2, e3, e4⟩ := ro_back _ [] M k (by simp) h
  rw [List.nil_append] at e1
  subst e1
  have hch : chkF M = 0 := chkF_of (fun i hi => by
    have := e3 M[i] (List.getElem_mem hi)
    rw [List.getD_eq_getElem?_getD, List.getElem?_eq_getElem hi]
    exact this)
  have hj := join_prts t [59, 32] (by decide)
  rw [e2] at hj
  unfold fmtV
  rw [if_neg (by omega), if_pos hch]
  unfold fmtT
  rw [hj]
end Sk
