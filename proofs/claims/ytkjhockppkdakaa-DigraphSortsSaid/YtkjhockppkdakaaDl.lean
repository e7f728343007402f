/- nearest and descend of package digraph. -/
import Derived.Test.YtkjhockppkdakaaDk
namespace Dg
/-- One more vertex for nearest. -/
def nst (ls : List Int) (s : Int × Bool) (v : Int) : Int × Bool := if ls.getD v.toNat 0 ≠ -1 ∧ (s.2 = false ∨ ls.getD v.toNat 0 < ls.getD s.1.toNat 0) then (v, true) else s
def near (ls vs : List Int) : Int × Bool := vs.foldl (nst ls) (0, false)
theorem near_at {ls vs : List Int} {j : Nat} (h : j < vs.length) : near ls (vs.take (j + 1)) = nst ls (near ls (vs.take j)) (vs.getD j 0) := by
  unfold near; rw [take_at 0 h, List.foldl_append]; rfl
/-- What nearest has found so far. -/
structure Nr (ls vs : List Int) (s : Int × Bool) : Prop where
  none : s.2 = false → ∀ v ∈ vs, ls.getD v.toNat 0 = -1
  mem : s.2 = true → s.1 ∈ vs ∧ ls.getD s.1.toNat 0 ≠ -1
  least : s.2 = true → ∀ v ∈ vs, ls.getD v.toNat 0 ≠ -1 → ls.getD s.1.toNat 0 ≤ ls.getD v.toNat 0
theorem near_nr (ls vs : List Int) : ∀ j, j ≤ vs.length → Nr ls (vs.take j) (near ls (vs.take j))
  | 0, _ => ⟨fun _ v hv => (by simp at hv), fun h => (by cases h), fun h => (by cases h)⟩
  | j + 1, h => by
    have ih := near_nr ls vs j (by omega)
    rw [near_at (by omega), take_at 0 (by omega)]
    generalize near ls (vs.take j) = s at *
    generalize vs.getD j 0 = x
    unfold nst
    by_cases hc : ls.getD x.toNat 0 ≠ -1 ∧ (s.2 = false ∨ ls.getD x.toNat 0 < ls.getD s.1.toNat 0)
    · rw [if_pos hc]
      refine ⟨fun h => (by cases h), fun _ => ⟨by simp, hc.1⟩, fun _ v hv hv2 => ?_⟩
      rcases List.mem_append.1 hv with hv | hv
      · cases hs : s.2
        · exact absurd (ih.none hs v hv) hv2
        · have h1 := ih.least hs v hv hv2
          rcases hc.2 with h2 | h2
          · rw [hs] at h2; cases h2
          · exact Int.le_trans (Int.le_of_lt h2) h1
      · rw [List.mem_singleton.1 hv]; exact Int.le_refl _
    · rw [if_neg hc]
      refine ⟨fun hs v hv => ?_, fun hs => ⟨List.mem_append_left _ (ih.mem hs).1, (ih.mem hs).2⟩, fun hs v hv hv2 => ?_⟩
      · rcases List.mem_append.1 hv with hv | hv
        · exact ih.none hs v hv
        · rw [List.mem_singleton.1 hv]
          exact Classical.byContradiction fun h2 => hc ⟨h2, .inl hs⟩
      · rcases List.mem_append.1 hv with hv | hv
        · exact ih.least hs v hv hv2
        · rw [List.mem_singleton.1 hv] at hv2 ⊢
          have : ¬ ls.getD x.toNat 0 < ls.getD s.1.toNat 0 := fun h2 => hc ⟨hv2, .inr h2⟩
          omega
/-- In an ascending list nearest finds the first one. -/
theorem near_first (ls vs : List Int) (hp : vs.Pairwise (· ≤ ·)) : ∀ j, j ≤ vs.length → (near ls (vs.take j)).2 = true → ∀ v ∈ vs.take j, ls.getD v.toNat 0 = ls.getD (near ls (vs.take j)).1.toNat 0 → (near ls (vs.take j)).1 ≤ v
  | 0, _, h, _, _, _ => by simp [near] at h
  | j + 1, h, hs, v, hv, he => by
    have ih := near_first ls vs hp j (by omega)
    have hn := near_nr ls vs j (by omega)
    have hle : ∀ u ∈ vs.take j, u ≤ vs.getD j 0 := fun u hu => by
      have h2 : (vs.take (j + 1)).Pairwise (· ≤ ·) := hp.sublist (List.take_sublist _ _)
      rw [take_at 0 (by omega), List.pairwise_append] at h2
      exact h2.2.2 u hu _ (by simp)
    rw [near_at (by omega)] at hs he ⊢
    rw [take_at 0 (by omega)] at hv
    generalize near ls (vs.take j) = s at *
    generalize vs.getD j 0 = x at *
    unfold nst at hs he ⊢
    by_cases hc : ls.getD x.toNat 0 ≠ -1 ∧ (s.2 = false ∨ ls.getD x.toNat 0 < ls.getD s.1.toNat 0)
    · rw [if_pos hc] at he ⊢
      rcases List.mem_append.1 hv with hv | hv
      · exfalso
        simp only at he
        cases hss : s.2
        · have := hn.none hss v hv; rw [this] at he; exact hc.1 he.symm
        · have h1 := hn.least hss v hv (by rw [he]; exact hc.1)
          rcases hc.2 with h2 | h2
          · rw [hss] at h2; cases h2
          · omega
      · rw [List.mem_singleton.1 hv]; exact Int.le_refl _
    · rw [if_neg hc] at hs he ⊢
      rcases List.mem_append.1 hv with hv | hv
      · exact ih hs v hv he
      · rw [List.mem_singleton.1 hv]
        exact hle _ (hn.mem hs).1
end Dg
namespace Go.Proofs.Ytkjhockppkdakaa
open Go.RowKit Go.Shelf

set_option maxHeartbeats 4000000 in
set_option maxRecDepth 100000 in
theorem dNear_any (n : Nat) (vs ls : List Int) (v lv : Value) (w : World) (_ : n ≤ 256) (hvs : ∀ x ∈ vs, ∃ u : Nat, x = u ∧ u < n) (hls : ls.length = n) (hg : ∀ u, u < n → -1 ≤ ls.getD u 0) (h1 : SeesI w v vs) (h2 : SeesI w lv ls) :
    Calls Try.prog 53 #[v, lv] w fun e w' => e = .returned (.tuple #[.int .i64 (Dg.near ls vs).1, .bool (Dg.near ls vs).2]) ∧ Below w.heap.size w w' := by
  have HN := Lib.hid (Dg.near_nr ls vs)
  obtain ⟨av, cv, rfl, hv1, hv2, hCv⟩ := h1.opened
  obtain ⟨al, cl, rfl, hl1, hl2, hCl⟩ := h2.opened
  have HLS := Lib.hid hls
  have HV := Lib.hid (fun j (hj : j < vs.length) => hvs _ (Dg.getD_mem (d := 0) hj))
  have HA := Lib.hid (fun j (hj : j < vs.length) => Dg.near_at (ls := ls) hj)
  have H0 : Hid (Dg.near ls (vs.take 0) = (0, false)) := Lib.hid rfl
  have HG := Lib.hid hg
  rw [hls] at hl1 ⊢
  clear h1 h2 hls hvs hg
  go_enter Try.func53, Try.ntmps53
  go_wp2
  go_loopw [6, 7, 12] (fun s6 s7 s12 wr => ∃ j : Nat, j ≤ vs.length ∧ s12 = .int .i64 j ∧ s6 = .int .i64 (Dg.near ls (vs.take j)).1 ∧ s7 = .bool (Dg.near ls (vs.take j)).2 ∧ Hid (Below w.heap.size w wr)) (fun _ _ s12 _ => vs.length - (intOf s12).toNat)
  case atStart => exact ⟨0, Nat.zero_le _, rfl, by rw [H0.out], by rw [H0.out], Lib.hid (Below.refl _ _)⟩
  case round =>
    obtain ⟨j, hj, rfl, rfl, rfl, HB⟩ := hrel
    by_cases hjl : j < vs.length
    · obtain ⟨b, off, rfl, hb, c1⟩ := hCv.at HB.out hjl
      obtain ⟨u, hu, hun⟩ := HV.out j hjl
      have HAj := Lib.hid (HA.out j hjl)
      have hNr := HN.out j hj
      have hbest : (Dg.near ls (vs.take j)).2 = true → ∃ p : Nat, (Dg.near ls (vs.take j)).1 = p ∧ p < n := fun h => by
        have hm := (hNr.mem h).1
        obtain ⟨i, hi, he⟩ := Dg.mem_getD 0 (List.mem_of_mem_take hm)
        obtain ⟨p, hp, hpn⟩ := HV.out i hi
        exact ⟨p, by rw [← he, hp], hpn⟩
      rw [hu] at c1
      have HU := Lib.hid hu
      rw [HU.out] at HAj
      have hgu := HG.out u hun
      obtain ⟨bl, ol, rfl, hbl, l1⟩ := hCl.at HB.out (i := u) (by rw [HLS.out]; exact hun)
      have HLA := Lib.hid (fun p (hp : p < n) => (hCl.at HB.out (i := p) (by rw [HLS.out]; exact hp)))
      clear hu HN HA HV hCv
      generalize Dg.near ls (vs.take j) = st at *
      obtain ⟨bst, fnd⟩ := st
      simp only at hbest
      by_cases e1 : ls.getD u 0 = -1
      · have HF : Hid (Dg.near ls (vs.take (j + 1)) = (bst, fnd)) := Lib.hid (by rw [HAj.out]; unfold Dg.nst; rw [Int.toNat_natCast, if_neg (fun h => h.1 e1)])
        rw [e1] at l1
        clear HAj e1 hgu hNr hbest
        go_wp2
        go_quiet (fail)
        go_wp2
        exact ⟨⟨j + 1, by omega, by first | rfl | go_num, by rw [HF.out], by rw [HF.out], Lib.hid (HB.out.trans (below_drewN wr _))⟩, by simp [intOf]; omega⟩
      · have HE1 := Lib.hid e1
        have hne : (ls.getD u 0 != -1) = true := by simp only [bne_iff_ne, ne_eq]; exact e1
        cases fnd
        · have HF : Hid (Dg.near ls (vs.take (j + 1)) = ((u : Int), true)) := Lib.hid (by rw [HAj.out]; unfold Dg.nst; rw [Int.toNat_natCast, if_pos ⟨HE1.out, .inl rfl⟩])
          clear HAj hgu hNr hbest
          generalize ls.getD u 0 = lu at *
          go_wp2
          go_quiet (fail)
          go_wp2
          exact ⟨⟨j + 1, by omega, by first | rfl | go_num, by rw [HF.out], by rw [HF.out], Lib.hid (HB.out.trans (below_drewN wr _))⟩, by simp [intOf]; omega⟩
        · obtain ⟨p, rfl, hpn⟩ := hbest rfl
          obtain ⟨bl', ol', he, -, l2⟩ := HLA.out p hpn
          simp only [Option.some.injEq, Addr.mk.injEq, and_true] at he
          obtain ⟨rfl, rfl⟩ := he
          by_cases e2 : ls.getD u 0 < ls.getD p 0
          · have HF : Hid (Dg.near ls (vs.take (j + 1)) = ((u : Int), true)) := Lib.hid (by rw [HAj.out]; unfold Dg.nst; rw [Int.toNat_natCast, if_pos ⟨HE1.out, .inr (by rw [Int.toNat_natCast]; exact e2)⟩])
            clear HAj hgu hNr hbest
            generalize ls.getD u 0 = lu at *
            generalize ls.getD p 0 = lp at *
            go_wp2
            go_quiet (fail)
            go_wp2
            exact ⟨⟨j + 1, by omega, by first | rfl | go_num, by rw [HF.out], by rw [HF.out], Lib.hid (HB.out.trans (below_drewN wr _))⟩, by simp [intOf]; omega⟩
          · have HF : Hid (Dg.near ls (vs.take (j + 1)) = ((p : Int), true)) := Lib.hid (by rw [HAj.out]; unfold Dg.nst; rw [Int.toNat_natCast, if_neg (fun h => by rcases h.2 with h | h; cases h; rw [Int.toNat_natCast] at h; exact e2 h)])
            clear HAj hgu hNr hbest
            generalize ls.getD u 0 = lu at *
            generalize ls.getD p 0 = lp at *
            go_wp2
            go_quiet (fail)
            go_wp2
            exact ⟨⟨j + 1, by omega, by first | rfl | go_num, by rw [HF.out], by rw [HF.out], Lib.hid (HB.out.trans (below_drewN wr _))⟩, by simp [intOf]; omega⟩
    · obtain rfl : j = vs.length := by omega
      rw [List.take_length]
      go_wp2
      exact bodyPost_ret (v := .tuple #[.int .i64 (Dg.near ls vs).1, .bool (Dg.near ls vs).2]) (by simp [results, Try.results53, go_sem]) rfl ⟨rfl, HB.out⟩
end Go.Proofs.Ytkjhockppkdakaa
