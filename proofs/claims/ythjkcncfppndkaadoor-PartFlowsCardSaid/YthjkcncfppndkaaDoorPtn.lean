/- Ports and roles by the reference. -/
import Derived.Test.YthjkcncfppndkaaDoorPtm
import Derived.Test.YthjkcncfppndkaaDoorPtb
namespace Pt
def foldJ (o l : List ByteArray) : Nat → List ByteArray
  | 0 => o
  | j + 1 => putV (foldJ o l j) (l.getD j ⟨#[]⟩)
def allS (k : Nat) : Nat → List ByteArray
  | 0 => []
  | i + 1 => foldJ (allS k i) (namV (rport k i)) (namV (rport k i)).length
theorem all_few : ∀ k, k < 14 → ∀ i, i < 6 → (allS k i).length ≤ 20 ∧ (namV (rport k i)).length ≤ 20 ∧ (rport k i).size ≤ 100 := by decide +kernel
theorem foldJ_len (o l : List ByteArray) : ∀ j, (foldJ o l j).length ≤ o.length + j
  | 0 => Nat.le_refl _
  | j + 1 => by
    have h := foldJ_len o l j
    have := putV_len (foldJ o l j) (l.getD j ⟨#[]⟩)
    simp only [foldJ]
    omega
theorem names_flds : ∀ k, k < 14 → ∀ i, i < 5 → namV (rport k i) = flds ((cat k).port i) := by decide +kernel
/-- What Role returns: the first role. -/
def RoleF (r : Row) (s : ByteArray) (n : Nat) (e : Int) : Prop := (n < 5 ∧ s ∈ flds (r.port n) ∧ (∀ j, j < n → ¬ s ∈ flds (r.port j)) ∧ e = 0) ∨ (n = 0 ∧ e = 6 ∧ ∀ j, j < 5 → ¬ s ∈ flds (r.port j))
theorem role_one {r : Row} {s : ByteArray} {n m : Nat} {e f : Int} (h : RoleF r s n e) (g : RoleF r s m f) : n = m ∧ e = f := by
  rcases h with ⟨h1, h2, h3, rfl⟩ | ⟨rfl, rfl, h3⟩ <;> rcases g with ⟨g1, g2, g3, rfl⟩ | ⟨rfl, rfl, g3⟩
  · refine ⟨?_, rfl⟩
    rcases Nat.lt_trichotomy n m with h | h | h
    · exact absurd h2 (g3 n h)
    · exact h
    · exact absurd g2 (h3 m h)
  · exact absurd h2 (g3 n h1)
  · exact absurd g2 (h3 m g1)
  · exact ⟨rfl, rfl⟩
end Pt
namespace Go.Proofs.YthjkcncfppndkaaDoor
open Go.RowKit
set_option maxHeartbeats 4000000 in
set_option maxRecDepth 100000 in
theorem rAll_any (k : Nat) (hk : k < 14) (w : World) : Calls Tryd.prog 46 #[.int .i64 (k : Int)] w fun e w' => ∃ v, e = .returned v ∧ SeeS w' v (Pt.allS k 5) ∧ Below w.heap.size w w' := by
  have zk : (k : Int) < 14 := by omega
  have HK := Lib.hid hk
  have CN := fun (i : Nat) W (hi : i < 5) => Lib.hid (names_all (Pt.rport k i) W (Pt.all_few k hk i (by omega)).2.2)
  have CP := fun v l x W (h : SeeS W v l) (hl : l.length ≤ 1000) => Lib.hid (put_any v l x W h hl)
  have HFew := Lib.hid (fun (i : Nat) (hi : i < 6) => Pt.all_few k hk i hi)
  clear hk
  go_enter Tryd.func46, Tryd.ntmps46
  go_wp2
  go_loopw [3, 4] (fun s3 s4 wr => ∃ i : Nat, i ≤ 5 ∧ s4 = .int .i64 (i : Int) ∧ Hid (SeeS wr s3 (Pt.allS k i)) ∧ Hid (Below w.heap.size w wr)) (fun _ s4 _ => 5 - (intOf s4).toNat)
  case atStart => exact ⟨0, by omega, rfl, Lib.hid (SeeS.nil _), Lib.hid (Below.refl _ _)⟩
  case round =>
    obtain ⟨i, hi, rfl, HS, HB⟩ := hrel
    by_cases hil : i < 5
    · have zi : (i : Int) < 5 := by omega
      have b0 : k * 7 + 2 + i = 7 * k + (2 + i) := by omega
      go_wp2_with fail
      refine (rRows_any wr).mono ?_
      rintro e w2 ⟨g, rfl, ⟨hg, hc⟩, hb⟩
      have c0 := hc k HK.out (2 + i) (by omega)
      rw [show (Pt.rowsL k)[2 + i]? = some (.string (Pt.rport k i)) by
        have h : i = 0 ∨ i = 1 ∨ i = 2 ∨ i = 3 ∨ i = 4 := by omega
        rcases h with rfl | rfl | rfl | rfl | rfl <;> rfl] at c0
      have HS2 := Lib.hid (HS.out.step hb)
      have HB2 := Lib.hid (HB.out.trans (hb.mono HB.out.size))
      clear hb hc
      go_wp2_with fail
      refine (CN i w2 hil).out.mono ?_
      rintro e w3 ⟨v, rfl, hs, hb3⟩
      obtain ⟨va, vc, rfl, -, -⟩ := hs.at
      have HN := Lib.hid hs
      have HS3 := Lib.hid (HS2.out.step hb3)
      have HB3 := Lib.hid (HB2.out.trans (hb3.mono HB2.out.size))
      have HLn := Lib.hid (HFew.out i (by omega))
      have HE := Lib.hid (show Pt.allS k (i + 1) = Pt.foldJ (Pt.allS k i) (Pt.namV (Pt.rport k i)) (Pt.namV (Pt.rport k i)).length from rfl)
      clear hs hb3 HS2 HB2 c0 hg b0
      generalize Pt.namV (Pt.rport k i) = l at *
      generalize Pt.allS k i = o at *
      go_wp2
      go_loopw [3, 6] (fun s3 s6 wr => ∃ j : Nat, j ≤ l.length ∧ s6 = .int .i64 (j : Int) ∧ Hid (SeeS wr s3 (Pt.foldJ o l j)) ∧ Hid (Below w3.heap.size w3 wr)) (fun _ s6 _ => l.length - (intOf s6).toNat)
      case atStart => exact ⟨0, Nat.zero_le _, rfl, HS3, Lib.hid (Below.refl _ _)⟩
      case round =>
        obtain ⟨j, hj, rfl, HO, HBW⟩ := hrel
        have zl : (l.length : Int) ≤ 20 := by have := HLn.out.2.1; omega
        by_cases hjl : j < l.length
        · have zj : (j : Int) < (l.length : Int) := by omega
          obtain ⟨a2, c2, he, -, hc⟩ := (HN.out.step HBW.out).at
          simp only [Value.slice.injEq] at he
          obtain ⟨rfl, -, rfl⟩ := he
          obtain ⟨g3, off3, rfl, c3⟩ := hc j hjl
          have HJ := Lib.hid hjl
          have HE2 := Lib.hid (show Pt.foldJ o l (j + 1) = Pt.putV (Pt.foldJ o l j) (l.getD j ⟨#[]⟩) from rfl)
          have HLo := Lib.hid (show (Pt.foldJ o l j).length ≤ 1000 by have := Pt.foldJ_len o l j; have := HLn.out; omega)
          clear hc
          generalize l.getD j ⟨#[]⟩ = x at *
          go_wp2_with fail
          refine (CP _ _ x _ HO.out HLo.out).out.mono ?_
          rintro e w4 ⟨v4, rfl, h4, hb4⟩
          have HO4 := Lib.hid h4.sees
          have HBW4 := Lib.hid (HBW.out.trans (hb4.mono HBW.out.size))
          clear h4 hb4 c3
          go_wp2
          exact ⟨⟨j + 1, by have := HJ.out; omega, by first | rfl | go_num, Lib.hid (by rw [HE2.out]; exact HO4.out), HBW4⟩, by have := HJ.out; simp [intOf]; omega⟩
        · obtain rfl : j = l.length := by omega
          have HB5 := Lib.hid (HB3.out.trans (HBW.out.mono HB3.out.size))
          go_wp2
          exact ⟨⟨i + 1, by omega, by first | rfl | go_num, Lib.hid (by rw [HE.out]; exact HO.out), HB5⟩, by simp [intOf]; omega⟩
    · obtain rfl : i = 5 := by omega
      go_wp2
      go_ret
      exact ⟨_, rfl, HS.out, HB.out⟩
set_option maxHeartbeats 4000000 in
set_option maxRecDepth 100000 in
theorem rHas_any (v : Value) (l : List ByteArray) (s : ByteArray) (w : World) (hv : SeeS w v l) : Calls Tryd.prog 73 #[v, .string s] w fun e w' => ∃ b : Bool, e = .returned (.bool b) ∧ (b = true ↔ s ∈ l) ∧ w' = w := by
  obtain ⟨a, c, rfl, hl, hc⟩ := hv.at
  have HC := Lib.hid hc
  clear hc hv
  go_enter Tryd.func73, Tryd.ntmps73
  go_wp2
  go_loopw [5] (fun s5 wr => ∃ i : Nat, i ≤ l.length ∧ s5 = .int .i64 (i : Int) ∧ wr = w ∧ Hid (∀ j, j < i → l.getD j ⟨#[]⟩ ≠ s)) (fun s5 _ => l.length - (intOf s5).toNat)
  case atStart => exact ⟨0, Nat.zero_le _, rfl, rfl, Lib.hid (fun j h => by omega)⟩
  case round =>
    obtain ⟨i, hi, rfl, rfl, HJ⟩ := hrel
    by_cases hil : i < l.length
    · have zi : (i : Int) < (l.length : Int) := by omega
      obtain ⟨g, off, rfl, c0⟩ := HC.out i hil
      have HX := Lib.hid (show l.getD i ⟨#[]⟩ ∈ l by rw [List.getD_eq_getElem?_getD, List.getElem?_eq_getElem hil]; exact List.getElem_mem hil)
      have HJ2 := Lib.hid (fun (h : l.getD i ⟨#[]⟩ ≠ s) j (hj : j < i + 1) => show l.getD j ⟨#[]⟩ ≠ s by
        by_cases e2 : j = i
        · rw [e2]; exact h
        · exact HJ.out j (by omega))
      generalize l.getD i ⟨#[]⟩ = x at *
      by_cases e : x = s
      · subst e
        go_wp2
        go_ret
        exact ⟨true, rfl, ⟨fun _ => HX.out, fun _ => rfl⟩, rfl⟩
      · obtain ⟨n1, n2⟩ := txt_ne e
        have HJ3 := Lib.hid (HJ2.out e)
        clear e HJ2
        go_wp2
        exact ⟨⟨i + 1, by omega, by first | rfl | go_num, by trivial, HJ3⟩, by simp [intOf]; omega⟩
    · obtain rfl : i = l.length := by omega
      have hno : ¬ s ∈ l := by
        intro h
        obtain ⟨j, hj, hx⟩ := List.mem_iff_getElem.1 h
        have := HJ.out j hj
        rw [List.getD_eq_getElem?_getD, List.getElem?_eq_getElem hj] at this
        exact absurd hx this
      have HM := Lib.hid (show (false = true ↔ s ∈ l) from ⟨fun h => (by cases h), fun h => absurd h hno⟩)
      clear hno
      go_wp2
      go_ret
      exact ⟨false, rfl, HM.out, rfl⟩
end Go.Proofs.YthjkcncfppndkaaDoor
