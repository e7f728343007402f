/- readStroke of package stroke. -/
import Derived.Test.YtecfbncfhehdcaaDoorQL
import Derived.Laws.IdiomStrings
import Derived.Laws.RangeString
import Derived.Laws.RangeAny
import Derived.BigRegion
namespace Sk
open Go
/-- The stroke with a text, if there is one. -/
def rdS : List UInt8 → Option Str
  | [a, b] => if 65 ≤ a.toNat ∧ a.toNat < 71 ∧ (b = 43 ∨ b = 45) then some ((a.toNat : Int) - 65, b == 43) else none
  | _ => none
theorem runes_size (s : ByteArray) : ∀ (bound i : Nat) (acc : Array Value), acc.size ≤ (Conv.runesFrom s bound i acc).size
  | 0, _, acc => Nat.le_refl _
  | bound + 1, i, acc => by
    unfold Conv.runesFrom
    split
    · have := runes_size s bound (i + (Utf8.decode s i).2) (acc.push (.int .i32 (Int.ofNat (Utf8.decode s i).1)))
      simp at this
      exact Nat.le_trans (by omega) this
    · exact Nat.le_refl _
theorem runes_pos {s : ByteArray} {bound i : Nat} {acc : Array Value} (hi : i < s.size) : acc.size + 1 ≤ (Conv.runesFrom s (bound + 1) i acc).size := by
  unfold Conv.runesFrom
  rw [if_pos hi]
  have := runes_size s bound (i + (Utf8.decode s i).2) (acc.push (.int .i32 (Int.ofNat (Utf8.decode s i).1)))
  simpa using this
theorem runes_step {s : ByteArray} {bound i : Nat} {acc : Array Value} (hi : i < s.size) : Conv.runesFrom s (bound + 1) i acc = Conv.runesFrom s bound (i + (Utf8.decode s i).2) (acc.push (.int .i32 (Int.ofNat (Utf8.decode s i).1))) := by
  conv => lhs; unfold Conv.runesFrom
  rw [if_pos hi]
theorem runes_pre (s : ByteArray) : ∀ (bound i : Nat) (acc : Array Value) (j : Nat), j < acc.size → (Conv.runesFrom s bound i acc)[j]? = acc[j]?
  | 0, _, acc, _, _ => rfl
  | bound + 1, i, acc, j, hj => by
    by_cases hi : i < s.size
    · rw [runes_step hi, runes_pre s bound _ _ j (by simp; omega), Array.getElem?_push_lt hj, Array.getElem?_eq_getElem hj]
    · unfold Conv.runesFrom; rw [if_neg hi]
theorem decode_asc {s : ByteArray} {i : Nat} (hi : i < s.size) (h : (Utf8.decode s i).1 < 128) : (Utf8.decode s i).1 = (s[i]'hi).toNat ∧ (Utf8.decode s i).2 = 1 := by
  by_cases ha : (s[i]'hi).toNat < 128
  · rw [decode_ascii s i hi ha]; exact ⟨rfl, rfl⟩
  · have := (decode_high s i hi (by omega)).1; omega
theorem runes_ge (s : ByteArray) : ∀ (bound i : Nat) (acc : Array Value), (∀ (j : Nat) (v : Value), acc[j]? = some v → ∃ r : Nat, v = Value.int .i32 (r : Int) ∧ r ≤ 2147483647) → ∀ (j : Nat) (v : Value), (Conv.runesFrom s bound i acc)[j]? = some v → ∃ r : Nat, v = Value.int .i32 (r : Int) ∧ r ≤ 2147483647
  | 0, _, acc, h, j, v, hj => h j v hj
  | bound + 1, i, acc, h, j, v, hj => by
    by_cases hi : i < s.size
    · rw [runes_step hi] at hj
      refine runes_ge s bound _ _ (fun j' v' hv => ?_) j v hj
      by_cases hl : j' < acc.size
      · rw [Array.getElem?_push_lt hl] at hv
        exact h j' v' (by rw [Array.getElem?_eq_getElem hl]; exact hv)
      · by_cases he : j' = acc.size
        · subst he
          rw [Array.getElem?_push_size] at hv
          exact ⟨(Utf8.decode s i).1, by simpa using hv.symm, decode_le s i⟩
        · rw [Array.getElem?_eq_none (by simp; omega)] at hv; cases hv
    · unfold Conv.runesFrom at hj; rw [if_neg hi] at hj; exact h j v hj
/-- Two runes of which both are ASCII are two bytes. -/
theorem runes_two {s : ByteArray} {r0 r1 : Nat} (hz : (Conv.runesFrom s s.size 0 #[]).size = 2) (h0 : (Conv.runesFrom s s.size 0 #[])[0]? = some (.int .i32 (r0 : Int))) (h1 : (Conv.runesFrom s s.size 0 #[])[1]? = some (.int .i32 (r1 : Int))) (k0 : r0 < 128) (k1 : r1 < 128) :
    s.data.toList = [r0.toUInt8, r1.toUInt8] := by
  have hs0 : 0 < s.size := by
    refine Nat.pos_of_ne_zero fun h => ?_
    rw [h] at hz
    simp [Conv.runesFrom] at hz
  obtain ⟨n, hn⟩ : ∃ n, s.size = n + 1 := ⟨s.size - 1, by omega⟩
  rw [hn, runes_step hs0] at hz h0 h1
  rw [runes_pre s _ _ _ 0 (by simp)] at h0
  have e0 : (Utf8.decode s 0).1 = r0 := by
    have h9 : (((Utf8.decode s 0).1 : Nat) : Int) = (r0 : Int) := by simpa using h0
    omega
  obtain ⟨d0, w0⟩ := decode_asc hs0 (by omega)
  rw [w0, Nat.zero_add] at hz h1
  have hs1 : 1 < s.size := by
    refine Nat.lt_of_not_le fun h => ?_
    have : n = 0 := by omega
    subst this
    simp [Conv.runesFrom] at hz
  obtain ⟨m, hm⟩ : ∃ m, n = m + 1 := ⟨n - 1, by omega⟩
  rw [hm, runes_step hs1] at hz h1
  rw [runes_pre s _ _ _ 1 (by simp)] at h1
  have e1 : (Utf8.decode s 1).1 = r1 := by
    have h9 : (((Utf8.decode s 1).1 : Nat) : Int) = (r1 : Int) := by simpa using h1
    omega
  obtain ⟨d1, w1⟩ := decode_asc hs1 (by omega)
  rw [w1] at hz
  have hs2 : s.size = 2 := by
    by_cases h : 2 < s.size
    · obtain ⟨q, hq⟩ : ∃ q, m = q + 1 := ⟨m - 1, by omega⟩
      rw [hq] at hz
      have := runes_pos (s := s) (bound := q) (i := 1 + 1) (acc := (#[].push (.int .i32 (Int.ofNat (Utf8.decode s 0).1))).push (.int .i32 (Int.ofNat (Utf8.decode s 1).1))) (by omega)
      simp at this
      simp at hz
      omega
    · omega
  apply List.ext_getElem
  · rw [Array.length_toList]; exact hs2
  · intro j hj1 hj2
    have hj3 : j < 2 := hj2
    rcases (show j = 0 ∨ j = 1 by omega) with rfl | rfl
    · show s[0] = _
      rw [List.getElem_cons_zero, ← e0, d0]; simp
    · show s[1] = _
      rw [List.getElem_cons_succ, List.getElem_cons_zero, ← e1, d1]; simp
/-- Two bytes that are ASCII are two runes. -/
theorem runes_of_two {s : ByteArray} {a b : UInt8} (h : s.data.toList = [a, b]) (ha : a.toNat < 128) (hb : b.toNat < 128) : Conv.runesFrom s s.size 0 #[] = #[.int .i32 (a.toNat : Int), .int .i32 (b.toNat : Int)] := by
  have hs : s.size = 2 := by
    have h9 := congrArg List.length h
    rw [Array.length_toList] at h9
    exact h9
  have e0 : s[0]'(by omega) = a := (List.getElem_of_eq h (show 0 < s.data.toList.length by rw [h]; exact Nat.zero_lt_succ _)).trans rfl
  have e1 : s[1]'(by omega) = b := (List.getElem_of_eq h (show 1 < s.data.toList.length by rw [h]; exact Nat.lt_succ_self _)).trans rfl
  have d0 := decode_ascii s 0 (by omega) (by rw [e0]; exact ha)
  have d1 := decode_ascii s 1 (by omega) (by rw [e1]; exact hb)
  rw [e0] at d0
  rw [e1] at d1
  rw [hs, runes_step (by omega), d0]
  simp only [Nat.zero_add]
  rw [runes_step (by omega), d1]
  simp [Conv.runesFrom]
end Sk

