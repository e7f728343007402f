/- Decimal digits of a number, written from its place values. Plain; no program. -/
import Derived.Test.YtfphnoihkcnleaaGreatDoorRatio
namespace Fr
open Limb

theorem val_digits (n : Nat) : ∀ N, val 10 ((List.range N).map fun t => n / 10 ^ t % 10) = n % 10 ^ N
  | 0 => by simp [Nat.mod_one]
  | N + 1 => by
    rw [List.range_succ, List.map_append, val_append, val_digits n N, List.length_map, List.length_range, List.map_cons, List.map_nil, val_cons, val_nil, Nat.mul_zero, Nat.add_zero, Nat.mod_pow_succ]

theorem dv_app (x y : List UInt8) : dv (x ++ y) = dv x * 10 ^ y.length + dv y := by
  unfold dv
  rw [List.reverse_append, List.map_append, val_append, List.length_map, List.length_reverse, Nat.add_comm, Nat.mul_comm]

theorem dv_zeros : ∀ (l : List UInt8), (∀ c ∈ l, c = 48) → dv l = 0
  | [], _ => rfl
  | c :: l, h => by
    have h1 : c = 48 := h c (by simp)
    subst h1
    have h2 := dv_app [48] l
    rw [List.singleton_append] at h2
    rw [h2, dv_zeros l (fun c hc => h c (by simp [hc]))]
    show 0 * _ + 0 = 0
    simp

theorem takeWhile_all {p : UInt8 → Bool} : ∀ (l : List UInt8), ∀ c ∈ l.takeWhile p, p c = true
  | [], c, h => by simp at h
  | x :: l, c, h => by
    rw [List.takeWhile_cons] at h
    split at h
    · rename_i hp
      rcases List.mem_cons.1 h with h1 | h1
      · rw [h1]; exact hp
      · exact takeWhile_all l c h1
    · simp at h
theorem dropWhile_head {p : UInt8 → Bool} : ∀ (l : List UInt8) (c : UInt8), (l.dropWhile p).head? = some c → p c = false
  | [], c, h => by simp at h
  | x :: l, c, h => by
    rw [List.dropWhile_cons] at h
    split at h
    · exact dropWhile_head l c h
    · rename_i hp
      rw [List.head?_cons] at h
      rw [← Option.some.inj h]
      simpa using hp

theorem strip_render {S : List UInt8} {n : Nat} (hd : S.all isDig = true) (hv : dv S = n) (hn : 0 < n) : S.dropWhile (· == 48) = render n := by
  have h1 : S.takeWhile (· == 48) ++ S.dropWhile (· == 48) = S := List.takeWhile_append_dropWhile
  have h2 : dv (S.takeWhile (· == 48)) = 0 := dv_zeros _ (fun c hc => by simpa using takeWhile_all S c hc)
  have h3 : dv (S.dropWhile (· == 48)) = n := by
    rw [← h1, dv_app, h2] at hv
    omega
  have h4 : (S.dropWhile (· == 48)).all isDig = true := by
    rw [List.all_eq_true] at hd ⊢
    exact fun c hc => hd c ((List.dropWhile_sublist _).subset hc)
  rw [← h3]
  refine (render_dv h4 ?_ ?_).symm
  · intro h; rw [h] at h3; have : dv [] = 0 := rfl; omega
  · intro h
    have := dropWhile_head S 48 h
    simp at this

theorem text_end {s : List Nat} {n N : Nat} (hl : s.length = N) (h : ∀ t, t < N → s.getD (N - 1 - t) 0 = 48 + n / 10 ^ t % 10) (hn : n < 10 ^ N) (h0 : 0 < n) :
    (s.map fun x => UInt8.ofNat x).dropWhile (· == 48) = render n := by
  have hget : ∀ i, (hi : i < s.length) → s[i] = 48 + n / 10 ^ (N - 1 - i) % 10 := by
    intro i hi
    have := h (N - 1 - i) (by omega)
    rw [show N - 1 - (N - 1 - i) = i by omega, List.getD_eq_getElem?_getD, List.getElem?_eq_getElem hi] at this
    exact this
  have hb : ∀ i, (hi : i < s.length) → UInt8.ofNat s[i] = byte (n / 10 ^ (N - 1 - i) % 10) := by
    intro i hi
    rw [hget i hi]; unfold byte; rw [Nat.add_comm]
  refine strip_render ?_ ?_ h0
  · rw [List.all_eq_true]
    intro c hc
    rw [List.mem_map] at hc
    obtain ⟨x, hx, rfl⟩ := hc
    obtain ⟨i, hi, rfl⟩ := List.getElem_of_mem hx
    rw [hb i hi]
    exact isDig_byte (Nat.mod_lt _ (by omega))
  · unfold dv
    have he : ((s.map fun x => UInt8.ofNat x).reverse.map dig) = (List.range N).map fun t => n / 10 ^ t % 10 := by
      apply List.ext_getElem
      · simp [hl]
      · intro t h1 h2
        rw [List.getElem_map, List.getElem_reverse, List.getElem_map, List.getElem_map, List.getElem_range]
        have ht : t < N := by simpa using h2
        have hlm : (s.map fun x => UInt8.ofNat x).length = s.length := List.length_map _
        rw [hb _ (by omega), dig_byte (Nat.mod_lt _ (by omega))]
        congr 2
        rw [List.length_map, hl, show N - 1 - (N - 1 - t) = t by omega]
    rw [he, val_digits, Nat.mod_eq_of_lt hn]

/-- Place values of a number out of its limbs. -/
theorem place {l : List Nat} (h : small 1000000000 l) (i k : Nat) (hk : k < 9) : l.getD i 0 / 10 ^ k % 10 = val 1000000000 l / 10 ^ (9 * i + k) % 10 := by
  have h1 := val_split 1000000000 l i
  have h2 := val_drop 1000000000 l i
  have h3 := val_lt (small_take h i)
  have h4 : 1000000000 ^ (l.take i).length ≤ 1000000000 ^ i := Nat.pow_le_pow_right (by omega) (by rw [List.length_take]; omega)
  rw [h2] at h1
  have e1 : (1000000000 : Nat) ^ i = 10 ^ (9 * i) := by rw [Nat.pow_mul]
  rw [e1] at h1 h4
  have h5 : val 1000000000 l / 10 ^ (9 * i) = l.getD i 0 + 1000000000 * val 1000000000 (l.drop (i + 1)) := by
    rw [h1, Nat.add_mul_div_left _ _ (Nat.pow_pos (by omega)), Nat.div_eq_of_lt (by omega), Nat.zero_add]
  rw [Nat.pow_add, ← Nat.div_div_eq_div_mul, h5]
  have h6 : (1000000000 : Nat) = 10 ^ k * (10 * 10 ^ (8 - k)) := by
    rw [← Nat.mul_assoc, ← Nat.pow_succ, ← Nat.pow_add, show k + 1 + (8 - k) = 9 by omega]
  rw [h6, Nat.mul_assoc, Nat.add_mul_div_left _ _ (Nat.pow_pos (by omega)), Nat.mul_assoc, Nat.add_mul_mod_self_left]

end Fr
