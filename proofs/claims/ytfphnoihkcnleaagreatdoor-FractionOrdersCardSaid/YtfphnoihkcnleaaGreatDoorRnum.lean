/- Steps of the reference's arithmetic on rows of limbs. Plain; no program. -/
import Derived.Test.YtfphnoihkcnleaaGreatDoorNum
namespace Limb

theorem getD_ge (l : List Nat) (i : Nat) (h : l.length ≤ i) : l.getD i 0 = 0 := by
  rw [List.getD_eq_getElem?_getD, List.getElem?_eq_none h]; rfl
theorem rplus_step {B : Nat} {a b s : List Nat} {i c x y : Nat} (hs : s.length = i) (hx : a.getD i 0 = x) (hy : b.getD i 0 = y)
    (h : val B s + B ^ i * c = val B (a.take i) + val B (b.take i)) :
    val B (s ++ [(c + x + y) % B]) + B ^ (i + 1) * ((c + x + y) / B) = val B (a.take (i + 1)) + val B (b.take (i + 1)) := by
  rw [val_take_succ, val_take_succ, hx, hy, val_append, hs, val_cons, val_nil, Nat.mul_zero, Nat.add_zero, Nat.pow_succ, Nat.mul_assoc, Nat.add_assoc, ← Nat.mul_add, Nat.mod_add_div, Nat.mul_add, Nat.mul_add]
  omega
theorem small_snoc {B : Nat} {s : List Nat} {x : Nat} (h : small B s) (hx : x < B) : small B (s ++ [x]) := by
  intro z hz
  rcases List.mem_append.1 hz with h1 | h1
  · exact h z h1
  · rw [List.mem_singleton.1 h1]; exact hx
theorem rplus_end {B : Nat} {a b s : List Nat} {i c : Nat} (ha : a.length ≤ i) (hb : b.length ≤ i) (hc : c = 0) (h : val B s + B ^ i * c = val B (a.take i) + val B (b.take i)) : val B s = val B a + val B b := by
  subst hc
  rw [List.take_of_length_le ha, List.take_of_length_le hb] at h
  simpa using h

theorem rminus_step {B : Nat} {a b s : List Nat} {i c x y d e : Nat} (hs : s.length = i) (hx : a.getD i 0 = x) (hy : b.getD i 0 = y)
    (h : val B s + val B (b.take i) = val B (a.take i) + B ^ i * c) (he : e + y + c = x + B * d) :
    val B (s ++ [e]) + val B (b.take (i + 1)) = val B (a.take (i + 1)) + B ^ (i + 1) * d := by
  rw [val_take_succ, val_take_succ, hx, hy, val_append, hs, val_cons, val_nil, Nat.mul_zero, Nat.add_zero, Nat.pow_succ, Nat.mul_assoc, Nat.add_assoc (val B (a.take i)), ← Nat.mul_add, ← he, Nat.mul_add, Nat.mul_add]
  omega
theorem norm_len {B : Nat} (hB : 1 < B) {a b : List Nat} (ha : norm B a) (hb : norm B b) (h : val B b ≤ val B a) : b.length ≤ a.length := by
  rcases Nat.lt_or_ge a.length b.length with h1 | h1
  · have := order_len hB ha hb h1; omega
  · exact h1
theorem rminus_end {B : Nat} {a b s : List Nat} {c i : Nat} (hs : small B s) (hl : s.length = i) (hi : i = a.length) (hb : b.length ≤ a.length) (hle : val B b ≤ val B a)
    (h : val B s + val B (b.take i) = val B (a.take i) + B ^ i * c) : val B s = val B a - val B b := by
  subst hi
  refine minus_end hs hl hb hle (c := c) ?_
  rw [List.take_of_length_le (Nat.le_of_eq hl)]
  exact h

theorem rdiv_skip {B : Nat} {d s : List Nat} {V k x r : Nat} (hk : 0 < k) (hx : d.getD (k - 1) 0 = x) (hz : s.getD (k - 1) 0 = 0) (h : val B (d.drop k) = val B (s.drop k) * V + r) :
    val B (d.drop (k - 1)) = val B (s.drop (k - 1)) * V + (x + B * r) := by
  have h1 := val_drop B d (k - 1)
  have h2 := val_drop B s (k - 1)
  rw [show k - 1 + 1 = k by omega] at h1 h2
  rw [hx, h] at h1
  rw [hz, Nat.zero_add] at h2
  rw [h1, h2, Nat.mul_add, Nat.mul_assoc]
  omega
theorem rdiv_bound {B x r V : Nat} (hx : x < B) (hr : r < V) : (x + B * r) / V < B := by
  rw [Nat.div_lt_iff_lt_mul (by omega), Nat.mul_comm B V]
  exact div_left hx hr
theorem rdiv_mod (N V : Nat) : N - V * (N / V) = N % V := by
  have := Nat.div_add_mod N V
  omega
theorem rmul_le {V m N : Nat} (hV : 0 < V) : V * m ≤ N ↔ m ≤ N / V := by
  rw [Nat.le_div_iff_mul_le hV, Nat.mul_comm]

theorem rdiv_end {B : Nat} {d s : List Nat} {V r m : Nat} (hr : r < V) (hm : val B d = m) (h : val B (d.drop 0) = val B (s.drop 0) * V + r) : val B s = m / V ∧ r = m % V := by
  have h1 := div_end hr h
  rw [hm] at h1
  refine ⟨h1, ?_⟩
  rw [List.drop_zero, List.drop_zero, hm] at h
  rw [h, Nat.add_comm, Nat.add_mul_mod_self_right, Nat.mod_eq_of_lt hr]

end Limb
