/- Hazards of package hazard. What Mend adds: plain facts. Mend of package hazard. -/
import Derived.Test.YtahjdmdgkkienaaGreatDoorHD
import Derived.Test.YtahjdmdgkkienaaGreatDoorJr
namespace Hz
/-- The static hazards of a form. -/
def bad (n : Nat) (l : List (Nat × Nat)) : List (Nat × Nat) := (nbrs n (made n l)).filter fun p => !tog l p
theorem filt_at {q : Nat × Nat → Bool} {l : List (Nat × Nat)} {i : Nat} (h : i < l.length) : (l.take (i + 1)).filter q = if q (l.getD i (0, 0)) then (l.take i).filter q ++ [l.getD i (0, 0)] else (l.take i).filter q := by
  rw [take_at h, List.filter_append]
  generalize l.getD i (0, 0) = x at *
  cases hq : q x <;> simp [hq]
theorem filt_len {q : Nat × Nat → Bool} {l : List (Nat × Nat)} {i : Nat} (h : i ≤ l.length) : ((l.take i).filter q).length ≤ l.length := by
  refine Nat.le_trans (List.length_filter_le _ _) ?_
  rw [List.length_take]; omega
theorem nbI_mem {b p : Nat} : ∀ {i : Nat} {x : Nat × Nat}, x ∈ nbI b p i ↔ ∃ k, k < i ∧ p ||| 2 ^ k ≠ p ∧ b.testBit (p ||| 2 ^ k) = true ∧ x = (p, p ||| 2 ^ k)
  | 0, x => by simp [nbI]
  | i + 1, x => by
    unfold nbI
    have ih := nbI_mem (b := b) (p := p) (i := i) (x := x)
    split
    · next h =>
      rw [List.mem_append, ih, List.mem_singleton]
      constructor
      · rintro (⟨k, hk, h'⟩ | rfl)
        · exact ⟨k, by omega, h'⟩
        · exact ⟨i, by omega, h.1, h.2, rfl⟩
      · rintro ⟨k, hk, h1, h2, rfl⟩
        by_cases e : k = i
        · subst e; exact .inr rfl
        · exact .inl ⟨k, by omega, h1, h2, rfl⟩
    · next h =>
      rw [ih]
      constructor
      · rintro ⟨k, hk, h'⟩; exact ⟨k, by omega, h'⟩
      · rintro ⟨k, hk, h1, h2, h3⟩
        have : k ≠ i := fun e => by subst e; exact h ⟨h1, h2⟩
        exact ⟨k, by omega, h1, h2, h3⟩
theorem nbrs_mem {n b : Nat} {x : Nat × Nat} : x ∈ nbrs n b ↔ x.1 < 2 ^ n ∧ b.testBit x.1 = true ∧ ∃ k, k < n ∧ x.1 ||| 2 ^ k ≠ x.1 ∧ b.testBit (x.1 ||| 2 ^ k) = true ∧ x.2 = x.1 ||| 2 ^ k := by
  unfold nbrs nbr
  rw [List.mem_flatMap]
  constructor
  · rintro ⟨p, hp, hx⟩
    obtain ⟨k, h1, h2, h3, rfl⟩ := nbI_mem.1 hx
    unfold Tt.pts at hp
    rw [List.mem_filter, List.mem_range] at hp
    exact ⟨hp.1, hp.2, k, h1, h2, h3, rfl⟩
  · rintro ⟨h1, h2, k, h3, h4, h5, h6⟩
    refine ⟨x.1, ?_, nbI_mem.2 ⟨k, h3, h4, h5, by rw [← h6]⟩⟩
    unfold Tt.pts
    rw [List.mem_filter, List.mem_range]
    exact ⟨h1, h2⟩
theorem nbrs_lt {n b : Nat} {x : Nat × Nat} (h : x ∈ nbrs n b) : x.1 < 2 ^ n ∧ x.2 < 2 ^ n := by
  obtain ⟨h1, _, k, h3, _, _, h6⟩ := nbrs_mem.1 h
  rw [h6]
  exact ⟨h1, Nat.or_lt_two_pow h1 (Nat.pow_lt_pow_right (by omega) h3)⟩
theorem nbrs_len {n b : Nat} (hn : n ≤ 6) : (nbrs n b).length ≤ 384 := by
  refine Nat.le_trans (nbr_len _ _ _) ?_
  have h1 := Tt.pts_len (fun k => b.testBit k) (2 ^ n)
  have h2 := Tt.size_le hn
  exact Nat.mul_le_mul hn (show _ ≤ 64 by omega)
end Hz
namespace Go.Proofs.YtahjdmdgkkienaaGreatDoor
open Go.RowKit Go.Shelf

set_option maxHeartbeats 4000000 in
set_option maxRecDepth 100000 in
theorem hHaz_ok (n : Nat) (l : List (Nat × Nat)) (v : Value) (w : World) (hn : n ≤ 6) (hl : l.length ≤ 256) (ho : Hz.Ok n l) (hw : Hz.W64 l) (hs : SeesO w v l) (hst : St w) (hsz : Stz w) :
    Calls Tryz.prog 15 #[.int .i64 n, v] w fun e w' => ∃ u, e = .returned (.tuple #[u, .int .i64 0]) ∧ SeesP w' u (Hz.bad n l) ∧ Below w.heap.size w w' := by
  obtain ⟨i0, hi0, hz0, hz1, hz2⟩ := info_pair
  have CK := fun W h => Lib.hid (hCheck_any n l v W hw h)
  rw [Hz.ok_chk hn hl ho] at CK
  have CT := fun W h h' => Lib.hid (hTab_ok n l v W hn ho h h')
  have CN := fun W h => Lib.hid (hNb_ok n (Hz.made n l) W hn (Hz.made_lt n l) h)
  have HM := Lib.hid (fun i (hi : i < (Hz.nbrs n (Hz.made n l)).length) => Hz.nbrs_lt (Hz.getD_mem hi))
  have CG := fun i (hi : i < (Hz.nbrs n (Hz.made n l)).length) W h => Lib.hid (hTog_any n ((Hz.nbrs n (Hz.made n l)).getD i (0, 0)).1 ((Hz.nbrs n (Hz.made n l)).getD i (0, 0)).2 l v W hn ho h (HM.out i hi).1 (HM.out i hi).2)
  have hlen := Hz.nbrs_len (b := Hz.made n l) hn
  unfold Hz.bad
  have HA := Lib.hid (fun i (hi : i < (Hz.nbrs n (Hz.made n l)).length) => Hz.filt_at (q := fun p => !Hz.tog l p) hi)
  have HF := Lib.hid (fun i (hi : i ≤ (Hz.nbrs n (Hz.made n l)).length) => Hz.filt_len (q := fun p => !Hz.tog l p) hi)
  generalize Hz.nbrs n (Hz.made n l) = L at *
  generalize Hz.made n l = b at *
  have HSE := Lib.hid hs
  have HST := Lib.hid hst
  have HSZ := Lib.hid hsz
  clear hs hst hsz ho hw HM
  go_enter Tryz.func15, Tryz.ntmps15
  go_wp2_with (first | (go_at_call 13; (with_reducible refine ((CK _ HSE.out).out).mono ?_); rintro e w1 ⟨rfl, hb⟩; have HB1 := Lib.hid hb; clear hb) | (go_at_call 22; (with_reducible refine ((CT _ (HSE.out.step HB1.out) (HST.out.next HB1.out)).out).mono ?_); rintro e w2 ⟨rfl, hb⟩; have HB2 := Lib.hid (below_nxt HB1.out hb); clear hb) | (go_at_call 32; (with_reducible refine ((CN _ (HSZ.out.next HB2.out)).out).mono ?_); rintro e w3 ⟨pv, rfl, hs3, hb⟩; have HB3 := Lib.hid (below_nxt HB2.out hb); have HS3 := Lib.hid hs3; obtain ⟨ao, cap, rfl, hcap1, hcap2, hcells⟩ := hs3.opened; clear hb))
  go_loopw [7, 21] (fun s7 s21 wr => ∃ i : Nat, i ≤ L.length ∧ s21 = .int .i64 i ∧ RowP w3.heap.size 56 wr s7 ((L.take i).filter fun p => !Hz.tog l p) ∧ Hid (Below w3.heap.size w3 wr)) (fun _ s21 _ => L.length - (intOf s21).toNat)
  case atStart => exact ⟨0, Nat.zero_le _, rfl, RowP.nil _ _ _, Lib.hid (Below.refl _ _)⟩
  case round =>
    obtain ⟨i, hi, rfl, hrow, HB⟩ := hrel
    have RW := Lib.hid hrow
    clear hrow
    by_cases hil : i < L.length
    · obtain ⟨g, rfl, hg, c1, c2⟩ := hcells.at HB.out hil
      have CGi := CG i hil
      have HAi := Lib.hid (HA.out i hil)
      have hfl := HF.out i hi
      have hsz := HB.out.size
      clear CG HA HF CK CT CN
      generalize (L.take i).filter (fun p => !Hz.tog l p) = q at *
      generalize L.getD i (0, 0) = y at *
      have HBA := Lib.hid (HB.out.alloc hsz (.cells #[.int .i64 (y.1 : Int), .int .i64 (y.2 : Int)] 56))
      have RA := Lib.hid (RW.out.below ((Below.refl _ _).alloc (Nat.le_refl _) (.cells #[.int .i64 (y.1 : Int), .int .i64 (y.2 : Int)] 56)) (Nat.le_refl _))
      obtain ⟨PY, -, -⟩ := chI_new wr y.1 y.2 56
      have HPY := Lib.hid PY
      have hyy : Hz.tog l (y.1, y.2) = Hz.tog l y := rfl
      rw [hyy] at CGi
      clear hyy PY
      cases ht : Hz.tog l y
      · rw [ht] at CGi HAi
        have HF2 : Hid ((L.take (i + 1)).filter (fun p => !Hz.tog l p) = q ++ [(y.1, y.2)]) := Lib.hid (by rw [HAi.out]; simp)
        clear HAi ht
        go_wp2_with (first | (go_at_call 33; (with_reducible refine ((CGi _ (HSE.out.step (HB3.out.trans (HBA.out.mono HB3.out.size)))).out).mono ?_); rintro e w4 ⟨rfl, hb⟩; have HB4 := Lib.hid (below_nxt HBA.out hb); have R4 := Lib.hid (RA.out.below hb (Nat.le_refl _)); obtain ⟨y0, y1, y2⟩ := HPY.out.step hb; have hz4 := HB4.out.size; clear hb) | (at_builtin; refine wpList_append_pair rfl _ _ 46 rfl 56 i0 Tryz.underlying46 hi0 hz0 hz1 hz2 _ q (y.1, y.2) w4.heap.size rfl rfl w3.heap.size (R4.out.below ((Below.refl _ _).alloc (Nat.le_refl _) _) (Nat.le_refl _)) (by simp) (by simp) (by omega) (by simp; omega) ?_; intro v5 w5 hr5 hb5))
        exact ⟨⟨i + 1, by omega, rfl, by rw [HF2.out]; exact hr5, Lib.hid ((HB4.out.alloc HB4.out.size _).trans hb5)⟩, by simp [intOf]; omega⟩
      · rw [ht] at CGi HAi
        have HF2 : Hid ((L.take (i + 1)).filter (fun p => !Hz.tog l p) = q) := Lib.hid (by rw [HAi.out]; simp)
        clear HAi ht
        go_wp2_with (go_at_call 33; (with_reducible refine ((CGi _ (HSE.out.step (HB3.out.trans (HBA.out.mono HB3.out.size)))).out).mono ?_); rintro e w4 ⟨rfl, hb⟩; have HB4 := Lib.hid (below_nxt HBA.out hb); have R4 := Lib.hid (RA.out.below hb (Nat.le_refl _)); clear hb)
        exact ⟨⟨i + 1, by omega, rfl, by rw [HF2.out]; exact R4.out, HB4⟩, by simp [intOf]; omega⟩
    · obtain rfl : i = L.length := by omega
      rw [List.take_length] at RW
      go_wp2
      exact bodyPost_ret (v := .tuple #[u7, .int .i64 0]) (by simp [results, Tryz.results15, go_sem]) rfl ⟨u7, rfl, RW.out.sees, HB3.out.trans (HB.out.mono HB3.out.size)⟩

set_option maxHeartbeats 4000000 in
set_option maxRecDepth 100000 in
theorem hHaz_bad (n : Int) (l : List (Nat × Nat)) (v : Value) (w : World) (hw : Hz.W64 l) (hs : SeesO w v l) (hk : Hz.chk n l ≠ 0) :
    Calls Tryz.prog 15 #[.int .i64 n, v] w fun e w' => e = .returned (.tuple #[.slice none 0 0, .int .i64 (Hz.chk n l)]) ∧ Below w.heap.size w w' := by
  have CK := Lib.hid (hCheck_any n l v w hw hs)
  have hne : (Hz.chk n l != 0) = true := by simp [hk]
  generalize Hz.chk n l = k at *
  clear hw hs hk
  go_enter Tryz.func15, Tryz.ntmps15
  go_wp2_with (go_at_call 13; (with_reducible refine (CK.out).mono ?_); rintro e w1 ⟨rfl, hb⟩)
  exact bodyPost_ret (v := .tuple #[.slice none 0 0, .int .i64 k]) (by simp [results, Tryz.results15, go_sem]) rfl ⟨rfl, hb⟩
end Go.Proofs.YtahjdmdgkkienaaGreatDoor

namespace Hz
open Ic (inn Sub)
theorem full_bit {n i : Nat} : (2 ^ n - 1).testBit i = decide (i < n) := Nat.testBit_two_pow_sub_one n i
/-- A pair of neighbours lies in a prime implicant. -/
theorem pair_prime {n b x k : Nat} (hn : n ≤ 6) (hb : b < 2 ^ 2 ^ n) (hx : x < 2 ^ n) (hk : k < n) (hne : x ||| 2 ^ k ≠ x) (h1 : b.testBit x = true) (h2 : b.testBit (x ||| 2 ^ k) = true) :
    ∃ d u, d < 2 ^ n ∧ Sub u d ∧ Ic.prime n b 0 d u = true ∧ inn d u x = true ∧ inn d u (x ||| 2 ^ k) = true := by
  have hxk : x.testBit k = false := by
    cases h : x.testBit k
    · rfl
    · exact absurd (Ic.or_left.2 fun i hi => by rw [Nat.testBit_two_pow] at hi; simp at hi; subst hi; exact h) hne
  have hf : 2 ^ n - 1 < 2 ^ 64 := by have := Tt.size_le hn; omega
  have hcb : ∀ i, ((2 ^ n - 1) &&& (18446744073709551615 - 2 ^ k)).testBit i = (decide (i < n) && !decide (i = k)) := fun i => by
    rw [Ic.clr_bit hf (by omega), full_bit]
  obtain ⟨c, hc⟩ : ∃ c, (2 ^ n - 1) &&& (18446744073709551615 - 2 ^ k) = c := ⟨_, rfl⟩
  rw [hc] at hcb
  have hclt : c < 2 ^ n := by
    rw [← hc]
    exact Nat.lt_of_le_of_lt Nat.and_le_left (Nat.sub_lt (Nat.pow_pos (by omega)) (by omega))
  have hs : Sub (x &&& c) c := fun i hi => by rw [Nat.testBit_and, Bool.and_eq_true] at hi; exact hi.2
  have hin : ∀ j, inn c (x &&& c) j = true ↔ ∀ i, i < n → i ≠ k → j.testBit i = x.testBit i := fun j => by
    rw [Ic.inn_iff hs]
    constructor
    · intro h i hi hik
      have hci : c.testBit i = true := by rw [hcb]; simp [hi, hik]
      rw [h i hci, Nat.testBit_and, hci, Bool.and_true]
    · intro h i hci
      have := hcb i
      rw [hci] at this
      simp at this
      rw [h i this.1 this.2, Nat.testBit_and, hci, Bool.and_true]
  have hyb : ∀ i, (x ||| 2 ^ k).testBit i = (x.testBit i || decide (k = i)) := fun i => by rw [Nat.testBit_or, Nat.testBit_two_pow]
  have hy : x ||| 2 ^ k < 2 ^ n := Nat.or_lt_two_pow hx (Nat.pow_lt_pow_right (by omega) hk)
  have hix : inn c (x &&& c) x = true := (hin x).2 fun _ _ _ => rfl
  have hiy : inn c (x &&& c) (x ||| 2 ^ k) = true := (hin _).2 fun i _ hik => by rw [hyb]; simp [Ne.symm hik]
  have himp : Ic.imp n b 0 c (x &&& c) = true := by
    rw [Ic.imp_iff hn (Tt.w64 hn hb) (by omega)]
    intro j hj hji
    rw [Nat.or_zero]
    rw [hin] at hji
    have hi0 : ∀ z, z < 2 ^ n → ∀ i, n ≤ i → z.testBit i = false := fun z hz i hi => Nat.testBit_lt_two_pow (Nat.lt_of_lt_of_le hz (Nat.pow_le_pow_right (by omega) hi))
    cases hjk : j.testBit k
    · have : j = x := Nat.eq_of_testBit_eq fun i => by
        by_cases hi : i < n
        · by_cases e : i = k
          · rw [e, hjk, hxk]
          · exact hji i hi e
        · rw [hi0 j hj i (by omega), hi0 x hx i (by omega)]
      rw [this]; exact h1
    · have : j = x ||| 2 ^ k := Nat.eq_of_testBit_eq fun i => by
        by_cases hi : i < n
        · by_cases e : i = k
          · rw [e, hjk, hyb]; simp
          · rw [hji i hi e, hyb]; simp [Ne.symm e]
        · rw [hi0 j hj i (by omega), hi0 _ hy i (by omega)]
      rw [this]; exact h2
  obtain ⟨d, u, g1, g2, g3, g4, g5⟩ := Ic.prime_over hn (Tt.w64 hn hb) (fr := 0) (by omega) hx h1 c (x &&& c) hclt hs himp hix
  exact ⟨d, u, g1, g2, g3, g4, g5 _ hiy⟩
/-- The first prime implicant with both points of a pair. -/
def pick (ps : List (Nat × Nat)) (p : Nat × Nat) : Option (Nat × Nat) := ps.find? fun c => jn c p
theorem pick_some {n b : Nat} (hn : n ≤ 6) (hb : b < 2 ^ 2 ^ n) {p : Nat × Nat} (h : p ∈ nbrs n b) : ∃ c, pick (Ic.primesS n b 0) p = some c := by
  obtain ⟨h1, h2, k, h3, h4, h5, h6⟩ := nbrs_mem.1 h
  obtain ⟨d, u, g1, g2, g3, g4, g5⟩ := pair_prime hn hb h1 h3 h4 h2 h5
  cases hp : pick (Ic.primesS n b 0) p with
  | some c => exact ⟨c, rfl⟩
  | none =>
    have := List.find?_eq_none.1 hp (d, u) (Ic.primesS_mem.2 ⟨⟨g1, g2⟩, g3⟩)
    simp only [jn, h6, g4, g5] at this
    exact absurd rfl this
/-- What one pair adds. -/
def mstep (ps : List (Nat × Nat)) (acc : List (Nat × Nat)) (p : Nat × Nat) : List (Nat × Nat) := if tog acc p then acc else match pick ps p with
  | some c => acc ++ [c]
  | none => acc
def mendW (ps L : List (Nat × Nat)) : List (Nat × Nat) := L.foldl (mstep ps) []
def mend (n : Nat) (l : List (Nat × Nat)) : List (Nat × Nat) := mendW (Ic.primesS n (made n l) 0) (bad n l)
theorem mendW_at {ps L : List (Nat × Nat)} {i : Nat} (h : i < L.length) : mendW ps (L.take (i + 1)) = mstep ps (mendW ps (L.take i)) (L.getD i (0, 0)) := by
  unfold mendW
  rw [take_at h, List.foldl_append]; rfl
theorem mendW_mem (ps : List (Nat × Nat)) (L : List (Nat × Nat)) : ∀ x ∈ mendW ps L, x ∈ ps := by
  unfold mendW
  have : ∀ (L acc : List (Nat × Nat)), (∀ x ∈ acc, x ∈ ps) → ∀ x ∈ L.foldl (mstep ps) acc, x ∈ ps := by
    intro L
    induction L with
    | nil => intro acc h; exact h
    | cons p L ih =>
      intro acc h
      rw [List.foldl_cons]
      refine ih _ ?_
      unfold mstep
      split
      · exact h
      · split
        · next c hc =>
          intro x hx
          rw [List.mem_append, List.mem_singleton] at hx
          rcases hx with hx | rfl
          · exact h x hx
          · exact List.mem_of_find?_eq_some hc
        · exact h
  exact this L [] (by simp)
theorem mstep_len (ps acc : List (Nat × Nat)) (p : Nat × Nat) : (mstep ps acc p).length ≤ acc.length + 1 := by
  unfold mstep
  split
  · omega
  · split <;> simp
theorem mendW_len (ps : List (Nat × Nat)) : ∀ (L : List (Nat × Nat)) (i : Nat), i ≤ L.length → (mendW ps (L.take i)).length ≤ i
  | L, 0, _ => by simp [mendW]
  | L, i + 1, h => by
    rw [mendW_at (by omega)]
    have := mendW_len ps L i (by omega)
    have := mstep_len ps (mendW ps (L.take i)) (L.getD i (0, 0))
    omega
theorem primes_ok (n b : Nat) : Ok n (Ic.primesS n b 0) := fun p hp => (Ic.primesS_fits n b 0 p hp)
theorem tchk_self {n b : Nat} (hn : n ≤ 6) (hb : b < 2 ^ 2 ^ n) : Ic.tchk n b n 0 = 0 := Ic.tchk_zero.2 ⟨Tt.chk_ok hn hb, Tt.chk_ok hn (Nat.pow_pos (by omega)), rfl, by simp⟩
theorem bad_mem {n : Nat} {l : List (Nat × Nat)} {p : Nat × Nat} : p ∈ bad n l ↔ p ∈ nbrs n (made n l) ∧ tog l p = false := by
  unfold bad; rw [List.mem_filter]; simp
theorem bad_len {n : Nat} (hn : n ≤ 6) (l : List (Nat × Nat)) : (bad n l).length ≤ 384 := Nat.le_trans (List.length_filter_le _ _) (nbrs_len hn)
end Hz

namespace Go.Proofs.YtahjdmdgkkienaaGreatDoor
open Go.RowKit Go.Shelf

set_option maxHeartbeats 4000000 in
set_option maxRecDepth 100000 in
theorem hPrimes_ok (n b : Nat) (w : World) (hn : n ≤ 6) (hb : b < 2 ^ 2 ^ n) (hst : St w) :
    Calls Tryz.prog 35 #[.agg #[.int .i64 n, .int .u64 b]] w fun e w' => ∃ v, e = .returned (.tuple #[v, .int .i64 0]) ∧ SeesC w' v (Ic.primesS n b 0) ∧ Below w.heap.size w w' := by
  have CP := fun W h => Lib.hid (iPrimes_ok n b n 0 W hn (Tt.w64 hn hb) (by omega) h (Hz.tchk_self hn hb))
  generalize Ic.primesS n b 0 = l at *
  obtain ⟨P0, L0, z0⟩ := tab1_new w n b 29
  generalize hX : w.alloc (.cells #[.int .i64 n, .int .u64 b] 29) = X at *
  obtain ⟨p0, p1, p2, p3, p4⟩ := id P0
  have HL := Lib.hid L0
  have HST := Lib.hid (hst.next L0)
  clear L0 P0 hst hb
  go_enter Tryz.func35, Tryz.ntmps35
  go_wp2_with fail
  refine ((CP _ HST.out).out).mono ?_
  rintro e w1 ⟨v, rfl, hs, hb⟩
  have HB := Lib.hid (below_nxt HL.out hb)
  have HS := Lib.hid hs
  clear hb hs
  go_wp2
  exact bodyPost_ret (v := .tuple #[v, .int .i64 0]) (by simp [results, Tryz.results35, go_sem]) rfl ⟨v, rfl, HS.out, HB.out⟩

set_option maxHeartbeats 4000000 in
set_option maxRecDepth 100000 in
theorem hMend_ok (n : Nat) (l : List (Nat × Nat)) (v : Value) (w : World) (hn : n ≤ 6) (hl : l.length ≤ 256) (ho : Hz.Ok n l) (hw : Hz.W64 l) (hs : SeesO w v l) (hst : St w) (hsz : Stz w) :
    Calls Tryz.prog 17 #[.int .i64 n, v] w fun e w' => ∃ u, e = .returned (.tuple #[u, .int .i64 0]) ∧ SeesC w' u (Hz.mend n l) ∧ Below w.heap.size w w' := by
  obtain ⟨i0, hi0, hz0, hz1, hz2⟩ := info_cube
  have CH := fun W h h1 h2 => Lib.hid (hHaz_ok n l v W hn hl ho hw h h1 h2)
  have CT := fun W h h' => Lib.hid (hTab_ok n l v W hn ho h h')
  have CP := fun W h => Lib.hid (hPrimes_ok n (Hz.made n l) W hn (Hz.made_lt n l) h)
  have HM := Lib.hid (fun i (hi : i < (Hz.bad n l).length) => Hz.nbrs_lt (Hz.bad_mem.1 (Hz.getD_mem hi)).1)
  have HPK := Lib.hid (fun i (hi : i < (Hz.bad n l).length) => Hz.pick_some hn (Hz.made_lt n l) (Hz.bad_mem.1 (Hz.getD_mem hi)).1)
  have hblen := Hz.bad_len hn l
  have HPO := Lib.hid (Hz.primes_ok n (Hz.made n l))
  unfold Hz.mend
  generalize Hz.bad n l = LB at *
  generalize Ic.primesS n (Hz.made n l) 0 = PS at *
  generalize Hz.made n l = md at *
  have HMM := Lib.hid (Hz.mendW_mem PS)
  have HML := Lib.hid (fun i (hi : i ≤ LB.length) => Hz.mendW_len PS LB i hi)
  have HMA := Lib.hid (fun i (hi : i < LB.length) => Hz.mendW_at (ps := PS) hi)
  obtain ⟨A0, LA, zA⟩ : NumI (w.alloc (.cells #[.int .i64 (n : Int)] 3)) w.heap.size n ∧ Below w.heap.size w (w.alloc (.cells #[.int .i64 (n : Int)] 3)) ∧ (w.alloc (.cells #[.int .i64 (n : Int)] 3)).heap.size = w.heap.size + 1 := ⟨⟨by simp, by simp⟩, (Below.refl _ w).alloc (Nat.le_refl _) _, by simp⟩
  generalize hX : w.alloc (.cells #[.int .i64 (n : Int)] 3) = X at *
  have HLA := Lib.hid LA
  have HSE := Lib.hid hs
  have HST := Lib.hid hst
  have HSZ := Lib.hid hsz
  obtain ⟨a0, a1⟩ := id A0
  clear LA hs hst hsz
  go_enter Tryz.func17, Tryz.ntmps17
  go_wp2_with fail
  refine ((CH _ (HSE.out.step HLA.out) (HST.out.next HLA.out) (HSZ.out.next HLA.out)).out).mono ?_
  rintro e w1 ⟨hv, rfl, hs1, hb⟩
  have A1 := A0.step hb
  obtain ⟨a0', a1⟩ := id A1
  have HB1 := Lib.hid (below_nxt HLA.out hb)
  have HH := Lib.hid hs1
  clear hb hs1
  go_wp2_with fail
  refine ((CT _ (HSE.out.step HB1.out) (HST.out.next HB1.out)).out).mono ?_
  rintro e w2 ⟨rfl, hb⟩
  have A2 := A1.step hb
  have HB2 := Lib.hid (below_nxt HB1.out hb)
  have HH2 := Lib.hid (HH.out.step hb)
  obtain ⟨a0'', a2⟩ := id A2
  clear hb A1 a1
  go_wp2_with fail
  refine ((CP _ (HST.out.next HB2.out)).out).mono ?_
  rintro e w3 ⟨pv, rfl, hs3, hb⟩
  have A3 := A2.step hb
  have HB3 := Lib.hid (below_nxt HB2.out hb)
  have HH3 := HH2.out.step hb
  have HP3 := Lib.hid hs3
  obtain ⟨ap, capp, rfl, hcp1, hcp2, hpc⟩ := hs3.opened
  obtain ⟨ao, cap, rfl, hcap1, hcap2, hcells⟩ := HH3.opened
  clear hb a2 HH HH2 HH3 hs3 A2
  go_wp2_with fail
  have hw3 := A3.1
  go_loopw [10, 32] (fun s10 s32 wr => ∃ i : Nat, i ≤ LB.length ∧ s32 = .int .i64 i ∧ RowC w3.heap.size 62 wr s10 (Hz.mendW PS (LB.take i)) ∧ Hid (Below w3.heap.size w3 wr)) (fun _ s32 _ => LB.length - (intOf s32).toNat)
  case atStart => exact ⟨0, Nat.zero_le _, rfl, RowC.nil _ _ _, Lib.hid (Below.refl _ _)⟩
  case round =>
    obtain ⟨i, hi, rfl, hrow, HB⟩ := hrel
    have RW := Lib.hid hrow
    clear hrow
    by_cases hil : i < LB.length
    · obtain ⟨g, rfl, hg, c1, c2⟩ := hcells.at HB.out hil
      obtain ⟨hy1, hy2⟩ := HM.out i hil
      obtain ⟨pc, hpk⟩ := HPK.out i hil
      have HS := Lib.hid (HMA.out i hil)
      have hql := HML.out i hi
      have hqo : Hz.Ok n (Hz.mendW PS (LB.take i)) := fun x hx => HPO.out x (HMM.out _ x hx)
      have hsz := HB.out.size
      clear HM HPK HMA HML HMM CH CT CP
      generalize Hz.mendW PS (LB.take i) = q at *
      generalize LB.getD i (0, 0) = y at *
      have A4 := A3.step HB.out
      have HBA := Lib.hid (HB.out.alloc hsz (.cells #[.int .i64 (y.1 : Int), .int .i64 (y.2 : Int)] 56))
      have RA := Lib.hid (RW.out.below ((Below.refl _ _).alloc (Nat.le_refl _) (.cells #[.int .i64 (y.1 : Int), .int .i64 (y.2 : Int)] 56)) (Nat.le_refl _))
      obtain ⟨PY, LY, -⟩ := chI_new wr y.1 y.2 56
      have A5 := A4.step LY
      obtain ⟨e0, e1⟩ := id A5
      have HPY := Lib.hid PY
      have HA5 := Lib.hid A5
      have CG := fun W h => Lib.hid (hTog_any n y.1 y.2 q u10 W hn hqo h hy1 hy2)
      have hyy : Hz.tog q (y.1, y.2) = Hz.tog q y := rfl
      rw [hyy] at CG
      clear hyy PY LY A4 A5
      cases ht : Hz.tog q y
      · rw [ht] at CG
        have HF2 : Hid (Hz.mendW PS (LB.take (i + 1)) = q ++ [(pc.1, pc.2)]) := Lib.hid (by rw [HS.out, Hz.mstep, ht, hpk]; rfl)
        have CX := fun W (h1 : SeesO W (.slice ap PS.length capp) PS) (h2 : NumI W w.heap.size n) (h3 : ChI W wr.heap.size y.1 y.2) => Lib.hid (hIdxM_any w.heap.size wr.heap.size (fun c => Hz.jn c (y.1, y.2)) PS (.slice ap PS.length capp) W h1 (fun k hk W' hW' => Lib.hid (hMend1_any n _ _ y.1 y.2 _ _ W' hn (HPO.out _ (Hz.getD_mem hk)).1 (HPO.out _ (Hz.getD_mem hk)).2 hy1 hy2 (h2.step hW') (h3.step hW'))))
        have HPK := Lib.hid (show PS.find? (fun c => Hz.jn c (y.1, y.2)) = some pc from hpk)
        clear HS ht hpk
        go_wp2_with fail
        refine ((CG _ RA.out.sees.o).out).mono ?_
        rintro e w4 ⟨rfl, hb⟩
        have HB4 := Lib.hid (below_nxt HBA.out hb)
        have R4 := Lib.hid (RA.out.below hb (Nat.le_refl _))
        have Y4 := HPY.out.step hb
        have A6 := HA5.out.step hb
        have hz4 := HB4.out.size
        clear hb e0 e1
        go_wp2_with fail
        refine ((CX _ (HP3.out.step HB4.out).o A6 Y4).out).mono ?_
        rintro e w5 ⟨r, rfl, hr, hb⟩
        obtain ⟨k, rfl, hk, hpd⟩ : ∃ k : Nat, r = k ∧ k < PS.length ∧ pc = PS.getD k (0, 0) := by
          rcases hr with ⟨_, hr⟩ | ⟨k, rfl, hk, hr⟩
          · rw [HPK.out] at hr; cases hr
          · rw [HPK.out] at hr; exact ⟨k, rfl, hk, Option.some.inj hr⟩
        have HB5 := Lib.hid (below_nxt HB4.out hb)
        have R5 := Lib.hid (R4.out.below hb (Nat.le_refl _))
        have hz5 := HB5.out.size
        obtain ⟨gp, rfl, hgp, d1, d2⟩ := hpc.at HB5.out hk
        rw [← hpd] at d1 d2
        clear hb hr hpd A6 Y4 CX CG
        go_wp2_with (at_builtin; refine wpList_append_cub rfl _ _ 22 rfl 62 i0 Tryz.underlying22 hi0 hz0 hz1 hz2 _ q (pc.1, pc.2) w5.heap.size rfl rfl w3.heap.size (R5.out.below ((Below.refl _ _).alloc (Nat.le_refl _) _) (Nat.le_refl _)) (by simp) (by simp) (by omega) (by simp; omega) ?_; intro v6 w6 hr6 hb6)
        exact ⟨⟨i + 1, by omega, rfl, by rw [HF2.out]; exact hr6, Lib.hid ((HB5.out.alloc HB5.out.size _).trans hb6)⟩, by simp [intOf]; omega⟩
      · rw [ht] at CG
        have HF2 : Hid (Hz.mendW PS (LB.take (i + 1)) = q) := Lib.hid (by rw [HS.out, Hz.mstep, ht]; rfl)
        clear HS ht hpk
        go_wp2_with fail
        refine ((CG _ RA.out.sees.o).out).mono ?_
        rintro e w4 ⟨rfl, hb⟩
        have HB4 := Lib.hid (below_nxt HBA.out hb)
        have R4 := Lib.hid (RA.out.below hb (Nat.le_refl _))
        clear hb e0 e1
        go_wp2
        exact ⟨⟨i + 1, by omega, rfl, by rw [HF2.out]; exact R4.out, HB4⟩, by simp [intOf]; omega⟩
    · obtain rfl : i = LB.length := by omega
      rw [List.take_length] at RW
      go_wp2
      exact bodyPost_ret (v := .tuple #[u10, .int .i64 0]) (by simp [results, Tryz.results17, go_sem]) rfl ⟨u10, rfl, RW.out.sees, HB3.out.trans (HB.out.mono HB3.out.size)⟩
end Go.Proofs.YtahjdmdgkkienaaGreatDoor

