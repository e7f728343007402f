/- The contracts of the functions of package fraction that read and write natural numbers in decimal digits. The contract of the decimal digits of natural numbers in package fraction. -/
import Derived.Test.YtldclpdmcopgnaaGreatDoorNd
import Derived.Test.YtldclpdmcopgnaaGreatDoorNum
import Derived.Deep.LoopGhost
import Derived.Lib.TrimByte
import Derived.Laws.BytesArg
namespace Go.Proofs.YtldclpdmcopgnaaGreatDoor
open Go.RowKit

theorem dv_append (x y : List UInt8) : Fr.dv (x ++ y) = Fr.dv x * 10 ^ y.length + Fr.dv y := by
  unfold Fr.dv
  rw [List.reverse_append, List.map_append, Limb.val_append, List.length_map, List.length_reverse, Nat.add_comm, Nat.mul_comm]
theorem dv_snoc (x : List UInt8) (c : UInt8) : Fr.dv (x ++ [c]) = Fr.dv x * 10 + Fr.dig c := by
  rw [dv_append]; simp [Fr.dv]
/-- The digits between two places. -/
def mid (l : List UInt8) (i j : Nat) : List UInt8 := (l.take j).drop i
theorem mid_start (l : List UInt8) (i : Nat) : mid l i i = [] := by unfold mid; rw [List.drop_eq_nil_of_le]; rw [List.length_take]; omega
theorem mid_snoc (l : List UInt8) (i j : Nat) (hij : i ≤ j) (hj : j < l.length) : mid l i (j + 1) = mid l i j ++ [l[j]] := by
  unfold mid
  rw [List.take_succ_eq_append_getElem hj, List.drop_append_of_le_length (by rw [List.length_take]; omega)]
theorem mid_drop (l : List UInt8) (i j : Nat) (hij : i ≤ j) : l.drop i = mid l i j ++ l.drop j := by
  unfold mid
  by_cases hl : j ≤ l.length
  · rw [← List.drop_append_of_le_length (by rw [List.length_take]; omega), List.take_append_drop]
  · rw [List.take_of_length_le (by omega), List.drop_eq_nil_of_le (by omega : l.length ≤ j), List.append_nil]
theorem mid_all {l : List UInt8} (h : l.all Fr.isDig = true) (i j : Nat) : (mid l i j).all Fr.isDig = true := by
  rw [List.all_eq_true] at h ⊢
  exact fun c hc => h c (List.mem_of_mem_take (List.mem_of_mem_drop hc))
theorem mid_len (l : List UInt8) (i j : Nat) : (mid l i j).length ≤ j - i := by unfold mid; rw [List.length_drop, List.length_take]; omega
theorem mid_lt {l : List UInt8} (h : l.all Fr.isDig = true) (i j : Nat) : Fr.dv (mid l i j) < 10 ^ (j - i) :=
  Nat.lt_of_lt_of_le (Fr.dv_lt (mid_all h i j)) (Nat.pow_le_pow_right (by omega) (mid_len l i j))
theorem chunk_step {l : List UInt8} {a : List Nat} {n k x : Nat} (hl : l.length = n) (hk : 9 * k < n) (ha : a.length = k) (hv : Limb.val 1000000000 a = Fr.dv (l.drop (n - 9 * k))) (hx : Fr.dv (mid l (n - 9 * k - 9) (n - 9 * k)) = x) :
    Limb.val 1000000000 (a ++ [x]) = Fr.dv (l.drop (n - 9 * (k + 1))) := by
  rw [Limb.val_append, ha, hv, show n - 9 * (k + 1) = n - 9 * k - 9 by omega, mid_drop l (n - 9 * k - 9) (n - 9 * k) (by omega), dv_append, hx, List.length_drop, hl, show n - (n - 9 * k) = 9 * k by omega, Nat.pow_mul, Limb.val_cons, Limb.val_nil, Nat.mul_zero, Nat.add_zero, Nat.mul_comm x, Nat.add_comm]

set_option maxRecDepth 100000 in
set_option maxHeartbeats 1000000 in
theorem read_own (s : ByteArray) (w : World) (hs : s.size ≤ 1000) (hd : s.data.toList.all Fr.isDig = true) :
    Calls Tryz.prog 117 #[.string s] w fun e w' => ∃ r, e = .returned r ∧ Below w.heap.size w w' ∧ IsNat .u32 1000000000 w' r (Fr.dv s.data.toList) (s.size / 9 + 1) ∧ ∀ g, g < w.heap.size → r.ownBlock ≠ some g := by
  obtain ⟨i0, hi, hz0, hz1, hz2⟩ := info_parts Tryz.infoU32
  go_enter Tryz.func117, Tryz.ntmps117
  go_wp2_with (go_at_call 146; refine (width_any _).mono ?_; rintro e w' ⟨rfl, rfl⟩)
  go_loopw [4, 5] (fun u4 u5 wr => ∃ (k : Nat) (a : List Nat), u5 = .int .i64 ((s.size : Int) - 9 * (k : Int)) ∧ 9 * k < s.size + 9 ∧ Hid (a.length = k) ∧ Row w.heap.size .u32 142 wr u4 a ∧ Limb.small 1000000000 a ∧ Below w.heap.size w wr ∧
      Hid (Limb.val 1000000000 a = Fr.dv (s.data.toList.drop (s.size - 9 * k)))) (fun _ u5 _ => (intOf u5).toNat)
  case atStart => exact ⟨0, [], by go_num, by omega, Lib.hid rfl, Row.nil _ _ _ _, fun x hx => by simp at hx, Below.refl _ _, by unfold Hid; rw [Nat.mul_zero, Nat.sub_zero, List.drop_eq_nil_of_le (by show s.data.toList.length ≤ s.data.toList.length; exact Nat.le_refl _)]; rfl⟩
  case round =>
    obtain ⟨k, a, rfl, hk, HA, hrow, hsm, hbel, HV⟩ := hrel
    by_cases hpos : 9 * k < s.size
    · rcases Nat.lt_or_ge (s.size - 9 * k) 10 with hE | hE
      all_goals
        go_wp2
        go_loop [6, 7] (fun u6 u7 => ∃ j x : Nat, s.size - 9 * k - 9 ≤ j ∧ j ≤ s.size - 9 * k ∧ u7 = .int .i64 j ∧ u6 = .int .u32 x ∧ Hid (Fr.dv (mid s.data.toList (s.size - 9 * k - 9) j) = x)) (fun _ u7 => s.size - (intOf u7).toNat)
        case atStart => exact ⟨s.size - 9 * k - 9, 0, by omega, by omega, by go_num, rfl, by unfold Hid; rw [mid_start]; rfl⟩
        case round =>
          obtain ⟨j, x, hj1, hj2, rfl, rfl, HX⟩ := hrel
          have hx0 := mid_lt hd (s.size - 9 * k - 9) j
          rw [HX.out] at hx0
          by_cases hjE : j < s.size - 9 * k
          · have hjs : j < s.size := by omega
            have hp8 : 10 ^ (j - (s.size - 9 * k - 9)) ≤ 10 ^ 8 := Nat.pow_le_pow_right (by omega) (by omega)
            have hx1 : x < 100000000 := Nat.lt_of_lt_of_le hx0 hp8
            clear hp8
            have hdj : Fr.isDig (s[j]'hjs) = true := List.all_eq_true.1 hd _ (by show s.data[j] ∈ _; exact Array.getElem_mem_toList _)
            unfold Fr.isDig at hdj
            simp only [Bool.and_eq_true, decide_eq_true_eq] at hdj
            have hd1 : (48 : Int) ≤ ((s[j]'hjs).toNat : Int) := by omega
            have hd2 : ((s[j]'hjs).toNat : Int) ≤ 57 := by omega
            have HS := Lib.hid (mid_snoc s.data.toList (s.size - 9 * k - 9) j hj1 (by show j < s.data.toList.length; exact hjs))
            clear hdj hx0
            go_wp2
            go_round
            case rel =>
              refine ⟨j + 1, x * 10 + ((s[j]'hjs).toNat - 48), by omega, by omega, by go_num, by refine congrArg _ ?_; omega, ?_⟩
              unfold Hid
              rw [HS.out, dv_snoc, HX.out]
              rfl
            case measure => simp [intOf]; omega
          · have hjE2 : j = s.size - 9 * k := by omega
            have HX2 := Lib.hid (show Fr.dv (mid s.data.toList (s.size - 9 * k - 9) (s.size - 9 * k)) = x by have h := HX.out; rw [hjE2] at h; exact h)
            have hx9 : 10 ^ (j - (s.size - 9 * k - 9)) ≤ 10 ^ 9 := Nat.pow_le_pow_right (by omega) (by omega)
            have hx1 : x < 1000000000 := Nat.lt_of_lt_of_le hx0 hx9
            have hal : a.length ≤ 200 := by rw [HA.out]; omega
            clear hjE2 hx9 hx0
            go_wp2_with (at_builtin; refine wpList_append_nat rfl _ _ 103 rfl 142 i0 .u32 4 Tryz.underlying103 hi hz0 hz1 hz2 (by omega) _ _ a [x] rfl rfl w.heap.size (hrow.below ((Below.refl _ _).alloc (Nat.le_refl _) _) (Nat.le_refl _)) ((Row.one 0 _ _ _ (Nat.zero_le _) x _ rfl).sees) (by simp; omega) (by have := hbel.size; simp; omega) ?_; intro v5 w5 hr5 hb5)
            go_roundw
            case rel =>
              refine ⟨k + 1, a ++ [x], by refine congrArg _ ?_; omega, by omega, ?_, hr5, ?_, (hbel.alloc hbel.size _).trans hb5, ?_⟩
              · unfold Hid; rw [List.length_append, HA.out]; rfl
              · intro z hz
                rcases List.mem_append.1 hz with h | h
                · exact hsm z h
                · rw [List.mem_singleton.1 h]; exact hx1
              · exact chunk_step (by rfl) hpos HA.out HV.out HX2.out
            case measure => simp [intOf]; omega
    · have CT := Lib.hid (trimmed_own u4 a wr hrow.sees hsm)
      have HR := Lib.hid (World.ownsRow.lt hrow)
      have HV2 := Lib.hid (show Limb.val 1000000000 a = Fr.dv s.data.toList by have h := HV.out; rw [show s.size - 9 * k = 0 by omega, List.drop_zero] at h; exact h)
      have hal : a.length ≤ s.size / 9 + 1 := by rw [HA.out]; omega
      clear hd
      go_wp2_with (go_at_call 147; refine (CT.out).mono ?_; rintro e w' ⟨r, rfl, rfl, hr, hro⟩)
      go_ret
      rw [HV2.out] at hr
      exact ⟨r, rfl, hbel, hr.up hal, fun g hg e => by rw [hro] at e; have := (HR.out g e).1; omega⟩

theorem read_any (s : ByteArray) (w : World) (hs : s.size ≤ 1000) (hd : s.data.toList.all Fr.isDig = true) :
    Calls Tryz.prog 117 #[.string s] w fun e w' => ∃ r, e = .returned r ∧ Below w.heap.size w w' ∧ IsNat .u32 1000000000 w' r (Fr.dv s.data.toList) (s.size / 9 + 1) :=
  (read_own s w hs hd).mono fun _ _ ⟨r, h1, h2, h3, _⟩ => ⟨r, h1, h2, h3⟩

end Go.Proofs.YtldclpdmcopgnaaGreatDoor

namespace Go.Proofs.YtldclpdmcopgnaaGreatDoor
open Go.RowKit

theorem Tryz.infoU8 : (Tryz.prog.info? 5).map (fun i => (i.zero, i.size, i.bytes)) = some (some (.int .u8 0), 1, 1) := by kernel_rfl

def Digits (n N m : Nat) (s : List Nat) : Prop := ∀ t, t < m → s.getD (N - 1 - t) 0 = 48 + n / 10 ^ t % 10
theorem Digits.put {n N m : Nat} {s : List Nat} (h : Digits n N m s) (hm : m < N) (hl : s.length = N) {x : Nat} (hx : x = 48 + n / 10 ^ m % 10) : Digits n N (m + 1) (s.set (N - 1 - m) x) := by
  intro t ht
  by_cases he : t = m
  · subst he
    rw [Limb.getD_set_eq _ _ _ (by omega), hx]
  · rw [Limb.getD_set_ne _ _ _ _ (by omega)]
    exact h t (by omega)

set_option maxRecDepth 100000 in
set_option maxHeartbeats 1000000 in
theorem text_any (hT : ∀ (s : ByteArray) (w : World), Calls Tryz.prog 159 #[.string s, .string ⟨#[48]⟩] w fun e w' => e = .returned (.string ⟨(Lib.trimLeftB s.data.toList 48).toArray⟩) ∧ w' = w)
    (v : Value) (n p : Nat) (w : World) (hv : IsNat .u32 1000000000 w v n p) (hp : p ≤ 1000) :
    Calls Tryz.prog 143 #[v] w fun e w' => e = .returned (.string ⟨(Fr.render n).toArray⟩) ∧ Below w.heap.size w w' := by
  obtain ⟨l, sl, nl, el, ll⟩ := hv
  obtain ⟨ao, ca, rfl, a1, a2, CL⟩ := sl.opened
  obtain ⟨i0, hi, hz0, hz1, hz2⟩ := info_parts Tryz.infoU8
  rcases Nat.eq_zero_or_pos l.length with h0 | h0
  · have hn : n = 0 := by rw [← el]; exact (Limb.norm_zero (by omega) nl).2 h0
    have hb0 : ((l.length : Int) == 0) = true := by simp [h0]
    clear h0 el nl
    subst hn
    go_enter Tryz.func143, Tryz.ntmps143
    go_wp2
    go_ret
    exact ⟨rfl, Below.refl _ _⟩
  · have hn0 : 0 < n := by rw [← el]; exact (Limb.norm_pos (by omega) nl).2 h0
    have hb0 : ((l.length : Int) == 0) = false := beq_eq_false_iff_ne.2 (by omega)
    obtain ⟨N, hN⟩ : ∃ N, N = 9 * l.length := ⟨_, rfl⟩
    have n1 : N ≤ 9 * l.length := by omega
    have n2 : 9 * l.length ≤ N := by omega
    have hnN : n < 10 ^ N := by
      have := Limb.val_lt nl.1
      rw [el, show (1000000000 : Nat) = 10 ^ 9 from rfl, ← Nat.pow_mul, ← hN] at this
      exact this
    have EL := Lib.hid el
    have HNN := Lib.hid hnN
    clear sl el hN hnN
    go_enter Tryz.func143, Tryz.ntmps143
    go_wp2_with (first
      | (at_make; refine wpList_make_nat _ rfl _ _ 175 rfl 5 i0 .u8 1 Tryz.underlying175 hi hz0 hz1 hz2 (by omega) _ _ _ _ N rfl rfl (by omega) (by omega) (by omega) ?_; intro w1 hown1 hb1)
      | (go_at_call 146; refine (width_any _).mono ?_; rintro e w' ⟨rfl, rfl⟩))
    go_loopw [20] (fun u20 wr => ∃ (i : Nat) (s : List Nat), i ≤ l.length ∧ u20 = .int .i64 i ∧ Below w.heap.size w wr ∧ Own .u8 5 wr w.heap.size s ∧ Hid (s.length = N) ∧ Digits n N (9 * i) s) (fun u20 _ => l.length - (intOf u20).toNat)
    case atStart => exact ⟨0, _, Nat.zero_le _, rfl, hb1, hown1, Lib.hid List.length_replicate, fun t ht => by omega⟩
    case round =>
      obtain ⟨i, s, hi1, rfl, hbel, hown, HSL, HD⟩ := hrel
      by_cases hlt : i < l.length
      · have hx0 := Limb.small_getD (by omega) nl.1 i
        obtain ⟨b0, off, hao, hb0, hca⟩ := CL.at hbel hlt
        cases hao
        obtain ⟨x, hx⟩ : ∃ x, l.getD i 0 = x := ⟨_, rfl⟩
        rw [hx] at hx0 hca
        have HX := Lib.hid hx
        clear hx
        go_wp2
        go_loopw [6, 33] (fun u6 u33 wi => ∃ (k y : Nat) (s' : List Nat), k ≤ 9 ∧ u33 = .int .i64 k ∧ u6 = .int .u32 y ∧ y < 1000000000 ∧ Hid (y = x / 10 ^ k) ∧ Below w.heap.size w wi ∧ Own .u8 5 wi w.heap.size s' ∧ Hid (s'.length = N) ∧ Digits n N (9 * i + k) s') (fun _ u33 _ => 9 - (intOf u33).toNat)
        case atStart => exact ⟨0, x, s, by omega, rfl, rfl, hx0, by unfold Hid; simp, hbel, hown, HSL, HD⟩
        case round =>
          obtain ⟨k, y, s', hk1, rfl, rfl, hy1, HY, hbi, howni, HSL2, HD2⟩ := hrel
          by_cases hk : k < 9
          · have hlen : N - 1 - 9 * i - k < s'.length := by rw [HSL2.out]; omega
            have hcell := howni.cell hlen
            have hfree := howni.free (N - 1 - 9 * i - k)
            generalize s'.getD (N - 1 - 9 * i - k) 0 = z at hcell
            go_wp2
            go_roundw
            case rel =>
              refine ⟨k + 1, y / 10, s'.set (N - 1 - 9 * i - k) (48 + y % 10), by omega, by go_num, by go_num, by omega, ?_, hbi.setCell (Nat.le_refl _) _, howni.put _ _ _ (by omega), ?_, ?_⟩
              · unfold Hid; rw [HY.out, Nat.div_div_eq_div_mul, Nat.pow_succ]
              · unfold Hid; rw [List.length_set]; exact HSL2.out
              · rw [show N - 1 - 9 * i - k = N - 1 - (9 * i + k) by omega]
                exact HD2.put (by omega) HSL2.out (by rw [HY.out, ← HX.out, ← EL.out, Fr.place nl.1 i k hk])
            case measure => simp [intOf]; omega
          · have hk9 : k = 9 := by omega
            subst hk9
            go_wp2
            go_roundw
            case rel => exact ⟨i + 1, s', by omega, by go_num, hbi, howni, HSL2, HD2⟩
            case measure => simp [intOf]; omega
      · have hiN : 9 * i = N := by omega
        have hD3 : ∀ t, t < N → s.getD (N - 1 - t) 0 = 48 + n / 10 ^ t % 10 := by rw [hiN] at HD; exact HD
        have HE := Lib.hid (Fr.text_end HSL.out hD3 HNN.out hn0)
        have hcells : ∀ j, j < N → wr.cell? ⟨w.heap.size, 0 + j, none⟩ = some (.int .u8 ((s.map fun x => ((x : Nat) : Int)).getD j 0)) := by
          intro j hj
          rw [Nat.zero_add, hown.cell (by rw [HSL.out]; exact hj), List.getD_eq_getElem?_getD, List.getD_eq_getElem?_getD, List.getElem?_map, List.getElem?_eq_getElem (by rw [HSL.out]; exact hj)]
          rfl
        have hconv := run_convert_bytes_arg (P := Tryz.prog) wr 175 5 Tryz.underlying175 Tryz.underlying5 w.heap.size 0 N N (s.map fun x => ((x : Nat) : Int)) (by rw [List.length_map]; exact HSL.out) hcells 9 Tryz.underlying9
        clear hcells hD3 hiN HD
        go_wp2_with (go_at_call 159; refine (hT _ _).mono ?_; rintro e w' ⟨rfl, rfl⟩)
        go_ret
        refine ⟨?_, hbel⟩
        rw [← HE.out]
        simp [strOfNums, Lib.trimLeftB, List.map_map, Function.comp_def]

end Go.Proofs.YtldclpdmcopgnaaGreatDoor

