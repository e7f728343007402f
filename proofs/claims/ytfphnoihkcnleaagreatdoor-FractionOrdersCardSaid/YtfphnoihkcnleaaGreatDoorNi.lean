/- The contract of the decimal digits of natural numbers in package fraction. -/
import Derived.Test.YtfphnoihkcnleaaGreatDoorNd
import Derived.Test.YtfphnoihkcnleaaGreatDoorTxt
import Derived.Lib.TrimByte
import Derived.Laws.BytesArg
namespace Go.Proofs.YtfphnoihkcnleaaGreatDoor
open Go.RowKit

theorem Tryz.infoU8 : (Tryz.prog.info? 5).map (fun i => (i.zero, i.size, i.bytes)) = some (some (.int .u8 0), 1, 1) := by kernel_rfl

def Digits (n N m : Nat) (s : List Nat) : Prop := ∀ t, t < m → s.getD (N - 1 - t) 0 = 48 + n / 10 ^ t % 10
theorem Digits.put {n N m : Nat} {s : List Nat} (h : Digits n N m s) (hm : m < N) (hl : s.length = N) {x : Nat} (hx : x = 48 + n / 10 ^ m % 10) : Digits n N (m + 1) (s.set (N - 1 - m) x) := by
  intro t ht
  by_cases he : t = m
  · subst he
    rw [Limb.getD_set_eq _ _ _ (by omega), hx]
  · rw [Limb.getD_set_ne _ _ _ _ (by omega)]
    exact h t (by omega)

set_option maxRecDepth 100000 in
set_option maxHeartbeats 1000000 in
theorem text_any (hT : ∀ (s : ByteArray) (w : World), Calls Tryz.prog 126 #[.string s, .string ⟨#[48]⟩] w fun e w' => e = .returned (.string ⟨(Lib.trimLeftB s.data.toList 48).toArray⟩) ∧ w' = w)
    (v : Value) (n p : Nat) (w : World) (hv : IsNat .u32 1000000000 w v n p) (hp : p ≤ 1000) :
    Calls Tryz.prog 104 #[v] w fun e w' => e = .returned (.string ⟨(Fr.render n).toArray⟩) ∧ Below w.heap.size w w' := by
  obtain ⟨l, sl, nl, el, ll⟩ := hv
  obtain ⟨ao, ca, rfl, a1, a2, CL⟩ := sl.opened
  obtain ⟨i0, hi, hz0, hz1, hz2⟩ := info_parts Tryz.infoU8
  rcases Nat.eq_zero_or_pos l.length with h0 | h0
  · have hn : n = 0 := by rw [← el]; exact (Limb.norm_zero (by omega) nl).2 h0
    have hb0 : ((l.length : Int) == 0) = true := by simp [h0]
    clear h0 el nl
    subst hn
    go_enter Tryz.func104, Tryz.ntmps104
    go_wp2
    go_ret
    exact ⟨rfl, Below.refl _ _⟩
  · have hn0 : 0 < n := by rw [← el]; exact (Limb.norm_pos (by omega) nl).2 h0
    have hb0 : ((l.length : Int) == 0) = false := beq_eq_false_iff_ne.2 (by omega)
    obtain ⟨N, hN⟩ : ∃ N, N = 9 * l.length := ⟨_, rfl⟩
    have n1 : N ≤ 9 * l.length := by omega
    have n2 : 9 * l.length ≤ N := by omega
    have hnN : n < 10 ^ N := by
      have := Limb.val_lt nl.1
      rw [el, show (1000000000 : Nat) = 10 ^ 9 from rfl, ← Nat.pow_mul, ← hN] at this
      exact this
    have EL := Lib.hid el
    have HNN := Lib.hid hnN
    clear sl el hN hnN
    go_enter Tryz.func104, Tryz.ntmps104
    go_wp2_with (first
      | (at_make; refine wpList_make_nat _ rfl _ _ 131 rfl 5 i0 .u8 1 Tryz.underlying131 hi hz0 hz1 hz2 (by omega) _ _ _ _ N rfl rfl (by omega) (by omega) (by omega) ?_; intro w1 hown1 hb1)
      | (go_at_call 111; refine (width_any _).mono ?_; rintro e w' ⟨rfl, rfl⟩))
    go_loopw [20] (fun u20 wr => ∃ (i : Nat) (s : List Nat), i ≤ l.length ∧ u20 = .int .i64 i ∧ Below w.heap.size w wr ∧ Own .u8 5 wr w.heap.size s ∧ Hid (s.length = N) ∧ Digits n N (9 * i) s) (fun u20 _ => l.length - (intOf u20).toNat)
    case atStart => exact ⟨0, _, Nat.zero_le _, rfl, hb1, hown1, Lib.hid List.length_replicate, fun t ht => by omega⟩
    case round =>
      obtain ⟨i, s, hi1, rfl, hbel, hown, HSL, HD⟩ := hrel
      by_cases hlt : i < l.length
      · have hx0 := Limb.small_getD (by omega) nl.1 i
        obtain ⟨b0, off, hao, hb0, hca⟩ := CL.at hbel hlt
        cases hao
        obtain ⟨x, hx⟩ : ∃ x, l.getD i 0 = x := ⟨_, rfl⟩
        rw [hx] at hx0 hca
        have HX := Lib.hid hx
        clear hx
        go_wp2
        go_loopw [6, 33] (fun u6 u33 wi => ∃ (k y : Nat) (s' : List Nat), k ≤ 9 ∧ u33 = .int .i64 k ∧ u6 = .int .u32 y ∧ y < 1000000000 ∧ Hid (y = x / 10 ^ k) ∧ Below w.heap.size w wi ∧ Own .u8 5 wi w.heap.size s' ∧ Hid (s'.length = N) ∧ Digits n N (9 * i + k) s') (fun _ u33 _ => 9 - (intOf u33).toNat)
        case atStart => exact ⟨0, x, s, by omega, rfl, rfl, hx0, by unfold Hid; simp, hbel, hown, HSL, HD⟩
        case round =>
          obtain ⟨k, y, s', hk1, rfl, rfl, hy1, HY, hbi, howni, HSL2, HD2⟩ := hrel
          by_cases hk : k < 9
          · have hlen : N - 1 - 9 * i - k < s'.length := by rw [HSL2.out]; omega
            have hcell := howni.cell hlen
            have hfree := howni.free (N - 1 - 9 * i - k)
            generalize s'.getD (N - 1 - 9 * i - k) 0 = z at hcell
            go_wp2
            go_roundw
            case rel =>
              refine ⟨k + 1, y / 10, s'.set (N - 1 - 9 * i - k) (48 + y % 10), by omega, by go_num, by go_num, by omega, ?_, hbi.setCell (Nat.le_refl _) _, howni.put _ _ _ (by omega), ?_, ?_⟩
              · unfold Hid; rw [HY.out, Nat.div_div_eq_div_mul, Nat.pow_succ]
              · unfold Hid; rw [List.length_set]; exact HSL2.out
              · rw [show N - 1 - 9 * i - k = N - 1 - (9 * i + k) by omega]
                exact HD2.put (by omega) HSL2.out (by rw [HY.out, ← HX.out, ← EL.out, Fr.place nl.1 i k hk])
            case measure => simp [intOf]; omega
          · have hk9 : k = 9 := by omega
            subst hk9
            go_wp2
            go_roundw
            case rel => exact ⟨i + 1, s', by omega, by go_num, hbi, howni, HSL2, HD2⟩
            case measure => simp [intOf]; omega
      · have hiN : 9 * i = N := by omega
        have hD3 : ∀ t, t < N → s.getD (N - 1 - t) 0 = 48 + n / 10 ^ t % 10 := by rw [hiN] at HD; exact HD
        have HE := Lib.hid (Fr.text_end HSL.out hD3 HNN.out hn0)
        have hcells : ∀ j, j < N → wr.cell? ⟨w.heap.size, 0 + j, none⟩ = some (.int .u8 ((s.map fun x => ((x : Nat) : Int)).getD j 0)) := by
          intro j hj
          rw [Nat.zero_add, hown.cell (by rw [HSL.out]; exact hj), List.getD_eq_getElem?_getD, List.getD_eq_getElem?_getD, List.getElem?_map, List.getElem?_eq_getElem (by rw [HSL.out]; exact hj)]
          rfl
        have hconv := run_convert_bytes_arg (P := Tryz.prog) wr 131 5 Tryz.underlying131 Tryz.underlying5 w.heap.size 0 N N (s.map fun x => ((x : Nat) : Int)) (by rw [List.length_map]; exact HSL.out) hcells 9 Tryz.underlying9
        clear hcells hD3 hiN HD
        go_wp2_with (go_at_call 126; refine (hT _ _).mono ?_; rintro e w' ⟨rfl, rfl⟩)
        go_ret
        refine ⟨?_, hbel⟩
        rw [← HE.out]
        simp [strOfNums, Lib.trimLeftB, List.map_map, Function.comp_def]

end Go.Proofs.YtfphnoihkcnleaaGreatDoor
