/- The contracts of the reference of tables: Both, Either, Made. -/
import Derived.Test.YtahjdmdgkkienaaGreatDoorUh
namespace Go.Proofs.YtahjdmdgkkienaaGreatDoor
open Go.RowKit

theorem TabI.setBits {W : World} {g : Nat} {n : Int} {b : Nat} (h : TabI W g n b) (c : Nat) : TabI (W.setCell ⟨g, 1, none⟩ (.int .u64 (c : Int))) g n c := by
  obtain ⟨h0, h1, h2, h3, h4⟩ := h
  exact ⟨by simpa using h0, (World.cell?_setCell_other (w := W) (v := .int .u64 (c : Int)) (a := ⟨g, 1, none⟩) (b := ⟨g, 0, none⟩) (by simp)).trans h1, World.cell?_setCell_same' _ _ _ (by rw [h2]; rfl), by rw [World.frozen?_setCell]; exact h3, by rw [World.frozen?_setCell]; exact h4⟩
theorem TabI.other {W : World} {g g' j : Nat} {n : Int} {b : Nat} (v : Value) (h : TabI W g n b) (hne : g' ≠ g) : TabI (W.setCell ⟨g', j, none⟩ v) g n b := by
  obtain ⟨h0, h1, h2, h3, h4⟩ := h
  exact ⟨by simpa using h0, (World.cell?_setCell_other (w := W) (v := v) (a := ⟨g', j, none⟩) (b := ⟨g, 0, none⟩) (fun e => hne (congrArg Addr.block e))).trans h1,
    (World.cell?_setCell_other (w := W) (v := v) (a := ⟨g', j, none⟩) (b := ⟨g, 1, none⟩) (fun e => hne (congrArg Addr.block e))).trans h2, by rw [World.frozen?_setCell]; exact h3, by rw [World.frozen?_setCell]; exact h4⟩
theorem TabI.drew {W : World} {g : Nat} {n : Int} {b : Nat} (h : TabI W g n b) : TabI W.drew g n b := h
/-- A bit that is set. -/
theorem or_bit (b k : Nat) (hb : b < 2 ^ 64) (hk : k < 64) : bits .or .u64 (b : Int) (IntKind.u64.wrap (2 ^ k)) = ((b ||| 2 ^ k : Nat) : Int) := by
  have hp : 2 ^ k < 2 ^ 64 := Nat.pow_lt_pow_right (by omega) hk
  have h0 : 0 < 2 ^ k := Nat.pow_pos (by omega)
  have e2 : IntKind.u64.wrap (2 ^ k) = ((2 ^ k : Nat) : Int) := by
    rw [show ((2 : Int) ^ k) = ((2 ^ k : Nat) : Int) by simp, IntKind.wrap_u64]
    omega
  rw [e2, u64_or_nat _ _ (by omega) (by omega)]

/-- Does a list have a number? -/
def inB (xs : List Nat) (k : Nat) : Bool := xs.contains k
theorem inB_step {xs : List Nat} {k : Nat} (h : ∀ i, i < xs.length → xs.getD i 0 ≠ k) : inB xs k = false := by
  unfold inB
  rw [Bool.eq_false_iff]
  intro h2
  rw [List.contains_iff_mem] at h2
  obtain ⟨i, hi, he⟩ := List.getElem_of_mem h2
  exact h i hi (by rw [List.getD_eq_getElem?_getD, List.getElem?_eq_getElem hi]; exact he)
theorem inB_hit {xs : List Nat} {i k : Nat} (hi : i < xs.length) (h : xs.getD i 0 = k) : inB xs k = true := by
  unfold inB
  rw [List.contains_iff_mem]
  rw [List.getD_eq_getElem?_getD, List.getElem?_eq_getElem hi] at h
  exact List.mem_of_getElem h

set_option maxRecDepth 100000 in
theorem rMade_any (n : Nat) (v : Value) (xs : List Nat) (w : World) (hn : n ≤ 6) (hv : Sees .i64 w v xs) (hxs : xs.length ≤ 64) :
    Calls Tryz.prog 46 #[.int .i64 n, v] w fun e w' => e = .returned (.agg #[.int .i64 n, .int .u64 ((Tt.mk n (inB xs) : Nat) : Int)]) ∧ Below w.heap.size w w' := by
  obtain ⟨ao, cap, rfl, hc1, hc2, hC⟩ := hv.opened
  have hN := Tt.size_le hn
  have CS := fun W => Lib.hid (rSize_any n W (by omega) (by omega))
  rw [Int.toNat_natCast] at CS
  rw [← Tt.upto_all]
  generalize 2 ^ n = N at *
  obtain ⟨P0, P1, L0, z0⟩ := tab2_new w 0 0 n 0 29
  clear hv
  go_enter Tryz.func46, Tryz.ntmps46
  go_wp2
  go_loopw [6] (fun s6 wr => ∃ k : Nat, k ≤ N ∧ s6 = .int .i64 k ∧ TabI wr w.heap.size 0 0 ∧ TabI wr (w.heap.size + 1) n (Tt.upto (inB xs) k) ∧ Hid (Below w.heap.size w wr)) (fun s6 _ => N - (intOf s6).toNat)
  case atStart => exact ⟨0, Nat.zero_le _, rfl, P0, P1, Lib.hid L0⟩
  case round =>
    clear P0 P1 L0
    obtain ⟨k, hk, rfl, T0, T1, HW⟩ := hrel
    have hb64 : Tt.upto (inB xs) k < 2 ^ 64 := Nat.lt_of_lt_of_le (Tt.upto_lt _ _) (Nat.pow_le_pow_right (by omega) (by omega))
    by_cases hkN : k < N
    · have HS := Lib.hid (Tt.upto_succ (inB xs) k)
      obtain ⟨u', hu0⟩ : ∃ u', Tt.upto (inB xs) (k + 1) = u' := ⟨_, rfl⟩
      rw [hu0] at HS
      have HU0 := Lib.hid hu0
      clear hu0
      have HO := Lib.hid (or_bit (Tt.upto (inB xs) k) k hb64 (by omega))
      generalize Tt.upto (inB xs) k = u at *
      clear hb64
      obtain ⟨wo, rfl⟩ : ∃ wo : World, wo = wr := ⟨_, rfl⟩
      obtain ⟨p0, p1, p2, p3, p4⟩ := id T1
      go_wp2_with (go_at_call 44; refine ((CS _).out).mono ?_; rintro e w1 ⟨rfl, rfl⟩)
      go_loopw [7] (fun s7 wr => ∃ i : Nat, i ≤ xs.length ∧ s7 = .int .i64 i ∧ wr = wo ∧ Hid (∀ j, j < i → xs.getD j 0 ≠ k)) (fun s7 _ => xs.length - (intOf s7).toNat)
      case atStart => exact ⟨0, Nat.zero_le _, rfl, rfl, Lib.hid (fun j hj => by omega)⟩
      case round =>
        obtain ⟨i, hi, rfl, rfl, HJ⟩ := hrel
        by_cases hil : i < xs.length
        · obtain ⟨rb, ro, rfl, r1, r2⟩ := hC.at HW.out hil
          cases hx : decide (xs.getD i 0 = k)
          · have hx' : xs.getD i 0 ≠ k := by simpa using hx
            have HJ2 : Hid (∀ j, j < i + 1 → xs.getD j 0 ≠ k) := Lib.hid (fun j hj => by
              by_cases h : j = i
              · rw [h]; exact hx'
              · exact HJ.out j (by omega))
            have hxb : ((xs.getD i 0 : Nat) : Int) ≠ (k : Int) := by omega
            have hxb2 : (((xs.getD i 0 : Nat) : Int) == (k : Int)) = false := by simpa using hxb
            generalize ((xs.getD i 0 : Nat) : Int) = y at *
            clear hx hx' hxb
            go_wp2
            go_roundw
            case rel => exact ⟨i + 1, by omega, by go_num, trivial, HJ2⟩
            case measure => simp [intOf]; omega
          · have hx' : xs.getD i 0 = k := by simpa using hx
            have HP := Lib.hid (inB_hit hil hx')
            rw [hx'] at r2
            clear hx hx'
            have hor := HO.out
            have hu' : u' = (u ||| 2 ^ k) := by rw [HS.out, HP.out]; rfl
            have T1' := (T1.setBits u').drew
            have T0' := (T0.other (g' := w.heap.size + 1) (j := 1) (.int .u64 (u' : Int)) (by omega)).drew
            have HW' := Lib.hid (HW.out.setCell (p := ⟨w.heap.size + 1, 1, none⟩) (by show _ ≤ w.heap.size + 1; omega) (.int .u64 (u' : Int))).drew
            rw [← hu'] at hor
            have HU := Lib.hid hu'
            clear hu'
            go_wp2
            go_still_tail 6, (by kernel_rfl)
            change wpList _ _ _ _ _ wr.drew
            go_wp2
            go_roundw
            case rel => exact ⟨k + 1, by omega, by go_num, T0', by rw [HU0.out]; exact T1', HW'⟩
            case measure => simp [intOf]; omega
        · obtain rfl : i = xs.length := by omega
          have HP := Lib.hid (inB_step HJ.out)
          have hu' : u' = u := by rw [HS.out, HP.out]; rfl
          subst hu'
          go_wp2
          go_roundw
          case rel => exact ⟨k + 1, by omega, by go_num, T0, by rw [HU0.out]; exact T1, HW⟩
          case measure => simp [intOf]; omega
    · obtain rfl : k = N := by omega
      obtain ⟨u, hu0⟩ : ∃ u, Tt.upto (inB xs) k = u := ⟨_, rfl⟩
      rw [hu0] at T1
      have HU0 := Lib.hid hu0
      clear hu0
      obtain ⟨p0, p1, p2, p3, p4⟩ := id T1
      obtain ⟨q0, q1, q2, q3, q4⟩ := id T0
      go_wp2_with (go_at_call 44; refine ((CS _).out).mono ?_; rintro e w1 ⟨rfl, rfl⟩)
      exact bodyPost_ret (v := .agg #[.int .i64 n, .int .u64 u]) (by simp [results, Tryz.results46, go_sem, q1, q2]) rfl ⟨by rw [HU0.out], (HW.out.setCell (p := ⟨w.heap.size, 0, none⟩) (Nat.le_refl _) _).setCell (p := ⟨w.heap.size, 1, none⟩) (Nat.le_refl _) _⟩

end Go.Proofs.YtahjdmdgkkienaaGreatDoor

