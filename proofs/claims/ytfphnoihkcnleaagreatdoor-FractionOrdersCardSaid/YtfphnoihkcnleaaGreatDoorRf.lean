/- The contract of the function of the reference that writes natural numbers. -/
import Derived.Test.YtfphnoihkcnleaaGreatDoorRe
import Derived.Test.YtfphnoihkcnleaaGreatDoorSmall
namespace Go.Proofs.YtfphnoihkcnleaaGreatDoor
open Go.RowKit

theorem dig_step {st : List UInt8} {p k n D v : Nat} (hp : st.length = p) (hk : k < 6) (h : Fr.dv st + 10 ^ p * (n + 10 ^ (6 - k) * D) = v) :
    Fr.dv (Fr.byte (n % 10) :: st) + 10 ^ (p + 1) * (n / 10 + 10 ^ (6 - (k + 1)) * D) = v := by
  rw [Fr.dv_cons, Fr.dig_byte (by omega), hp, ← h, Nat.pow_succ, Nat.mul_assoc, Nat.mul_comm (n % 10)]
  have h1 : 10 ^ (6 - k) = 10 * 10 ^ (6 - (k + 1)) := by rw [show 6 - k = (6 - (k + 1)) + 1 by omega, Nat.pow_succ, Nat.mul_comm]
  rw [h1, Nat.mul_assoc 10]
  generalize 10 ^ (6 - (k + 1)) * D = X
  have h2 : n = n % 10 + 10 * (n / 10) := by omega
  have h3 : n + 10 * X = n % 10 + 10 * (n / 10 + X) := by omega
  rw [h3, Nat.mul_add (10 ^ p)]
  omega
theorem dig_piece (d : Nat) (hd : d < 10) : (ByteArray.mk #[48, 49, 50, 51, 52, 53, 54, 55, 56, 57]).extract d (d + 1) = ⟨#[Fr.byte d]⟩ := by
  match d, hd with
  | 0, _ => rfl
  | 1, _ => rfl
  | 2, _ => rfl
  | 3, _ => rfl
  | 4, _ => rfl
  | 5, _ => rfl
  | 6, _ => rfl
  | 7, _ => rfl
  | 8, _ => rfl
  | 9, _ => rfl
theorem dig_cat (c : UInt8) (st : List UInt8) : (ByteArray.mk #[c]) ++ ⟨st.toArray⟩ = ⟨(c :: st).toArray⟩ := by
  apply ByteArray.ext
  rw [ByteArray.data_append]
  simp
theorem dig_slice (d : Nat) (hd : d < 10) (w : World) :
    (Instr.slice 9 (.string ⟨#[48, 49, 50, 51, 52, 53, 54, 55, 56, 57]⟩) (some (.int .i64 (d : Int))) (some (.int .i64 ((d : Int) + 1))) none).run Tryz.prog w = .ok (.string ⟨#[Fr.byte d]⟩) w := by
  rw [run_slice_string w 9 _ .i64 .i64 (d : Int) ((d : Int) + 1) Tryz.underlying9 (by omega) (by omega) (by show (d : Int) + 1 ≤ 10; omega)]
  rw [show ((d : Int)).toNat = d by omega, show ((d : Int) + 1).toNat = d + 1 by omega, dig_piece d hd]

set_option maxRecDepth 100000 in
set_option maxHeartbeats 2000000 in
theorem rdigits_any {v : Value} {m p : Nat} {w : World} (hv : IsNat .i64 1000000 w v m p) (hp : p ≤ 900) :
    Calls Tryz.prog 97 #[v] w fun e w' => e = .returned (.string ⟨(Fr.render m).toArray⟩) ∧ ∃ n, w' = w.drewN n := by
  obtain ⟨a, sa, na, ea, la⟩ := hv
  obtain ⟨ao, ca, rfl, a1, a2, CA⟩ := sa.opened
  clear sa
  by_cases h0 : a.length = 0
  · have hm : m = 0 := by rw [← ea]; exact (Limb.norm_zero (by omega) na).2 h0
    have hb0 : ((a.length : Int) == 0) = true := by simp [h0]
    subst hm
    clear ea na h0 CA
    go_enter Tryz.func97, Tryz.ntmps97
    go_wp2
    go_ret
    exact ⟨rfl, 0, rfl⟩
  · have hb0 : ((a.length : Int) == 0) = false := by rw [beq_eq_false_iff_ne]; omega
    have htop := na.2 (by omega)
    have nas := na.1
    have EA := Lib.hid ea
    have HTOP := Lib.hid htop
    clear ea na htop
    go_enter Tryz.func97, Tryz.ntmps97
    go_wp2
    go_loopw [3, 4] (fun u3 u4 wr => ∃ (i n : Nat) (st : List UInt8), i ≤ a.length ∧ u4 = .int .i64 i ∧ u3 = .string ⟨st.toArray⟩ ∧ wr = w.drewN n ∧ Hid (st.all Fr.isDig = true) ∧
        Hid (i < a.length → st.length = 6 * i ∧ Fr.dv st + 10 ^ (6 * i) * Limb.val 1000000 (a.drop i) = m) ∧ Hid (i = a.length → st ≠ [] ∧ st.head? ≠ some 48 ∧ Fr.dv st = m)) (fun _ u4 _ => a.length - (intOf u4).toNat)
    case atStart => exact ⟨0, 0, [], Nat.zero_le _, rfl, rfl, rfl, Lib.hid rfl, Lib.hid (fun _ => ⟨rfl, by rw [List.drop_zero, EA.out]; simp [Fr.dv]⟩), Lib.hid (fun h => by omega)⟩
    case round =>
      obtain ⟨i, n, st, hi, rfl, rfl, rfl, HD, HM, HE⟩ := hrel
      by_cases hlt : i < a.length
      · obtain ⟨b0, off, rfl, hb0', hca⟩ := CA.at (below_drewN w n) hlt
        have hx0 := Limb.small_getD (by omega) nas i
        obtain ⟨x, hx⟩ : ∃ x, a.getD i 0 = x := ⟨_, rfl⟩
        rw [hx] at hx0 hca
        obtain ⟨D, hD⟩ : ∃ D, Limb.val 1000000 (a.drop (i + 1)) = D := ⟨_, rfl⟩
        have hsp : Limb.val 1000000 (a.drop i) = x + 1000000 * D := by rw [Limb.val_drop, hx, hD]
        obtain ⟨m1, m2⟩ := HM.out hlt
        rw [hsp] at m2
        have hlast : i + 1 = a.length → 0 < x := by
          intro h
          have := HTOP.out
          rw [← h, Nat.add_sub_cancel, hx] at this
          exact this
        have hD0 : i + 1 = a.length → D = 0 := by
          intro h; rw [← hD, List.drop_eq_nil_of_le (by omega)]; rfl
        have HX := Lib.hid hx
        have HDD := Lib.hid hD
        have M1 := Lib.hid m1
        have M2 := Lib.hid m2
        have HL := Lib.hid hlast
        have HD0 := Lib.hid hD0
        clear hx hD hsp m1 m2 hlast hD0 HM HE
        go_wp2
        go_loop [3, 5, 6] (fun u3 u5 u6 => ∃ (k y : Nat) (sq : List UInt8), k ≤ 6 ∧ y < 1000000 ∧ u6 = .int .i64 k ∧ u5 = .int .i64 y ∧ u3 = .string ⟨sq.toArray⟩ ∧ Hid (sq.all Fr.isDig = true) ∧ Hid (y < 10 ^ (6 - k)) ∧ Hid (sq.length = 6 * i + k) ∧
            Hid (Fr.dv sq + 10 ^ (6 * i + k) * (y + 10 ^ (6 - k) * D) = m) ∧ Hid (i + 1 = a.length → 0 < y ∨ (sq ≠ [] ∧ sq.head? ≠ some 48))) (fun _ _ u6 => 6 - (intOf u6).toNat)
        case atStart => exact ⟨0, x, st, by omega, hx0, rfl, rfl, rfl, HD, Lib.hid hx0, M1, M2, Lib.hid fun h => .inl (HL.out h)⟩
        case round =>
          obtain ⟨k, y, sq, hk, hy6, rfl, rfl, rfl, QD, QY, QL, QM, QH⟩ := hrel
          by_cases hk6 : k < 6
          · by_cases hgo : (i + 1 < a.length) ∨ 0 < y
            · obtain ⟨d, hd⟩ : ∃ d, y % 10 = d := ⟨_, rfl⟩
              have hd1 : (y : Int) % 10 = (d : Int) := by omega
              have hd9 : d < 10 := by omega
              have HS := Lib.hid (dig_step QL.out hk6 QM.out)
              have hsl := dig_slice d hd9
              have HC := Lib.hid (dig_cat (Fr.byte d) sq)
              have hrel2 : ∃ (k' y' : Nat) (sq' : List UInt8), k' ≤ 6 ∧ y' < 1000000 ∧ Value.int .i64 ((k : Int) + 1) = .int .i64 k' ∧ Value.int .i64 ((y : Int) / 10) = .int .i64 y' ∧ Value.string ((ByteArray.mk #[Fr.byte d]) ++ ⟨sq.toArray⟩) = .string ⟨sq'.toArray⟩ ∧ Hid (sq'.all Fr.isDig = true) ∧ Hid (y' < 10 ^ (6 - k')) ∧ Hid (sq'.length = 6 * i + k') ∧
                  Hid (Fr.dv sq' + 10 ^ (6 * i + k') * (y' + 10 ^ (6 - k') * D) = m) ∧ Hid (i + 1 = a.length → 0 < y' ∨ (sq' ≠ [] ∧ sq'.head? ≠ some 48)) := by
                refine ⟨k + 1, y / 10, Fr.byte d :: sq, by omega, by omega, by refine congrArg _ ?_; omega, by refine congrArg _ ?_; omega, by rw [HC.out], ?_, ?_, ?_, ?_, ?_⟩
                · unfold Hid; rw [List.all_cons, QD.out, Fr.isDig_byte hd9]; rfl
                · have := QY.out
                  rw [show 6 - k = (6 - (k + 1)) + 1 by omega, Nat.pow_succ] at this
                  unfold Hid; omega
                · unfold Hid; rw [List.length_cons, QL.out]; omega
                · rw [← hd]; exact HS.out
                · intro h
                  by_cases hz : 0 < y / 10
                  · exact .inl hz
                  · right
                    refine ⟨by simp, ?_⟩
                    intro he
                    have hb : Fr.byte d = 48 := by simpa using he
                    have h1 := Fr.dig_byte hd9
                    rw [hb] at h1
                    have h2 : Fr.dig 48 = 0 := rfl
                    rcases hgo with h3 | h3 <;> omega
              have HR := Lib.hid hrel2
              have hs1 : sq.length ≤ 6000 := by rw [QL.out]; omega
              have hs2 : (ByteArray.mk sq.toArray).size ≤ 6000 := by simpa [ByteArray.size] using hs1
              have hs3 : (ByteArray.mk #[Fr.byte d]).size ≤ 1 := Nat.le_refl _
              clear hrel2 hd
              rcases Nat.lt_or_ge (i + 1) a.length with hl | hl
              · go_wp2
                go_round
                case rel => exact HR.out
                case measure => simp [intOf]; omega
              · have hy0 : 0 < y := by rcases hgo with h | h <;> omega
                go_wp2
                go_round
                case rel => exact HR.out
                case measure => simp [intOf]; omega
            · have hy0 : ¬ 0 < y := by omega
              have hi1 : ¬ i + 1 < a.length := by omega
              go_wp2
              go_roundw
              case rel =>
                refine ⟨i + 1, n, sq, by omega, by go_num, rfl, rfl, QD, Lib.hid (fun h => absurd h hi1), Lib.hid (fun h => ?_)⟩
                rcases QH.out h with h1 | ⟨h1, h2⟩
                · omega
                · have h3 := QM.out
                  rw [HD0.out h, show y = 0 by omega] at h3
                  exact ⟨h1, h2, by simpa using h3⟩
              case measure => simp [intOf]; omega
          · have hk2 : k = 6 := by omega
            have HY := Lib.hid (show y = 0 by have := QY.out; rw [hk2] at this; simp at this; omega)
            have HK := Lib.hid hk2
            clear hk2
            go_wp2
            go_roundw
            case rel =>
              refine ⟨i + 1, n, sq, by omega, by go_num, rfl, rfl, QD, Lib.hid (fun h => ⟨?_, ?_⟩), Lib.hid (fun h => ?_)⟩
              · rw [QL.out, HK.out]; omega
              · have h3 := QM.out
                rw [HY.out, HK.out] at h3
                rw [HDD.out, show 6 * (i + 1) = 6 * i + 6 by omega]
                simpa using h3
              · rcases QH.out h with h1 | ⟨h1, h2⟩
                · rw [HY.out] at h1; omega
                · have h3 := QM.out
                  rw [HD0.out h, HY.out] at h3
                  exact ⟨h1, h2, by simpa using h3⟩
            case measure => simp [intOf]; omega
      · have hie : i = a.length := by omega
        obtain ⟨h1, h2, h3⟩ := HE.out hie
        have HF := Lib.hid (show st = Fr.render m by rw [← h3]; exact (Fr.render_dv HD.out h1 h2).symm)
        clear hie h1 h2 h3
        go_wp2
        go_ret
        rw [HF.out]
        exact ⟨rfl, n, rfl⟩

end Go.Proofs.YtfphnoihkcnleaaGreatDoor
