/- The contracts of Number, Digits, dots of the reference. -/
import Derived.Test.YtecfbncfhehdcaaDoorTh
import Derived.Lib.ItoaNum
namespace Tm
open Fr
/-- What Number returns. -/
def numV (l : List UInt8) : Int × Bool := if numOk l = true then (((dv l : Nat) : Int), true) else (0, false)
theorem dv_take2 {l : List UInt8} (h3 : l.length ≤ 7) (j : Nat) (h4 : (l.take j).all isDig = true) : dv (l.take j) < 10000000 := by
  have h5 : (l.take j).length ≤ 7 := Nat.le_trans (by rw [List.length_take]; omega) h3
  exact Nat.lt_of_lt_of_le (dv_lt h4) (Nat.le_trans (Nat.pow_le_pow_right (by omega) h5) (by decide))
def pre (m : Nat) : List UInt8 := if m = 0 then [] else render m
theorem render_step (m : Nat) : render m = pre (m / 10) ++ [byte (m % 10)] := by
  rw [← dec_render]
  by_cases h : m < 10
  · rw [dec_one h, show m / 10 = 0 by omega, show m % 10 = m by omega]; rfl
  · rw [dec_step h]
    unfold pre
    rw [if_neg (by omega), dec_render]
theorem pre_pos {m : Nat} (h : 0 < m) : pre m = render m := by unfold pre; rw [if_neg (by omega)]
end Tm
namespace Go.Proofs.YtecfbncfhehdcaaDoor
open Go.RowKit

theorem num_pair {l : List UInt8} {x : Int} {b : Bool} (h : Tm.numV l = (x, b)) : Ending.returned (.tuple #[.int .i64 x, .bool b]) = Ending.returned (.tuple #[.int .i64 (Tm.numV l).1, .bool (Tm.numV l).2]) := by rw [h]
theorem ret_ib {a b : Int} {c : Bool} (h : a = b) : Ending.returned (.tuple #[.int .i64 a, .bool c]) = Ending.returned (.tuple #[.int .i64 b, .bool c]) := by rw [h]
theorem ret_str {a b : ByteArray} (h : a = b) : Ending.returned (.string a) = Ending.returned (.string b) := by rw [h]
theorem num_bad {l : List UInt8} (h : Tm.numOk l = false) : Tm.numV l = (0, false) := by unfold Tm.numV; rw [h]; rfl
theorem num_good {l : List UInt8} (h : Tm.numOk l = true) : Tm.numV l = (((Fr.dv l : Nat) : Int), true) := by unfold Tm.numV; rw [if_pos h]

set_option maxRecDepth 100000 in
theorem rNumber_any (s : ByteArray) (w : World) (hs : s.size ≤ 1000000) : Calls Tryd.prog 89 #[.string s] w fun e w' => e = .returned (.tuple #[.int .i64 (Tm.numV s.data.toList).1, .bool (Tm.numV s.data.toList).2]) ∧ w = w' := by
  rcases num_cases s with ⟨e1, z0, hr⟩ | ⟨h7, e1, hr⟩ | ⟨hpos, h7, e1, f1, f2, f3, hr⟩ | ⟨hpos, h7, e1, hway, hr⟩
  · rw [num_bad hr]
    go_enter Tryd.func89, Tryd.ntmps89
    go_wp2
    go_ret2
    exact ⟨rfl, rfl⟩
  · rw [num_bad hr]
    go_enter Tryd.func89, Tryd.ntmps89
    go_wp2
    go_ret2
    exact ⟨rfl, rfl⟩
  · rw [num_bad hr]
    have f4 : (1 : Int) < (s.size : Int) := by omega
    go_enter Tryd.func89, Tryd.ntmps89
    go_wp2
    go_ret2
    exact ⟨rfl, rfl⟩
  · obtain ⟨R, hR⟩ : ∃ R, Tm.numV s.data.toList = R := ⟨_, rfl⟩
    rw [hR]
    have HG := fun (h : s.data.toList.all Fr.isDig = true) => Lib.hid (show R = (((Fr.dv s.data.toList : Nat) : Int), true) by rw [← hR]; exact num_good (by rw [hr]; exact h))
    have HB := fun (h : s.data.toList.all Fr.isDig = false) => Lib.hid (show R = (0, false) by rw [← hR]; exact num_bad (by rw [hr]; exact h))
    have h7n : s.size ≤ 7 := by omega
    have HT := fun (j : Nat) (h : (s.data.toList.take j).all Fr.isDig = true) => Lib.hid (Tm.dv_take2 (l := s.data.toList) h7n j h)
    clear hR hr
    obtain ⟨x, b⟩ := R
    have hw2 : ((s.size : Int) ≤ 1) ∨ ((1 : Int) < (s.size : Int) ∧ (((s[0]'hpos).toNat : Int) == 48) = false) := by
      rcases hway with ⟨f1, f2, f3⟩ | f1
      · left; omega
      · by_cases h : (1 : Int) < (s.size : Int)
        · exact .inr ⟨h, by simpa using f1⟩
        · exact .inl (by omega)
    clear hway
    rcases hw2 with f3 | ⟨f3, f1⟩
    all_goals
      go_enter Tryd.func89, Tryd.ntmps89
      go_wp2
      go_loop [4, 5] (fun u4 u5 => ∃ j : Nat, j ≤ s.size ∧ u5 = .int .i64 j ∧ ∃ n : Nat, u4 = .int .i64 n ∧ n < 10000000 ∧ Hid ((s.data.toList.take j).all Fr.isDig = true) ∧ Hid (n = Fr.dv (s.data.toList.take j))) (fun _ u5 => s.size - (intOf u5).toNat)
      case atStart => exact ⟨0, Nat.zero_le _, rfl, 0, rfl, by omega, rfl, rfl⟩
      case round =>
        obtain ⟨j, hj, rfl, n, rfl, hn7, HJ, HN⟩ := hrel
        by_cases hjd : j < s.size
        · have hs1 := all_step s j hjd
          rw [HJ.out, Bool.true_and] at hs1
          have HS := Lib.hid hs1
          clear hs1
          by_cases g1 : (48 : Int) ≤ ((s[j]'hjd).toNat : Int)
          · by_cases g2 : ((s[j]'hjd).toNat : Int) ≤ 57
            · have hdj : Fr.isDig (s[j]'hjd) = true := by unfold Fr.isDig; simp; omega
              have HG2 := Lib.hid hdj
              have HV := Lib.hid (show Fr.dv (s.data.toList.take (j + 1)) = Fr.dv (s.data.toList.take j) * 10 + Fr.dig (s[j]'hjd) by rw [take_step s j hjd, Tm.dv_snoc])
              have HL := (HT (j + 1) (by rw [HS.out]; exact hdj))
              clear hdj
              go_wp2
              exact ⟨⟨j + 1, by omega, by go_num, n * 10 + Fr.dig (s[j]'hjd), by unfold Fr.dig; congr 1; omega, by have h := HL.out; rw [HV.out, ← HN.out] at h; exact h, by unfold Hid; rw [HS.out]; exact HG2.out, by unfold Hid; rw [HV.out, HN.out]⟩, by simp [intOf]; omega⟩
            · have HF := HB (not_all s j hjd (by unfold Fr.isDig; simp; omega))
              go_wp2
              go_ret2
              cases HF.out
              exact ⟨rfl, rfl⟩
          · have HF := HB (not_all s j hjd (by unfold Fr.isDig; simp; omega))
            go_wp2
            go_ret2
            cases HF.out
            exact ⟨rfl, rfl⟩
        · have HF := HG (by have h := HJ.out; rw [full_take s j (by omega)] at h; exact h)
          have HF2 := Lib.hid (full_take s j (by omega))
          go_wp2
          go_ret2
          cases HF.out
          have e := HN.out
          rw [HF2.out] at e
          exact ⟨ret_ib (congrArg Int.ofNat e), rfl⟩

theorem dig_piece (d : Nat) (hd : d < 10) : (ByteArray.mk #[48, 49, 50, 51, 52, 53, 54, 55, 56, 57]).extract d (d + 1) = ⟨#[Fr.byte d]⟩ := by
  match d, hd with
  | 0, _ => rfl
  | 1, _ => rfl
  | 2, _ => rfl
  | 3, _ => rfl
  | 4, _ => rfl
  | 5, _ => rfl
  | 6, _ => rfl
  | 7, _ => rfl
  | 8, _ => rfl
  | 9, _ => rfl
theorem cat_lists (a b : List UInt8) : (ByteArray.mk a.toArray) ++ ⟨b.toArray⟩ = ⟨(a ++ b).toArray⟩ := by
  apply ByteArray.ext
  rw [ByteArray.data_append]
  simp
theorem dig_slice (d : Nat) (hd : d < 10) (w : World) :
    (Instr.slice 9 (.string ⟨#[48, 49, 50, 51, 52, 53, 54, 55, 56, 57]⟩) (some (.int .i64 (d : Int))) (some (.int .i64 ((d : Int) + 1))) none).run Tryd.prog w = .ok (.string ⟨#[Fr.byte d]⟩) w := by
  rw [run_slice_string w 9 _ .i64 .i64 (d : Int) ((d : Int) + 1) Tryd.underlying9 (by omega) (by omega) (by show (d : Int) + 1 ≤ 10; omega)]
  rw [show ((d : Int)).toNat = d by omega, show ((d : Int) + 1).toNat = d + 1 by omega, dig_piece d hd]
def emp : Value → Nat
  | .string s => if s.size = 0 then 1 else 0
  | _ => 0

end Go.Proofs.YtecfbncfhehdcaaDoor

