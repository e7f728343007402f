/- slices.IsSorted of texts; the statement PartReads. -/
import Derived.Test.YtnoaafhgapaicaaDoorPtb
namespace Pt
theorem word_inj : ∀ a, a < 14 → ∀ b, b < 14 → (cat a).word = (cat b).word → a = b := by decide +kernel
end Pt
namespace Go.Proofs.YtnoaafhgapaicaaDoor
open Go.RowKit
theorem isNaN_any (x : ByteArray) (w : World) : Calls Tryd.prog 74 #[.string x] w fun e w' => e = .returned (.bool false) ∧ w' = w := by
  go_enter Tryd.func74, Tryd.ntmps74
  go_wp2
  go_ret
  exact ⟨by simp, rfl⟩
theorem less_any (x y : ByteArray) (w : World) : Calls Tryd.prog 56 #[.string x, .string y] w fun e w' => e = .returned (.bool (Op.bytesLess x.toList y.toList)) ∧ w' = w := by
  have CN := fun z W => Lib.hid (isNaN_any z W)
  go_enter Tryd.func56, Tryd.ntmps56
  go_wp2_with fail
  refine (CN x w).out.mono ?_
  rintro e w1 ⟨rfl, rfl⟩
  go_wp2
  go_ret
  exact ⟨rfl, rfl⟩
set_option maxHeartbeats 4000000 in
set_option maxRecDepth 100000 in
theorem sorted_any (v : Value) (l : List ByteArray) (w : World) (hv : SeeS w v l) (hasc : ∀ i, 0 < i → i < l.length → Op.bytesLess (l.getD i ⟨#[]⟩).toList (l.getD (i - 1) ⟨#[]⟩).toList = false) :
    Calls Tryd.prog 36 #[v] w fun e w' => e = .returned (.bool true) ∧ Below w.heap.size w w' := by
  obtain ⟨a, c, rfl, hl, hc⟩ := hv.at
  have HC := Lib.hid hc
  have HA := Lib.hid hasc
  clear hc hv hasc
  go_enter Tryd.func36, Tryd.ntmps36
  go_wp2
  go_loopw [3] (fun s3 wr => ∃ i : Int, i < l.length ∧ s3 = .int .i64 i ∧ -1 ≤ i ∧ Hid (∃ q, wr = w.drewN q)) (fun s3 _ => (intOf s3).toNat)
  case atStart => exact ⟨(l.length : Int) - 1, by omega, by first | rfl | go_num, by omega, Lib.hid ⟨0, rfl⟩⟩
  case round =>
    obtain ⟨i, hi, rfl, him, HQ⟩ := hrel
    obtain ⟨q, rfl⟩ := HQ.out
    by_cases hi0 : 0 < i
    · obtain ⟨j, rfl⟩ := Int.eq_ofNat_of_zero_le (show 0 ≤ i by omega)
      obtain ⟨m, hm⟩ : ∃ m, m = j - 1 := ⟨_, rfl⟩
      have zm : (j : Int) - 1 = (m : Int) := by omega
      have zm2 : (m : Int) < (l.length : Int) := by omega
      obtain ⟨g, off, rfl, c0⟩ := HC.out j (by omega)
      obtain ⟨g2, off2, he, c1⟩ := HC.out m (by omega)
      simp only [Option.some.injEq, Addr.mk.injEq, and_true] at he
      obtain ⟨rfl, rfl⟩ := he
      have d0 : (w.drewN q).cell? ⟨g, off + j, none⟩ = some (.string (l.getD j ⟨#[]⟩)) := c0
      have d1 : (w.drewN q).cell? ⟨g, off + m, none⟩ = some (.string (l.getD m ⟨#[]⟩)) := c1
      have hlt := HA.out j (by omega) (by omega)
      rw [← hm] at hlt
      have HM := Lib.hid hm
      clear c0 c1 hm
      have CL := fun n => Lib.hid (less_any (l.getD j ⟨#[]⟩) (l.getD m ⟨#[]⟩) ((w.drewN q).drewN n))
      rw [hlt] at CL
      generalize l.getD j ⟨#[]⟩ = x at *
      generalize l.getD m ⟨#[]⟩ = y at *
      generalize hw : w.drewN q = wr at *
      clear hlt
      go_wp2
      go_quiet (first | (go_at_call 56; exact Calls.quiet_of_same (CL _).out))
      go_wp2
      exact ⟨⟨(m : Int), by omega, by first | rfl | go_num, by omega, Lib.hid ⟨_, by rw [← hw, drew2]⟩⟩, by simp [intOf]; omega⟩
    · go_wp2
      go_ret
      exact ⟨rfl, below_drewN _ _⟩
end Go.Proofs.YtnoaafhgapaicaaDoor
