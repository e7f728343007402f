/- The contracts of the digits of package enclosure: read. -/
import Derived.Test.YtldclpdmcopgnaaGreatDoorEm
import Derived.Test.YtldclpdmcopgnaaGreatDoorNh
namespace Limb
theorem val_put {B : Nat} {l : List Nat} {i x z t : Nat} (hi : i < l.length) (hz : l.getD i 0 = z) (hx : x = z + t) : val B (l.set i x) = val B l + B ^ i * t := by
  have h := val_set B l i x hi
  rw [hz, hx, Nat.mul_add] at h
  rw [hx]
  omega
end Limb
namespace Fr
theorem dv_back (l : List UInt8) (n i : Nat) (hn : l.length = n) (hi : i < n) : dv (l.drop (n - (i + 1))) = dig (l[n - (i + 1)]'(by omega)) * 10 ^ i + dv (l.drop (n - i)) := by
  rw [List.drop_eq_getElem_cons (by omega), dv_cons, List.length_drop]
  have e1 : n - (i + 1) + 1 = n - i := by omega
  have e2 : l.length - (n - (i + 1) + 1) = i := by omega
  rw [e2, e1]
end Fr
namespace Go.Proofs.YtldclpdmcopgnaaGreatDoor
open Go.RowKit
theorem Tryz.infoI64 : (Tryz.prog.info? 3).map (fun i => (i.zero, i.size, i.bytes)) = some (some (.int .i64 0), 1, 8) := by kernel_rfl

set_option maxRecDepth 100000 in
set_option maxHeartbeats 1000000 in
theorem dRead_any (s : ByteArray) (w : World) (hs : s.size ≤ 1000) (hd : s.data.toList.all Fr.isDig = true) :
    Calls Tryz.prog 130 #[.string s] w fun e w' => ∃ r, e = .returned r ∧ Below w.heap.size w w' ∧ IsNat .i64 10 w' r (Fr.dv s.data.toList) s.size := by
  obtain ⟨i0, hi, hz0, hz1, hz2⟩ := info_parts Tryz.infoI64
  go_enter Tryz.func130, Tryz.ntmps130
  go_wp2_with (at_make; refine wpList_make_nat _ rfl _ _ 92 rfl 3 i0 .i64 8 Tryz.underlying92 hi hz0 hz1 hz2 (by omega) _ _ _ _ s.size rfl rfl (by omega) (by omega) (by omega) ?_; intro w1 hown1 hb1)
  go_loopw [10] (fun u10 wr => ∃ (i : Nat) (p : List Nat), i ≤ s.size ∧ u10 = .int .i64 i ∧ Below w.heap.size w wr ∧ Own .i64 3 wr w.heap.size p ∧ Hid (p.length = s.size) ∧
      Limb.small 10 p ∧ Hid (Limb.val 10 p = Fr.dv (s.data.toList.drop (s.size - i))) ∧ Hid (∀ j, i ≤ j → p.getD j 0 = 0)) (fun u10 _ => s.size - (intOf u10).toNat)
  case atStart =>
    refine ⟨0, _, Nat.zero_le _, rfl, hb1, hown1, Lib.hid List.length_replicate, Limb.small_replicate _ (by omega), ?_, ?_⟩
    · unfold Hid
      rw [Limb.val_replicate, Nat.sub_zero, List.drop_eq_nil_of_le (by show s.data.toList.length ≤ s.data.toList.length; exact Nat.le_refl _)]
      rfl
    · unfold Hid
      intro j _; simp [List.getElem?_replicate]; split <;> rfl
  case round =>
    obtain ⟨i, p, hi1, rfl, hbel, hown, HPL, hsm, HV, HZ⟩ := hrel
    have hLp := hown.1
    by_cases hlt : i < s.size
    · obtain ⟨m, hm⟩ : ∃ m, m = s.size - (i + 1) := ⟨_, rfl⟩
      have hms : m < s.size := by omega
      have hdj : Fr.isDig (s[m]'hms) = true := List.all_eq_true.1 hd _ (by show s.data[m] ∈ _; exact Array.getElem_mem_toList _)
      unfold Fr.isDig at hdj
      simp only [Bool.and_eq_true, decide_eq_true_eq] at hdj
      have hd1 : (48 : Int) ≤ ((s[m]'hms).toNat : Int) := by omega
      have hd2 : ((s[m]'hms).toNat : Int) ≤ 57 := by omega
      have hPL1 : s.size ≤ p.length := by rw [HPL.out]; exact Nat.le_refl _
      have hcell := hown.cell (i := i) (by omega)
      have hfree := hown.free i
      have hz := HZ.out i (Nat.le_refl _)
      rw [hz] at hcell
      have HB := Lib.hid (Fr.dv_back s.data.toList s.size i rfl hlt)
      have hidx : (s.size : Int) - 1 - (i : Int) = (m : Int) := by omega
      have HM := Lib.hid hm
      clear hdj hm hz
      go_wp2
      refine ⟨⟨i + 1, p.set i ((s[m]'hms).toNat - 48), by omega, by go_num, hbel.setCell (Nat.le_refl _) _, hown.put i _ _ (by omega), ?_, Limb.small_set hsm _ _ (by omega), ?_, ?_⟩, by simp [intOf]; omega⟩
      · unfold Hid; rw [List.length_set]; exact HPL.out
      · unfold Hid
        rw [Limb.val_put (t := (s[m]'hms).toNat - 48) (by omega) (HZ.out i (Nat.le_refl _)) (by omega), HV.out, HB.out]
        have e := HM.out
        subst e
        rw [Nat.mul_comm, Nat.add_comm]
        rfl
      · exact fun j hj => by rw [Limb.getD_set_ne _ _ _ _ (by omega)]; exact HZ.out j (by omega)
    · have hs2 : Sees .i64 wr (.slice (some ⟨w.heap.size, 0, none⟩) s.size s.size) p := by have := hown.sees; rw [HPL.out] at this; exact this
      have CT := Lib.hid (dTrim_own _ p wr hs2 hsm)
      have HV2 := Lib.hid (show Limb.val 10 p = Fr.dv s.data.toList by have h := HV.out; rw [show s.size - i = 0 by omega, List.drop_zero] at h; exact h)
      have hpl : p.length ≤ s.size := by rw [HPL.out]; exact Nat.le_refl _
      clear hd hs2
      go_wp2_with (go_at_call 149; refine (CT.out).mono ?_; rintro e w' ⟨r, rfl, rfl, hr, hrb⟩)
      go_ret
      rw [HV2.out] at hr
      exact ⟨r, rfl, hbel, hr.up hpl⟩
end Go.Proofs.YtldclpdmcopgnaaGreatDoor
