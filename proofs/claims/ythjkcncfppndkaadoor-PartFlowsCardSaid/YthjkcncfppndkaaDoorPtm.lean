/- names of the reference, for all texts. -/
import Derived.Test.YthjkcncfppndkaaDoorPtl
namespace Pt
theorem step_len (o : List ByteArray) (d b q : Bool) (s x : ByteArray) (i : Nat) (h : o.length ≤ i + if d then 1 else 0) :
    (if q then (if !d && !b then o ++ [s] else o) else (if !d && !b then o ++ [s] else o) ++ [x]).length ≤ i + 1 + if (d || !b) then 1 else 0 := by
  cases d <;> cases b <;> cases q <;> simp at h ⊢ <;> omega
theorem putS_len2 (l : List ByteArray) (s : ByteArray) : ∀ i, (putS l s i).1.length ≤ i + (if (putS l s i).2 then 1 else 0)
  | 0 => by simp [putS]
  | i + 1 => step_len _ _ _ _ s _ i (putS_len2 l s i)
theorem putV_len (l : List ByteArray) (s : ByteArray) : (putV l s).length ≤ l.length + 1 := by
  have h := putS_len2 l s l.length
  unfold putV
  rcases Bool.eq_false_or_eq_true (putS l s l.length).2 with hd | hd <;> simp [hd] at h ⊢ <;> omega
def namS (s : ByteArray) : Nat → List ByteArray × ByteArray
  | 0 => ([], ⟨#[]⟩)
  | i + 1 => if s.data.toList.getD i 0 = 32 then (putV (namS s i).1 (namS s i).2, ⟨#[]⟩) else ((namS s i).1, (namS s i).2 ++ s.extract i (i + 1))
theorem namS_size (s : ByteArray) : ∀ i, i ≤ s.size → (namS s i).2.size ≤ i
  | 0, _ => Nat.le_refl _
  | i + 1, hi => by
    have h := namS_size s i (by omega)
    simp only [namS]
    split
    · exact Nat.zero_le _
    · rw [ByteArray.size_append, ByteArray.size_extract]
      omega
def namV (s : ByteArray) : List ByteArray := (namS s s.size).1
theorem namS_len (s : ByteArray) : ∀ i, (namS s i).1.length ≤ i
  | 0 => by simp [namS]
  | i + 1 => by
    have h := namS_len s i
    simp only [namS]
    split
    · have := putV_len (namS s i).1 (namS s i).2
      simp only; omega
    · simp only; omega
end Pt
namespace Go.Proofs.YthjkcncfppndkaaDoor
open Go.RowKit
set_option maxHeartbeats 4000000 in
set_option maxRecDepth 100000 in
theorem names_all (s : ByteArray) (w : World) (hs : s.size ≤ 100) : Calls Tryd.prog 71 #[.string s] w fun e w' => ∃ v, e = .returned v ∧ SeeS w' v (Pt.namV s) ∧ Below w.heap.size w w' := by
  have CP := fun v l x W (h : SeeS W v l) (hl : l.length ≤ 1000) => Lib.hid (put_any v l x W h hl)
  have zs : (s.size : Int) ≤ 100 := by omega
  go_enter Tryd.func71, Tryd.ntmps71
  go_wp2
  go_loopw [3, 4, 5] (fun s3 s4 s5 wr => ∃ i : Nat, i ≤ s.size ∧ s5 = .int .i64 (i : Int) ∧ s4 = .string (Pt.namS s i).2 ∧ Hid (SeeS wr s3 (Pt.namS s i).1) ∧ Hid (Below w.heap.size w wr)) (fun _ _ s5 _ => s.size - (intOf s5).toNat)
  case atStart => exact ⟨0, Nat.zero_le _, rfl, rfl, Lib.hid (SeeS.nil _), Lib.hid (Below.refl _ _)⟩
  case round =>
    obtain ⟨i, hi, rfl, rfl, HS, HB⟩ := hrel
    obtain ⟨ra, rn, rc, rfl⟩ := HS.out.form
    by_cases hil : i < s.size
    · have zi : (i : Int) < (s.size : Int) := by omega
      have hIL := Lib.hid hil
      have hg : s.data.toList.getD i 0 = s[i]'hil := by
        rw [List.getD_eq_getElem?_getD, List.getElem?_eq_getElem (by show i < s.data.toList.length; exact hil)]
        rfl
      have hz1 : (Pt.namS s i).2.size ≤ 100 := by have := Pt.namS_size s i (by omega); omega
      have hz2 : (s.extract i (i + 1)).size ≤ 1 := by rw [ByteArray.size_extract]; omega
      have HL := Lib.hid (show (Pt.namS s i).1.length ≤ 1000 by have := Pt.namS_len s i; omega)
      have HE := Lib.hid (show Pt.namS s (i + 1) = if s[i]'hil = 32 then (Pt.putV (Pt.namS s i).1 (Pt.namS s i).2, ⟨#[]⟩) else ((Pt.namS s i).1, (Pt.namS s i).2 ++ s.extract i (i + 1)) by rw [← hg]; rfl)
      clear hg
      by_cases hc : s[i]'hil = 32
      · have HE2 := Lib.hid (HE.out.trans (if_pos hc))
        have z32 : (((s[i]'hil).toNat : Int) == 32) = true := by rw [hc]; rfl
        clear HE hc
        generalize (Pt.namS s i).1 = o at *
        generalize (Pt.namS s i).2 = la at *
        go_wp2_with fail
        refine (CP _ o la wr HS.out HL.out).out.mono ?_
        rintro e w2 ⟨v2, rfl, h2, hb2⟩
        have HS2 := Lib.hid h2.sees
        have HB2 := Lib.hid (HB.out.trans (hb2.mono HB.out.size))
        clear h2 hb2
        go_wp2
        exact ⟨⟨i + 1, by have := hIL.out; omega, by first | rfl | go_num, by rw [HE2.out], Lib.hid (by rw [HE2.out]; exact HS2.out), HB2⟩, by have := hIL.out; simp [intOf]; omega⟩
      · have HE2 := Lib.hid (HE.out.trans (if_neg hc))
        have z32 : (((s[i]'hil).toNat : Int) == 32) = false := by
          refine beq_eq_false_iff_ne.2 fun h => hc ?_
          have : (s[i]'hil).toNat = 32 := by omega
          exact UInt8.toNat_inj.1 this
        clear HE hc
        generalize (Pt.namS s i).1 = o at *
        generalize (Pt.namS s i).2 = la at *
        go_wp2
        all_goals first
          | (exact ⟨⟨i + 1, by have := hIL.out; omega, by first | rfl | go_num, by rw [HE2.out], Lib.hid (by rw [HE2.out]; exact HS.out), HB⟩, by have := hIL.out; simp [intOf]; omega⟩)
          | (exfalso; omega)
          | trace_state
    · obtain rfl : i = s.size := by omega
      have HV := Lib.hid (show Pt.namV s = (Pt.namS s s.size).1 from rfl)
      go_wp2
      go_ret
      exact ⟨_, rfl, by rw [HV.out]; exact HS.out, HB.out⟩
end Go.Proofs.YthjkcncfppndkaaDoor
