/- Words of the reference of lexer, for all texts. -/
import Derived.Test.YtnoaafhgapaicaaDoorPtg
namespace Go.Proofs.YtnoaafhgapaicaaDoor
open Go.RowKit
set_option maxHeartbeats 4000000 in
set_option maxRecDepth 100000 in
theorem rLetter12_any (c : UInt8) (w : World) : Calls Tryd.prog 66 #[.int .u8 (c.toNat : Int)] w fun e w' => e = .returned (.bool (Pt.isLet c)) ∧ w' = w := by
  have h : Pt.isLet c = ((decide ((97 : Int) ≤ (c.toNat : Int)) && decide ((c.toNat : Int) ≤ 122)) || (decide ((65 : Int) ≤ (c.toNat : Int)) && decide ((c.toNat : Int) ≤ 90))) := by
    unfold Pt.isLet
    congr 1 <;> congr 1 <;> exact decide_eq_decide.2 (by omega)
  rw [h]
  clear h
  generalize (c.toNat : Int) = x at *
  by_cases h1 : 97 ≤ x <;> by_cases h2 : x ≤ 122 <;> by_cases h3 : 65 ≤ x <;> by_cases h4 : x ≤ 90
  all_goals
    first
      | (exfalso; omega)
      | (go_enter Tryd.func66, Tryd.ntmps66
         go_wp2
         go_ret
         exact ⟨by simp [h1, h2, h3, h4], rfl⟩)
set_option maxHeartbeats 4000000 in
set_option maxRecDepth 100000 in
theorem rDigit12_any (c : UInt8) (w : World) : Calls Tryd.prog 77 #[.int .u8 (c.toNat : Int)] w fun e w' => e = .returned (.bool (Pt.isDg c)) ∧ w' = w := by
  have h : Pt.isDg c = (decide ((48 : Int) ≤ (c.toNat : Int)) && decide ((c.toNat : Int) ≤ 57)) := by
    unfold Pt.isDg
    congr 1 <;> exact decide_eq_decide.2 (by omega)
  rw [h]
  clear h
  generalize (c.toNat : Int) = x at *
  by_cases h1 : 48 ≤ x <;> by_cases h2 : x ≤ 57
  all_goals
    go_enter Tryd.func77, Tryd.ntmps77
    go_wp2
    go_ret
    exact ⟨by simp [h1, h2], rfl⟩
set_option maxHeartbeats 4000000 in
set_option maxRecDepth 100000 in
theorem rInner12_any (c : UInt8) (w : World) : Calls Tryd.prog 67 #[.int .u8 (c.toNat : Int)] w fun e w' => e = .returned (.bool (Pt.inn c)) ∧ w' = w := by
  have C1 := Lib.hid (rLetter12_any c w)
  have C2 := Lib.hid (rDigit12_any c w)
  have h : Pt.inn c = (Pt.isLet c || Pt.isDg c || ((c.toNat : Int) == 95)) := by
    have h2 : (c.toNat == 95) = ((c.toNat : Int) == 95) := by
      by_cases e : c.toNat = 95
      · rw [e]; rfl
      · have e2 : ¬ ((c.toNat : Int) = 95) := by omega
        rw [beq_eq_false_iff_ne.2 e, beq_eq_false_iff_ne.2 e2]
    unfold Pt.inn
    rw [h2]
  rw [h]
  clear h
  generalize Pt.isLet c = a at *
  generalize Pt.isDg c = b at *
  cases a
  · cases b
    · go_enter Tryd.func67, Tryd.ntmps67
      go_wp2_with fail
      refine C1.out.mono ?_
      rintro e w1 ⟨rfl, rfl⟩
      go_wp2_with fail
      refine C2.out.mono ?_
      rintro e w2 ⟨rfl, rfl⟩
      go_wp2
      go_ret
      exact ⟨by simp, rfl⟩
    · go_enter Tryd.func67, Tryd.ntmps67
      go_wp2_with fail
      refine C1.out.mono ?_
      rintro e w1 ⟨rfl, rfl⟩
      go_wp2_with fail
      refine C2.out.mono ?_
      rintro e w2 ⟨rfl, rfl⟩
      go_wp2
      go_ret
      exact ⟨by simp, rfl⟩
  · go_enter Tryd.func67, Tryd.ntmps67
    go_wp2_with fail
    refine C1.out.mono ?_
    rintro e w1 ⟨rfl, rfl⟩
    go_wp2
    go_ret
    exact ⟨by simp, rfl⟩
set_option maxHeartbeats 4000000 in
set_option maxRecDepth 100000 in
theorem rWord12_any (s : ByteArray) (hs : s.size ≤ 1000000) (w : World) : Calls Tryd.prog 43 #[.string s] w fun e w' => e = .returned (.int .i64 (Pt.wordE s.data.toList)) ∧ w' = w := by
  have hlen : s.data.toList.length = s.size := by show s.data.toList.length = s.data.size; simp
  by_cases h0 : 0 < s.size
  · have hh : s.data.toList.head? = some (s[0]'h0) := by
      have h : 0 < s.data.toList.length := by show 0 < s.data.toList.length; exact h0
      rw [List.head?_eq_getElem?, List.getElem?_eq_getElem h]
      rfl
    have C0 := Lib.hid (rLetter12_any (s[0]'h0) w)
    have z0 : (0 : Int) < (s.size : Int) := by omega
    have y0 : ¬ s = ByteArray.empty := fun e => by rw [e] at h0; exact absurd h0 (by decide)
    have zs : (s.size : Int) ≤ 1000000 := by omega
    have y1 : ((s.size : Int) == 0) = false := beq_eq_false_iff_ne.2 (by omega)
    cases hl : Pt.isLet (s[0]'h0)
    · rw [hl] at C0
      rw [show Pt.wordE s.data.toList = 3 by unfold Pt.wordE; rw [hh, Option.any_some, hl]; rfl]
      clear hl hh hlen
      go_enter Tryd.func43, Tryd.ntmps43
      go_wp2_with fail
      refine C0.out.mono ?_
      rintro e w1 ⟨rfl, rfl⟩
      go_wp2
      go_ret
      exact ⟨rfl, rfl⟩
    · rw [hl] at C0
      have hE : Pt.wordE s.data.toList = if s.data.toList.all Pt.inn then (if 24 < s.size then 17 else 0) else 3 := by unfold Pt.wordE; rw [hh, Option.any_some, hl, hlen]; rfl
      have HNo := Lib.hid (fun (h : s.data.toList.all Pt.inn = false) => show Pt.wordE s.data.toList = 3 by rw [hE, h]; rfl)
      have HYes := Lib.hid (fun (h : s.data.toList.all Pt.inn = true) => show Pt.wordE s.data.toList = if 24 < s.size then 17 else 0 by rw [hE, h]; rfl)
      have CI := fun (j : Nat) (hj : j < s.size) => Lib.hid (rInner12_any (s[j]'hj) w)
      clear hl hh hlen hE
      generalize Pt.wordE s.data.toList = E at *
      go_enter Tryd.func43, Tryd.ntmps43
      go_wp2_with fail
      refine C0.out.mono ?_
      rintro e w1 ⟨rfl, rfl⟩
      clear C0
      go_wp2
      go_loopw [3] (fun s3 wr => ∃ n : Nat, n ≤ s.size ∧ s3 = .int .i64 (n : Int) ∧ wr = w1 ∧ Hid ((s.data.toList.take n).all Pt.inn = true)) (fun s3 _ => s.size - (intOf s3).toNat)
      case atStart => exact ⟨0, Nat.zero_le _, rfl, rfl, Lib.hid rfl⟩
      case round =>
        obtain ⟨n, hn, rfl, rfl, HJ⟩ := hrel
        by_cases hil : n < s.size
        · have zi : (n : Int) < (s.size : Int) := by omega
          have CN := CI n hil
          have HS := Lib.hid (fun (h : Pt.inn (s[n]'hil) = true) => show (s.data.toList.take (n + 1)).all Pt.inn = true by rw [Pt.all_one s n hil, HJ.out, h]; rfl)
          have HN := Lib.hid (fun (h : Pt.inn (s[n]'hil) = false) => Pt.all_no s n hil h)
          have HNZ := Lib.hid hil
          generalize hbb : Pt.inn (s[n]'hil) = bb at *
          clear hbb
          cases bb
          · have HE := Lib.hid (HNo.out (HN.out rfl))
            go_wp2_with fail
            refine CN.out.mono ?_
            rintro e w2 ⟨rfl, rfl⟩
            go_wp2
            go_ret
            exact ⟨by rw [HE.out]; rfl, rfl⟩
          · have HT := Lib.hid (HS.out rfl)
            go_wp2_with fail
            refine CN.out.mono ?_
            rintro e w2 ⟨rfl, rfl⟩
            go_wp2
            exact ⟨⟨n + 1, by have := HNZ.out; omega, by first | rfl | go_num, by trivial, HT⟩, by have := HNZ.out; simp [intOf]; omega⟩
        · have hne : n = s.size := by omega
          have HE := Lib.hid (HYes.out (by rw [← Pt.all_full s, ← hne]; exact HJ.out))
          have zi : ¬ ((n : Int) < (s.size : Int)) := by omega
          clear hne
          by_cases h24 : 24 < s.size
          · have z : (24 : Int) < (s.size : Int) := by omega
            have HE2 := Lib.hid (show E = 17 by rw [HE.out, if_pos h24])
            clear h24
            go_wp2
            go_ret
            exact ⟨by rw [HE2.out]; rfl, rfl⟩
          · have z : ¬ ((24 : Int) < (s.size : Int)) := by omega
            have HE2 := Lib.hid (show E = 0 by rw [HE.out, if_neg h24])
            clear h24
            go_wp2
            go_ret
            exact ⟨by rw [HE2.out]; rfl, rfl⟩
  · have hz : s = ⟨#[]⟩ := by
      obtain ⟨⟨l⟩⟩ := s
      cases l with
      | nil => rfl
      | cons a r => exact absurd (show 0 < (a :: r).length by simp) h0
    subst hz
    have hsz : (⟨#[]⟩ : ByteArray).size = 0 := rfl
    go_enter Tryd.func43, Tryd.ntmps43
    go_wp2
    go_ret
    exact ⟨rfl, rfl⟩
end Go.Proofs.YtnoaafhgapaicaaDoor
