/- Cut of the reference. -/
import Derived.Test.YtecfbncfhehdcaaDoorYA
namespace Go.Proofs.YtecfbncfhehdcaaDoor
open Go.RowKit
/-- What Cut leaves: the parts. -/
def CutP (s sep : List UInt8) (w : World) (e : Ending) (w' : World) : Prop := ∃ v l, e = .returned v ∧ RowS w.heap.size 9 w' v l ∧ l.map (·.data.toList) = (Sk.prts s sep).map (·.2) ∧ Below w.heap.size w w'
theorem extract_toList (s : ByteArray) (a b : Nat) : (s.extract a b).data.toList = (s.data.toList.drop a).take (b - a) := by
  rw [ByteArray.data_extract, Array.toList_extract, List.extract_eq_take_drop]
set_option maxHeartbeats 8000000 in
set_option maxRecDepth 100000 in
theorem rCut_any (s sep : ByteArray) (w : World) (hz : s.size ≤ 8192) (hp1 : 0 < sep.size) (hp2 : sep.size ≤ 10) : Calls Tryd.prog 55 #[.string s, .string sep] w (CutP s.data.toList sep.data.toList w) := by
  obtain ⟨i0, hi0, hz0, hz1, hz2⟩ := info_str
  have hl : s.data.toList.length = s.size := Array.length_toList
  have hsl : sep.data.toList.length = sep.size := Array.length_toList
  have HL := Lib.hid hl
  have HSL := Lib.hid hsl
  clear hl hsl
  go_enter Tryd.func55, Tryd.ntmps55
  go_wp2
  go_loopw [5, 6, 7] (fun s5 s6 s7 wr => ∃ (F : List ByteArray) (a i : Nat), s6 = .int .i64 (a : Int) ∧ s7 = .int .i64 (i : Int) ∧ a ≤ s.size ∧ i ≤ s.size + 1 ∧ F.length ≤ i ∧
    Hid (∃ f done, Sk.prts s.data.toList sep.data.toList = done ++ Sk.prt s.data.toList sep.data.toList (f + 1) a ∧ F.map (·.data.toList) = done.map (·.2) ∧ s.size ≤ f + a) ∧
    Hid (∀ j, a ≤ j → j < i → Lib.occAt s.data.toList sep.data.toList j = false) ∧ Hid (RowS w.heap.size 9 wr s5 F) ∧ Hid (Below w.heap.size w wr)) (fun _ _ s7 _ => s.size + 1 - (intOf s7).toNat)
  case atStart => exact ⟨[], 0, 0, rfl, rfl, Nat.zero_le _, Nat.zero_le _, Nat.zero_le _, Lib.hid ⟨s.size, [], by rw [List.nil_append, ← HL.out]; rfl, rfl, by omega⟩, Lib.hid (fun j _ h => by omega), Lib.hid (RowS.nil _ _ _), Lib.hid (Below.refl _ _)⟩
  case round =>
    rename_i s5
    obtain ⟨F, a, i, rfl, rfl, ha, hi, hF, HD, HN, HR, HB⟩ := hrel
    by_cases hc : i + sep.size ≤ s.size
    · have hcz : (i : Int) + (sep.size : Int) ≤ (s.size : Int) := by omega
      have hle : (i : Int) ≤ (i : Int) + (sep.size : Int) := by omega
      by_cases hge : a ≤ i
      · have hgez : (a : Int) ≤ (i : Int) := by omega
        have hoc := Sk.occ_eq s.data.toList sep.data.toList i
        have hex : (s.extract i (i + sep.size)).toList = (s.data.toList.drop i).take sep.data.toList.length := by
          rw [ByteArray.toList_eq, extract_toList, HSL.out]; congr 1; omega
        rw [← hex] at hoc
        have hqe : (((s.extract i (i + sep.size)).toList == sep.toList) = Lib.occAt s.data.toList sep.data.toList i) := by
          rw [hoc, ByteArray.toList_eq sep]; exact Bool.beq_eq_decide_eq _ _
        clear hoc hex
        cases ho : Lib.occAt s.data.toList sep.data.toList i
        · rw [ho] at hqe
          have HN2 : Hid (∀ j, a ≤ j → j < i + 1 → Lib.occAt s.data.toList sep.data.toList j = false) := Lib.hid (fun j h1 h2 => by
            by_cases e : j = i
            · rw [e]; exact ho
            · exact HN.out j h1 (by omega))
          clear ho
          go_wp2
          exact ⟨⟨F, a, i + 1, by first | rfl | go_num, by first | rfl | go_num, ha, by omega, by omega, HD, HN2, HR, HB⟩, by simp [intOf]; omega⟩
        · rw [ho] at hqe
          have HD2 : Hid (∃ f done, Sk.prts s.data.toList sep.data.toList = done ++ Sk.prt s.data.toList sep.data.toList (f + 1) (i + sep.size) ∧ (F ++ [s.extract a i]).map (·.data.toList) = done.map (·.2) ∧ s.size ≤ f + (i + sep.size)) := Lib.hid (by
            obtain ⟨f, done, h1, h2, h3⟩ := HD.out
            obtain ⟨g, rfl⟩ : ∃ g, f = g + 1 := ⟨f - 1, by omega⟩
            rw [Sk.prt_hit hge (by rw [HL.out]; omega) ho HN.out, HSL.out] at h1
            refine ⟨g, done ++ [((a : Int), (s.data.toList.drop a).take (i - a))], by rw [h1]; simp, ?_, by omega⟩
            rw [List.map_append, List.map_append, h2]; simp)
          have HN2 : Hid (∀ j, i + sep.size ≤ j → j < i + 1 → Lib.occAt s.data.toList sep.data.toList j = false) := Lib.hid (fun j h1 h2 => by omega)
          have hiz : (i : Int) ≤ (s.size : Int) := by omega
          have HR2 := Lib.hid (HR.out.step (allocB wr (.cells #[.string (s.extract a i)] 9)))
          have HB2 := Lib.hid (below_nxt HB.out (allocB wr (.cells #[.string (s.extract a i)] 9)))
          clear ho HD HN HR HB
          go_wp2_with (at_builtin; refine wpList_append_text rfl _ _ 98 rfl 9 i0 Tryd.underlying98 hi0 hz0 hz1 hz2 _ F (s.extract a i) wr.heap.size rfl rfl w.heap.size HR2.out (by simp) (by omega) HB2.out.size ?_; intro v5 w5 hr5 hb5; have HR5 := Lib.hid hr5; have HB5 := Lib.hid (HB2.out.trans hb5); clear hr5 hb5)
          exact ⟨⟨F ++ [s.extract a i], i + sep.size, i + 1, by first | rfl | go_num, by first | rfl | go_num, by omega, by omega, by simp; omega, HD2, HN2, HR5, HB5⟩, by simp [intOf]; omega⟩
      · have hgez : (i : Int) < (a : Int) := by omega
        have HN2 : Hid (∀ j, a ≤ j → j < i + 1 → Lib.occAt s.data.toList sep.data.toList j = false) := Lib.hid (fun j h1 h2 => by omega)
        go_wp2
        exact ⟨⟨F, a, i + 1, by first | rfl | go_num, by first | rfl | go_num, ha, by omega, by omega, HD, HN2, HR, HB⟩, by simp [intOf]; omega⟩
    · have hcz : (s.size : Int) < (i : Int) + (sep.size : Int) := by omega
      have haz : (a : Int) ≤ (s.size : Int) := by omega
      have HD2 : Hid ((F ++ [s.extract a s.size]).map (·.data.toList) = (Sk.prts s.data.toList sep.data.toList).map (·.2)) := Lib.hid (by
        obtain ⟨f, done, h1, h2, h3⟩ := HD.out
        rw [h1, Sk.prt_last (fun j h4 h5 => HN.out j h4 (by rw [HSL.out, HL.out] at h5; omega)) (by rw [HSL.out]; exact hp1), List.map_append, List.map_append, h2]
        rw [List.map_cons, List.map_nil, Lib.extract_to_end s a]; rfl)
      have HR2 := Lib.hid (HR.out.step (allocB wr (.cells #[.string (s.extract a s.size)] 9)))
      have HB2 := Lib.hid (below_nxt HB.out (allocB wr (.cells #[.string (s.extract a s.size)] 9)))
      clear HD HN HR HB
      go_wp2_with (at_builtin; refine wpList_append_text rfl _ _ 98 rfl 9 i0 Tryd.underlying98 hi0 hz0 hz1 hz2 _ F (s.extract a s.size) wr.heap.size rfl rfl w.heap.size HR2.out (by simp) (by omega) HB2.out.size ?_; intro v5 w5 hr5 hb5; have HR5 := Lib.hid hr5; have HB5 := Lib.hid (HB2.out.trans hb5); clear hr5 hb5)
      go_ret
      exact ⟨_, _, rfl, HR5.out, HD2.out, HB5.out⟩
end Go.Proofs.YtecfbncfhehdcaaDoor
