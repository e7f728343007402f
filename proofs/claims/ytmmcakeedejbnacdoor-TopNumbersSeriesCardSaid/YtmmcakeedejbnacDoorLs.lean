/- The contracts of Sum of package fraction and of the reference, and of the statement FractionSums. -/
import Derived.Test.YtmmcakeedejbnacDoorRr
namespace Fr
open Limb
/-- The sum of a list from a number on, or the error. -/
def sumFrom (q : Rat) : List ByteArray → List UInt8 × Int
  | [] => (text q, 0)
  | a :: r => if fits (q + rat a.data.toList) then sumFrom (q + rat a.data.toList) r else ([], 11)
def chkAll : List ByteArray → Int
  | [] => 0
  | a :: r => if chk a.data.toList = 0 then chkAll r else chk a.data.toList
def sumV (l : List ByteArray) : List UInt8 × Int := if chkAll l = 0 then sumFrom 0 l else ([], chkAll l)
theorem drop_cons {l : List ByteArray} {j : Nat} (h : j < l.length) : l.drop j = l[j] :: l.drop (j + 1) := (List.getElem_cons_drop (h := h)).symm
theorem chkAll_mem : ∀ {l : List ByteArray}, chkAll l = 0 → ∀ a ∈ l, chk a.data.toList = 0
  | [], _, a, h => by cases h
  | b :: r, h, a, ha => by
    unfold chkAll at h
    by_cases hb : chk b.data.toList = 0
    · rw [if_pos hb] at h
      rcases List.mem_cons.1 ha with rfl | ha
      · exact hb
      · exact chkAll_mem h a ha
    · rw [if_neg hb] at h; exact absurd h hb
end Fr
namespace Go.Proofs.YtmmcakeedejbnacDoor
open Go.RowKit

/-- A slice value, which may be nil, reads as a list of texts. -/
def SeesU (w : World) (v : Value) (l : List ByteArray) : Prop :=
  ∃ ao cap, v = .slice ao l.length cap ∧ (0 < l.length → ∃ b off, ao = some ⟨b, off, none⟩ ∧ b < w.heap.size ∧ ∀ i, (h : i < l.length) → w.cell? ⟨b, off + i, none⟩ = some (.string (l[i]'h)))
theorem SeesU.at {w wr : World} {ao : Option Addr} {l : List ByteArray} (h : 0 < l.length → ∃ b off, ao = some ⟨b, off, none⟩ ∧ b < w.heap.size ∧ ∀ i, (h : i < l.length) → w.cell? ⟨b, off + i, none⟩ = some (.string (l[i]'h)))
    (hb : Below w.heap.size w wr) {i : Nat} (hi : i < l.length) : ∃ b off, ao = some ⟨b, off, none⟩ ∧ wr.cell? ⟨b, off + i, none⟩ = some (.string (l[i]'hi)) := by
  obtain ⟨b, off, h1, h2, h3⟩ := h (by omega)
  exact ⟨b, off, h1, (hb.cell (p := ⟨b, off + i, none⟩) h2).trans (h3 i hi)⟩

theorem fCheck_lit {s : ByteArray} {c : Int} (h : Fr.chk s.data.toList = c) (w : World) (hst : St w) (hs : s.size ≤ 800) :
    Calls Tryd.prog 40 #[.string s] w fun e w' => e = .returned (.int .i64 c) ∧ Below w.heap.size w w' := by rw [← h]; exact fCheck_any s w hst hs
theorem fAdd_step {q : Rat} {s : ByteArray} {o : List UInt8 × Int} (hq : Fr.fits q = true) (h : Fr.chk s.data.toList = 0) (ho : Fr.out (q + Fr.rat s.data.toList) = o) (w : World) (hst : St w) (hs : s.size ≤ 800) :
    Calls Tryd.prog 23 #[.string (txB q), .string s] w (OutPost w o) := by
  have h1 := fAdd_any (txB q) s w hst (Nat.le_trans (txB_size hq) (by omega)) hs
  rw [txB_list, Fr.rat_text, ho] at h1
  unfold bi two at h1
  rw [if_pos (Fr.chk_text hq), if_pos h] at h1
  exact h1
theorem out_no {q : Rat} (h : ¬ Fr.fits q = true) : Fr.out q = ([], 11) := by unfold Fr.out; rw [if_neg h]
theorem txB_null : txB 0 = ⟨#[48]⟩ := by
  apply ByteArray.ext
  rw [← Array.toList_inj]
  show Fr.text 0 = [48]
  decide +kernel

theorem fSum_many (ao : Option Addr) (n cap : Nat) (w : World) (h : 4096 < n) (hn : n ≤ 9223372036854775807) :
    Calls Tryd.prog 19 #[.slice ao n cap] w (OutPost w ([], 5)) := by
  go_enter Tryd.func19, Tryd.ntmps19
  go_wp2
  go_ret2
  exact ⟨rfl, Below.refl _ _⟩
theorem fits_null : Fr.fits 0 = true := by decide +kernel

set_option maxRecDepth 100000 in
set_option maxHeartbeats 1000000 in
theorem fSum_any (v : Value) (l : List ByteArray) (w : World) (hst : St w) (hv : SeesU w v l) (hl : l.length ≤ 4096) (hz : ∀ a ∈ l, a.size ≤ 800) :
    Calls Tryd.prog 19 #[v] w (OutPost w (Fr.sumV l)) := by
  obtain ⟨ao, cap, rfl, hc⟩ := hv
  obtain ⟨R, hR⟩ : ∃ R, Fr.sumV l = R := ⟨_, rfl⟩
  rw [hR]
  have HR := Lib.hid hR
  have HC := Lib.hid (fun (wr : World) (hb : Below w.heap.size w wr) (i : Nat) (hi : i < l.length) => SeesU.at (ao := ao) hc hb hi)
  have HZ := Lib.hid hz
  have HST := Lib.hid hst
  clear hR hc hz hst
  go_enter Tryd.func19, Tryd.ntmps19
  go_wp2
  go_loopw [16] (fun u16 wr => ∃ j : Nat, j ≤ l.length ∧ u16 = .int .i64 j ∧ Below w.heap.size w wr ∧ Hid (Fr.chkAll l = Fr.chkAll (l.drop j))) (fun u16 _ => l.length - (intOf u16).toNat)
  case atStart => exact ⟨0, Nat.zero_le _, rfl, Below.refl _ _, rfl⟩
  case round =>
    obtain ⟨j, hj, rfl, hbel, HJ⟩ := hrel
    by_cases hlt : j < l.length
    · obtain ⟨b, off, rfl, hcell⟩ := HC.out wr hbel j hlt
      obtain ⟨s, hs⟩ : ∃ s, l[j]'hlt = s := ⟨_, rfl⟩
      have hsz : s.size ≤ 800 := by rw [← hs]; exact HZ.out _ (List.getElem_mem hlt)
      have HD := Lib.hid (Fr.drop_cons hlt)
      rw [hs] at hcell HD
      clear hs
      by_cases hok : Fr.chk s.data.toList = 0
      · have CC := Lib.hid (fCheck_lit hok wr (HST.out.next hbel) hsz)
        have HS := Lib.hid (show Fr.chkAll l = Fr.chkAll (l.drop (j + 1)) by rw [HJ.out, HD.out, Fr.chkAll, if_pos hok])
        clear hok
        go_wp2_with (go_at_call 40; refine (CC.out).mono ?_; rintro e w1 ⟨rfl, hb1⟩)
        go_roundw
        case rel => exact ⟨j + 1, by omega, by go_num, hbel.trans (hb1.mono hbel.size), HS⟩
        case measure => simp [intOf]; omega
      · obtain ⟨c, hc⟩ : ∃ c, Fr.chk s.data.toList = c := ⟨_, rfl⟩
        have CC := Lib.hid (fCheck_lit hc wr (HST.out.next hbel) hsz)
        have hne : (c != 0) = true := by rw [← hc]; simpa using hok
        have HF := Lib.hid (show R = ([], c) by
          have h1 : Fr.chkAll l = c := by rw [HJ.out, HD.out, Fr.chkAll, if_neg hok, hc]
          rw [← HR.out]
          unfold Fr.sumV
          rw [h1, if_neg (by rw [← hc]; exact hok)])
        clear hok hc
        go_wp2_with (go_at_call 40; refine (CC.out).mono ?_; rintro e w1 ⟨rfl, hb1⟩)
        go_ret2
        rw [HF.out]
        exact ⟨rfl, hbel.trans (hb1.mono hbel.size)⟩
    · have HA := Lib.hid (show Fr.chkAll l = 0 by
        have h := HJ.out
        rw [List.drop_eq_nil_of_le (by omega)] at h
        exact h)
      have CW := Lib.hid (whole_tx 0 wr (HST.out.next hbel) (by omega) (by omega))
      go_wp2_with (go_at_call 41; refine (CW.out).mono ?_; rintro e w1 ⟨rfl, hb1⟩)
      have hB1 := hbel.trans (hb1.mono hbel.size)
      clear hbel hb1 CW HJ hlt hj
      go_loopw [29, 7] (fun u29 u7 wr => ∃ (j : Nat) (q : Rat), j ≤ l.length ∧ u29 = .int .i64 j ∧ u7 = .string (txB q) ∧ Below w.heap.size w wr ∧ Hid (Fr.fits q = true ∧ Fr.sumFrom 0 l = Fr.sumFrom q (l.drop j))) (fun u29 _ _ => l.length - (intOf u29).toNat)
      case atStart => exact ⟨0, 0, Nat.zero_le _, rfl, rfl, hB1, fits_null, rfl⟩
      case round =>
        obtain ⟨j, q, hj, rfl, rfl, hbel, HJ⟩ := hrel
        by_cases hlt : j < l.length
        · obtain ⟨b, off, rfl, hcell⟩ := HC.out wr hbel j hlt
          have hmem : l[j]'hlt ∈ l := List.getElem_mem hlt
          have hchk := Fr.chkAll_mem HA.out _ hmem
          have hsz : (l[j]'hlt).size ≤ 800 := HZ.out _ hmem
          have HD := Lib.hid (Fr.drop_cons hlt)
          obtain ⟨s, hs⟩ : ∃ s, l[j]'hlt = s := ⟨_, rfl⟩
          rw [hs] at hcell HD hchk hsz
          clear hs hmem
          by_cases hf : Fr.fits (q + Fr.rat s.data.toList) = true
          · have CA := Lib.hid (fAdd_step HJ.out.1 hchk (out_tx hf) wr (HST.out.next hbel) hsz)
            have HS := Lib.hid (show Fr.fits (q + Fr.rat s.data.toList) = true ∧ Fr.sumFrom 0 l = Fr.sumFrom (q + Fr.rat s.data.toList) (l.drop (j + 1)) from
              ⟨hf, by rw [HJ.out.2, HD.out, Fr.sumFrom, if_pos hf]⟩)
            clear hf hchk
            go_wp2_with (go_at_call 23; refine (CA.out).mono ?_; rintro e w1 ⟨rfl, hb1⟩)
            go_roundw
            case rel => exact ⟨j + 1, q + Fr.rat s.data.toList, by omega, by go_num, rfl, hbel.trans (hb1.mono hbel.size), HS⟩
            case measure => simp [intOf]; omega
          · have CA := Lib.hid (fAdd_step HJ.out.1 hchk (out_no hf) wr (HST.out.next hbel) hsz)
            have HF := Lib.hid (show R = ([], 11) by
              rw [← HR.out]
              unfold Fr.sumV
              rw [HA.out, if_pos rfl, HJ.out.2, HD.out, Fr.sumFrom, if_neg hf])
            clear hf hchk
            go_wp2_with (go_at_call 23; refine (CA.out).mono ?_; rintro e w1 ⟨rfl, hb1⟩)
            go_ret2
            rw [HF.out]
            exact ⟨rfl, hbel.trans (hb1.mono hbel.size)⟩
        · have HF := Lib.hid (show R = (Fr.text q, 0) by
            rw [← HR.out]
            unfold Fr.sumV
            rw [HA.out, if_pos rfl, HJ.out.2, List.drop_eq_nil_of_le (by omega)]
            rfl)
          go_wp2
          go_ret2
          rw [HF.out]
          exact ⟨rfl, hbel⟩

def FewPost (w : World) (l : List ByteArray) (e : Ending) (w' : World) : Prop := ∃ b, e = .returned (.bool b) ∧ w = w' ∧ (b = true → (l.length ≤ 8 ∧ ∀ a ∈ l, a.size ≤ 180) ∨ 4096 < l.length)
theorem SeesU.below {w w' : World} {v : Value} {l : List ByteArray} (h : SeesU w v l) (hb : Below w.heap.size w w') : SeesU w' v l := by
  obtain ⟨ao, cap, rfl, hc⟩ := h
  refine ⟨ao, cap, rfl, fun hl => ?_⟩
  obtain ⟨b, off, h1, h2, h3⟩ := hc hl
  exact ⟨b, off, h1, Nat.lt_of_lt_of_le h2 hb.size, fun i hi => (hb.cell (p := ⟨b, off + i, none⟩) h2).trans (h3 i hi)⟩

end Go.Proofs.YtmmcakeedejbnacDoor

