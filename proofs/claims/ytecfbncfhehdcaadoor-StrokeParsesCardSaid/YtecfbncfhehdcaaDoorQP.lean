/- readWait of package stroke: its call. -/
import Derived.Test.YtecfbncfhehdcaaDoorQO
namespace Go.Proofs.YtecfbncfhehdcaaDoor
open Go.RowKit
def WtP (q : Int × Bool) (w : World) (e : Ending) (w' : World) : Prop := e = .returned (.tuple #[.int .i64 q.1, .bool q.2]) ∧ Below w.heap.size w w'
set_option maxHeartbeats 4000000 in
set_option maxRecDepth 100000 in
theorem sWt_any (s : ByteArray) (w : World) (hst : StQ w) (hz : s.size ≤ 1000000) : Calls Tryd.prog 86 #[.string s] w (WtP (Sk.wtV s.data.toList) w) := by
  have HST := Lib.hid hst
  by_cases h : ∃ v, Lib.atoiAll s.data.toList = .ok v
  · obtain ⟨v, hv⟩ := h
    have CA := fun W => Lib.hid (atoi_good s v W hz hv)
    have hw := Sk.wt_ok hv
    have hbd := Lib.atoiAll_bounds hv
    have hlen : s.data.toList.length = s.size := Array.length_toList
    rw [hlen] at hw
    clear hv hst hlen
    by_cases h0 : 0 < v
    · by_cases h7 : s.size ≤ 7
      · have CI := fun W (h : St W) => Lib.hid (itoa_any v W h (by omega) hbd.2)
        obtain ⟨hb1, hb2⟩ := hbd
        by_cases hr : Fr.render v.toNat = s.data.toList
        · rw [if_pos ⟨h0, h7, hr⟩] at hw
          rw [hw]
          have hs : (⟨(Fr.render v.toNat).toArray⟩ : ByteArray) = s := by rw [hr]
          rw [hs] at CI
          have hz7 : (s.size : Int) ≤ 7 := by omega
          clear hw hr hs
          go_enter Tryd.func86, Tryd.ntmps86
          go_wp2_with fail
          refine ((CA _).out).mono ?_
          rintro e w1 ⟨rfl, hb1⟩
          have HB1 := Lib.hid hb1
          have HS1 := Lib.hid (HST.out.step hb1)
          clear hb1
          go_wp2_with fail
          refine ((CI _ HS1.out.st).out).mono ?_
          rintro e w2 ⟨rfl, hb2⟩
          have HB2 := Lib.hid (below_nxt HB1.out hb2)
          clear hb2
          go_wp2
          go_ret2
          exact ⟨rfl, HB2.out⟩
        · rw [if_neg (fun g => hr g.2.2)] at hw
          rw [hw]
          have hne : ((Fr.render v.toNat) == s.toList) = false := by
            rw [ByteArray.toList_eq]
            simpa using hr
          have hz7 : (s.size : Int) ≤ 7 := by omega
          clear hw
          go_enter Tryd.func86, Tryd.ntmps86
          go_wp2_with fail
          refine ((CA _).out).mono ?_
          rintro e w1 ⟨rfl, hb1⟩
          have HB1 := Lib.hid hb1
          have HS1 := Lib.hid (HST.out.step hb1)
          clear hb1
          go_wp2_with fail
          refine ((CI _ HS1.out.st).out).mono ?_
          rintro e w2 ⟨rfl, hb2⟩
          have HB2 := Lib.hid (below_nxt HB1.out hb2)
          clear hb2
          go_wp2
          go_ret2
          exact ⟨rfl, HB2.out⟩
      · rw [if_neg (fun g => h7 g.2.1)] at hw
        rw [hw]
        have hz7 : (7 : Int) < (s.size : Int) := by omega
        clear hw h7 hbd
        go_enter Tryd.func86, Tryd.ntmps86
        go_wp2_with fail
        refine ((CA _).out).mono ?_
        rintro e w1 ⟨rfl, hb1⟩
        have HB1 := Lib.hid hb1
        clear hb1
        go_wp2
        go_ret2
        exact ⟨rfl, HB1.out⟩
    · rw [if_neg (fun g => h0 g.1)] at hw
      rw [hw]
      have hv0 : v ≤ 0 := by omega
      clear hw h0 hbd
      go_enter Tryd.func86, Tryd.ntmps86
      go_wp2_with fail
      refine ((CA _).out).mono ?_
      rintro e w1 ⟨rfl, hb1⟩
      have HB1 := Lib.hid hb1
      clear hb1
      go_wp2
      go_ret2
      exact ⟨rfl, HB1.out⟩
  · have h' : ∀ v, Lib.atoiAll s.data.toList ≠ .ok v := fun v hv => h ⟨v, hv⟩
    rw [Sk.wt_no h']
    have CA := fun W (hs : StQ W) => Lib.hid (atoi_bad s W hs hz h')
    have CA0 := CA w hst
    clear h h' hst CA
    go_enter Tryd.func86, Tryd.ntmps86
    go_wp2_with fail
    refine (CA0.out).mono ?_
    rintro e w1 ⟨n, N, rfl, hb1⟩
    have HB1 := Lib.hid hb1
    clear hb1
    go_wp2
    go_ret2
    exact ⟨rfl, HB1.out⟩
end Go.Proofs.YtecfbncfhehdcaaDoor

