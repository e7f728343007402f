/- Table of package hazard, of any form. -/
import Derived.Test.YtekeedccgnbkkaaGreatDoorHRd
import Derived.Test.YtekeedccgnbkkaaGreatDoorHF
namespace Go.Proofs.YtekeedccgnbkkaaGreatDoor
open Go.RowKit Go.Shelf

set_option maxHeartbeats 4000000 in
set_option maxRecDepth 100000 in
theorem hTable_any (n : Int) (l : List (Nat × Nat)) (sv : Value) (w : World) (hw : Hz.W64 l) (hs : SeesO w sv l) (hst : St w) :
    Calls Tryz.prog 7 #[.int .i64 n, sv] w fun e w' => e = .returned (.tuple #[.agg #[.int .i64 (Hz.tabV n l).1.1, .int .u64 ((Hz.tabV n l).1.2 : Nat)], .int .i64 (Hz.tabV n l).2]) ∧ Below w.heap.size w w' := by
  by_cases hk : Hz.chk n l = 0
  · have hv : Hz.tabV n l = ((n, Hz.made n.toNat l), 0) := if_pos hk
    rw [hv]
    obtain ⟨m, rfl, hm, hle, ho⟩ := Hz.chk_ok (fun p hp => (hw p hp).2) hk
    exact hTable_ok m l sv w hm hle ho hw hs hst
  · have CK := fun W h => Lib.hid (hCheck_any n l sv W hw h)
    have HSE := Lib.hid hs
    obtain ⟨PT, LT, zT⟩ : TabI (w.alloc (.cells #[.int .i64 0, .int .u64 0] 29)) w.heap.size 0 0 ∧ Below w.heap.size w (w.alloc (.cells #[.int .i64 0, .int .u64 0] 29)) ∧ (w.alloc (.cells #[.int .i64 0, .int .u64 0] 29)).heap.size = w.heap.size + 1 := tab1_new w 0 0 29
    have HLT := Lib.hid LT
    clear LT
    have hv : Hz.tabV n l = ((0, 0), Hz.chk n l) := if_neg hk
    rw [hv]
    have hne : (Hz.chk n l != 0) = true := by simp [hk]
    generalize Hz.chk n l = k at *
    clear hv hk hw hs hst
    go_enter Tryz.func7, Tryz.ntmps7
    go_wp2_with (go_at_call 13; (with_reducible refine ((CK _ (HSE.out.step HLT.out)).out).mono ?_); rintro e w1 ⟨rfl, hb⟩; have T1 := PT.step hb; obtain ⟨s0, s1, s2, s3, s4⟩ := id T1; have HB1 := Lib.hid (below_nxt HLT.out hb); clear hb)
    exact bodyPost_ret (v := .tuple #[.agg #[.int .i64 0, .int .u64 (0 : Nat)], .int .i64 k]) (by simp [results, Tryz.results7, go_sem, s1, s2]) rfl ⟨rfl, (HB1.out.setCell (p := ⟨w.heap.size + 0, 0, none⟩) (by show _ ≤ w.heap.size + 0; omega) _).setCell (p := ⟨w.heap.size + 0, 1, none⟩) (by show _ ≤ w.heap.size + 0; omega) _⟩
end Go.Proofs.YtekeedccgnbkkaaGreatDoor
