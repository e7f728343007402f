/- Primes and Essential of wrong tasks. -/
import Derived.Test.YtabflijfbjdpgaaDoorIv
namespace Go.Proofs.YtabflijfbjdpgaaDoor
open Go.RowKit Go.Shelf
attribute [local go_sem] Oper.semAt_some

set_option maxHeartbeats 2000000 in
set_option maxRecDepth 100000 in
theorem iPrimes_bad (n : Int) (on : Nat) (m : Int) (fr : Nat) (w : World) (ho : on < 2 ^ 64) (hf : fr < 2 ^ 64) (hchk : Ic.tchk n on m fr ≠ 0) :
    Calls Tryd.prog 33 #[.agg #[.int .i64 n, .int .u64 on, .int .i64 m, .int .u64 fr]] w fun e w' => e = .returned (.tuple #[.slice none 0 0, .int .i64 (Ic.tchk n on m fr)]) ∧ Below w.heap.size w w' := by
  have CT := fun W => Lib.hid (iCheckTask_any n on m fr W ho hf)
  have hk : (Ic.tchk n on m fr != 0) = true := by simp [hchk]
  generalize Ic.tchk n on m fr = k at *
  clear ho hf hchk
  refine (callsIn_wide (n := 9)).1 ?_
  refine callsIn_of_wp_marks Tryd.func33 rfl trivial ?_ rfl
  simp only [Tryd.ntmps33, List.size_toArray, List.length_cons, List.length_nil, Nat.reduceAdd, Nat.reduceSub, Array.replicate_succ, Array.replicate_zero, List.push_toArray, List.append_toArray, List.nil_append, List.cons_append]
  obtain ⟨P0, L0, z0⟩ := task_new w n on m fr 58
  generalize hX : w.alloc (.cells #[.int .i64 n, .int .u64 (on : Int), .int .i64 m, .int .u64 (fr : Int)] 58) = X at *
  have HL := Lib.hid L0
  obtain ⟨p0, p1, p2, p3, p4⟩ := id P0
  gi_wp2_with (refine ⟨trivial, ?_⟩; gi_at_call 30; refine (callsIn_wide.2 (CT _).out).mono ?_; rintro e Y ⟨rfl, hY⟩; have HY := Lib.hid (below_nxt HL.out hY); clear hY)
  exact ⟨.tuple #[.slice none 0 0, .int .i64 k], by simp [results, Tryd.results33, go_sem], rfl, HY.out⟩

set_option maxHeartbeats 2000000 in
set_option maxRecDepth 100000 in
theorem iEss_bad (n : Int) (on : Nat) (m : Int) (fr : Nat) (w : World) (ho : on < 2 ^ 64) (hf : fr < 2 ^ 64) (hchk : Ic.tchk n on m fr ≠ 0) :
    Calls Tryd.prog 35 #[.agg #[.int .i64 n, .int .u64 on, .int .i64 m, .int .u64 fr]] w fun e w' => e = .returned (.tuple #[.slice none 0 0, .int .i64 (Ic.tchk n on m fr)]) ∧ Below w.heap.size w w' := by
  have CT := fun W => Lib.hid (iPrimes_bad n on m fr W ho hf hchk)
  have hk : (Ic.tchk n on m fr != 0) = true := by simp [hchk]
  generalize Ic.tchk n on m fr = k at *
  clear ho hf hchk
  obtain ⟨P0, L0, z0⟩ := task_new w n on m fr 58
  generalize hX : w.alloc (.cells #[.int .i64 n, .int .u64 (on : Int), .int .i64 m, .int .u64 (fr : Int)] 58) = X at *
  have HL := Lib.hid L0
  obtain ⟨p0, p1, p2, p3, p4⟩ := id P0
  go_enter Tryd.func35, Tryd.ntmps35
  go_wp2_with (go_at_call 33; refine ((CT _).out).mono ?_; rintro e w1 ⟨rfl, hb⟩; have HB1 := Lib.hid (below_nxt HL.out hb); clear hb)
  exact bodyPost_ret (v := .tuple #[.slice none 0 0, .int .i64 k]) (by simp [results, Tryd.results35, go_sem]) rfl ⟨rfl, HB1.out⟩
end Go.Proofs.YtabflijfbjdpgaaDoor
