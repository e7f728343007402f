/- Equal lists of texts and of passes; passes as those of the reference. -/
import Derived.Test.YthjkcncfppndkaaDoorGI
namespace Go.Proofs.YthjkcncfppndkaaDoor
open Go.RowKit
theorem SeeS.at {w : World} {v : Value} {l : List ByteArray} (h : SeeS w v l) : ∃ a c, v = .slice a l.length c ∧ l.length ≤ 9223372036854775807 ∧ ∀ i, i < l.length → ∃ g off, a = some ⟨g, off, none⟩ ∧ w.cell? ⟨g, off + i, none⟩ = some (.string (l.getD i ⟨#[]⟩)) := by
  rcases h with ⟨rfl, rfl⟩ | ⟨g, off, cap, rfl, h2, h3, h4, h5⟩
  · exact ⟨none, 0, rfl, Nat.zero_le _, fun i hi => absurd hi (Nat.not_lt_zero _)⟩
  · exact ⟨_, _, rfl, by omega, fun i hi => ⟨g, off, rfl, h5 i hi⟩⟩
theorem drew2 (w : World) (a b : Nat) : (w.drewN a).drewN b = w.drewN (a + b) := by simp [World.drewN, Nat.add_assoc]
set_option maxHeartbeats 2000000 in
set_option maxRecDepth 100000 in
theorem sameT_yes (v u : Value) (l : List ByteArray) (w : World) (h1 : SeeS w v l) (h2 : SeeS w u l) : Calls Tryd.prog 53 #[v, u] w fun e w' => e = .returned (.bool true) ∧ ∃ q, w' = w.drewN q := by
  obtain ⟨a, c, rfl, hl, k1⟩ := h1.at
  obtain ⟨b, d, rfl, -, k2⟩ := h2.at
  have K1 := Lib.hid k1
  have K2 := Lib.hid k2
  clear k1 k2 h1 h2
  go_enter Tryd.func53, Tryd.ntmps53
  go_wp2
  go_loopw [5] (fun s5 wr => ∃ i : Nat, i ≤ l.length ∧ s5 = .int .i64 (i : Int) ∧ Hid (∃ q, wr = w.drewN q)) (fun s5 _ => l.length - (intOf s5).toNat)
  case atStart => exact ⟨0, Nat.zero_le _, rfl, Lib.hid ⟨0, rfl⟩⟩
  case round =>
    obtain ⟨i, hi, rfl, HQ⟩ := hrel
    obtain ⟨q, rfl⟩ := HQ.out
    by_cases hil : i < l.length
    · have zi : (i : Int) < (l.length : Int) := by omega
      obtain ⟨g, off, rfl, c1⟩ := K1.out i hil
      obtain ⟨g2, off2, rfl, c2⟩ := K2.out i hil
      have d1 : (w.drewN q).cell? ⟨g, off + i, none⟩ = some (.string (l.getD i ⟨#[]⟩)) := c1
      have d2 : (w.drewN q).cell? ⟨g2, off2 + i, none⟩ = some (.string (l.getD i ⟨#[]⟩)) := c2
      clear c1 c2 K1 K2
      generalize l.getD i ⟨#[]⟩ = x at *
      generalize hw : w.drewN q = wr at *
      go_wp2
      go_quiet (fail)
      go_wp2
      exact ⟨⟨i + 1, by omega, by first | rfl | go_num, Lib.hid ⟨_, by rw [← hw, drew2]⟩⟩, by simp [intOf]; omega⟩
    · obtain rfl : i = l.length := by omega
      go_wp2
      go_ret
      exact ⟨rfl, q, rfl⟩
end Go.Proofs.YthjkcncfppndkaaDoor
