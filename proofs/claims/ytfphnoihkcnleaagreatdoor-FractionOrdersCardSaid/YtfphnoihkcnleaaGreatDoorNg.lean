/- The contract of the greatest common divisor of natural numbers in package fraction. -/
import Derived.Test.YtfphnoihkcnleaaGreatDoorNf
import Derived.Deep.LoopGhost
namespace Go.Proofs.YtfphnoihkcnleaaGreatDoor
open Go.RowKit

set_option maxRecDepth 100000 in
set_option maxHeartbeats 1000000 in
theorem common_any (u v : Value) (m n p : Nat) (w : World) (hu : IsNat .u32 1000000000 w u m p) (hv : IsNat .u32 1000000000 w v n p) (hp : p ≤ 400) :
    Calls Tryz.prog 91 #[u, v] w fun e w' => ∃ r, e = .returned r ∧ Below w.heap.size w w' ∧ IsNat .u32 1000000000 w' r (Nat.gcd m n) p := by
  go_enter Tryz.func91, Tryz.ntmps91
  go_wp2
  go_loopg [0, 1] n (fun g u0 u1 wr => ∃ m' : Nat, IsNat .u32 1000000000 wr u0 m' p ∧ IsNat .u32 1000000000 wr u1 g p ∧ Hid (Nat.gcd m' g = Nat.gcd m n) ∧ Below w.heap.size w wr)
  case atStart => exact ⟨m, hu, hv, Lib.hid rfl, Below.refl _ _⟩
  case round =>
    obtain ⟨m', h0, h1, HG, hbel⟩ := hrel
    have H1 := Lib.hid h1
    obtain ⟨l, sl, nl, el, ll⟩ := h1
    obtain ⟨ao, ca, rfl, a1, a2, _⟩ := sl.opened
    clear sl
    by_cases hg : 0 < gk
    · have hpos : 0 < l.length := by rw [← Limb.norm_pos (B := 1000000000) (by omega) nl, el]; exact hg
      have CO := Lib.hid (over_any _ _ m' gk p p wr h0 H1.out hp hp hg)
      clear el nl h0
      go_wp2_with (go_at_call 103; refine (CO.out).mono ?_; rintro e w2 ⟨r, s, rfl, hb2, hr, hs⟩)
      go_roundg (m' % gk)
      case measure => exact Nat.mod_lt _ hg
      case rel => exact ⟨gk, H1.out.below hb2 (Nat.le_refl _), hs, Lib.hid (by rw [← HG.out, Nat.gcd_comm m' gk, Nat.gcd_rec gk m', Nat.gcd_comm]), hbel.trans (hb2.mono hbel.size)⟩
    · have hz : l.length = 0 := by
        rcases Nat.eq_zero_or_pos l.length with h | h
        · exact h
        · exact absurd ((Limb.norm_pos (B := 1000000000) (by omega) nl).2 h) (by rw [el]; exact hg)
      have hgz : gk = 0 := by omega
      have hneg : ¬ 0 < l.length := by omega
      have HM := Lib.hid (show m' = Nat.gcd m n by rw [← HG.out, hgz, Nat.gcd_zero_right])
      have H0 := Lib.hid h0
      clear hz hgz el nl h0
      go_wp2
      go_ret
      exact ⟨_, rfl, hbel, by rw [← HM.out]; exact H0.out⟩

end Go.Proofs.YtfphnoihkcnleaaGreatDoor
