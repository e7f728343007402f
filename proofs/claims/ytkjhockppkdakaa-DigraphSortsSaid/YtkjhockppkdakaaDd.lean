/- checkVertices of package digraph; its graph turned round. -/
import Derived.Test.YtkjhockppkdakaaDc
namespace Dg
theorem chkV_ok {n : Int} {E : List (Int × Int)} {l : List Int} (h0 : chk n E = 0) (h : ∀ j, j < l.length → vtx n (l.getD j 0) = true) : chkV n E l = 0 := by
  unfold chkV
  rw [if_pos h0, if_pos]
  rw [List.all_eq_true]
  intro x hx
  obtain ⟨i, hi, rfl⟩ := mem_getD 0 hx
  exact h i hi
theorem chkV_two {n : Int} {E : List (Int × Int)} {l : List Int} {i : Nat} (h0 : chk n E = 0) (hi : i < l.length) (h : vtx n (l.getD i 0) = false) : chkV n E l = 2 := by
  unfold chkV
  rw [if_pos h0, if_neg]
  rw [List.all_eq_true]
  intro h2
  have := h2 _ (getD_mem (d := 0) hi)
  rw [h] at this; cases this
theorem chkV_chk {n : Int} {E : List (Int × Int)} {l : List Int} (h0 : chk n E ≠ 0) : chkV n E l = chk n E := if_neg h0
end Dg
namespace Go.Proofs.Ytkjhockppkdakaa
open Go.RowKit

set_option maxHeartbeats 4000000 in
set_option maxRecDepth 100000 in
theorem dChkV_any (n : Int) (v lv : Value) (E : List (Int × Int)) (l : List Int) (w : World) (hs : SeesE w v E) (hl : SeesI w lv l) :
    Calls Try.prog 45 #[.agg #[.int .i64 n, v], lv] w fun e w' => e = .returned (.int .i64 (Dg.chkV n E l)) ∧ Below w.heap.size w w' := by
  have CK := fun W h => Lib.hid (dChk_any n v E W h)
  have HS := Lib.hid hs
  obtain ⟨ao, cap, rfl, hcap1, hcap2, hC⟩ := hs
  have CV := fun x W => Lib.hid (dIsV_any n x ao E.length cap W)
  obtain ⟨al, capl, rfl, hl1, hl2, hCl⟩ := hl.opened
  have HC := Lib.hid hCl
  obtain ⟨P0, L0, -⟩ := gph_new w n (.slice ao E.length cap) 24
  have HL := Lib.hid L0
  clear hC L0 hl hCl
  by_cases hk : Dg.chk n E = 0
  · have HNO := Lib.hid (fun i (hi : i < l.length) => Dg.chkV_two hk hi)
    have HY := Lib.hid (Dg.chkV_ok (l := l) hk)
    rw [hk] at CK
    generalize Dg.chkV n E l = R at *
    generalize hX : w.alloc (.cells #[.int .i64 n, .slice ao E.length cap] 24) = X at *
    obtain ⟨p0, p1, p2⟩ := id P0
    clear hk
    go_enter Try.func45, Try.ntmps45
    go_wp2_with fail
    refine ((CK _ (HS.out.step HL.out)).out).mono ?_
    rintro e w1 ⟨rfl, hb⟩
    have HB1 := Lib.hid (below_nxt HL.out hb)
    have P1 := P0.step hb
    clear hb p1 p2
    go_wp2
    go_loopw [15] (fun s15 wr => ∃ i : Nat, i ≤ l.length ∧ s15 = .int .i64 i ∧ GphI wr w.heap.size n (.slice ao E.length cap) ∧ Hid (∀ j, j < i → Dg.vtx n (l.getD j 0) = true) ∧ Hid (Below w.heap.size w wr)) (fun s15 _ => l.length - (intOf s15).toNat)
    case atStart => exact ⟨0, Nat.zero_le _, rfl, P1, Lib.hid (fun j h => by omega), HB1⟩
    case round =>
      clear P1 P0
      obtain ⟨i, hi, rfl, hG, HJ, HB⟩ := hrel
      obtain ⟨g0, g1, g2⟩ := id hG
      by_cases hil : i < l.length
      · obtain ⟨b, off, rfl, hg, c1⟩ := HC.out.at HB.out hil
        have CVi := CV (l.getD i 0)
        have HNi := Lib.hid (HNO.out i hil)
        have HJ2 : Hid (Dg.vtx n (l.getD i 0) = true → ∀ j, j < i + 1 → Dg.vtx n (l.getD j 0) = true) := Lib.hid (fun h j hj => by
          by_cases e : j = i
          · rw [e]; exact h
          · exact HJ.out j (by omega))
        clear CV HNO HJ HY
        generalize l.getD i 0 = y at *
        generalize Dg.vtx n y = r at *
        cases r
        · have HR := Lib.hid (HNi.out rfl)
          go_wp2_with (go_at_call 48; (with_reducible refine ((CVi _).out).mono ?_); rintro e w2 ⟨rfl, hb⟩; have HB2 := Lib.hid (below_nxt HB.out hb); clear hb)
          exact bodyPost_ret (v := .int .i64 2) (by simp [results, Try.results45, go_sem]) rfl ⟨by rw [HR.out], HB2.out⟩
        · have HJ3 := Lib.hid (HJ2.out rfl)
          go_wp2_with (go_at_call 48; (with_reducible refine ((CVi _).out).mono ?_); rintro e w2 ⟨rfl, hb⟩; have HB2 := Lib.hid (below_nxt HB.out hb); have G2 := Lib.hid (hG.step hb); clear hb)
          exact ⟨⟨i + 1, by omega, rfl, G2.out, HJ3, HB2⟩, by simp [intOf]; omega⟩
      · obtain rfl : i = l.length := by omega
        have HR := Lib.hid (HY.out HJ.out)
        clear HY HJ HNO CV
        go_wp2
        exact bodyPost_ret (v := .int .i64 0) (by simp [results, Try.results45, go_sem]) rfl ⟨by rw [HR.out], HB.out⟩
  · rw [Dg.chkV_chk hk]
    have hne : (Dg.chk n E != 0) = true := by simp [hk]
    generalize Dg.chk n E = k at *
    generalize hX : w.alloc (.cells #[.int .i64 n, .slice ao E.length cap] 24) = X at *
    obtain ⟨p0, p1, p2⟩ := id P0
    clear hk
    go_enter Try.func45, Try.ntmps45
    go_wp2_with fail
    refine ((CK _ (HS.out.step HL.out)).out).mono ?_
    rintro e w1 ⟨rfl, hb⟩
    have HB1 := Lib.hid (below_nxt HL.out hb)
    go_wp2
    exact bodyPost_ret (v := .int .i64 k) (by simp [results, Try.results45, go_sem]) rfl ⟨rfl, HB1.out⟩
end Go.Proofs.Ytkjhockppkdakaa
