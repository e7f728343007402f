/- The statement BoundsChecks. -/
import Derived.Test.YtcheacapcjlioaaBHg
import Derived.Test.YtcheacapcjlioaaBHj
import Derived.Test.YtcheacapcjlioaaBS
import Derived.Test.YtcheacapcjlioaaBJ
import Derived.Test.YtcheacapcjlioaaBH
namespace Go.Proofs.Ytcheacapcjlioaa
open Go.RowKit
set_option maxHeartbeats 8000000 in
set_option maxRecDepth 100000 in
theorem checks_any (n : Int) (v : Value) (R : List (List Int)) (cv : Value) (cl : List Int) (tv : Value) (ts : List Int) (w : World) (hs : SeesR w v R) (hc : SeeI w cv cl) (ht : SeeI w tv ts) (_hcn : ∀ n c, cv = .slice none n c → c = 0) (hnil : ∀ n c, tv = .slice none n c → c = 0) :
    Calls Try.prog 3 #[.agg #[.int .i64 n, v], cv, tv] w fun e w' => e = .returned (.bool true) ∧ Below w.heap.size w w' := by
  have HS := Lib.hid hs
  have HC := Lib.hid hc
  have HT := Lib.hid ht
  have hnil := Lib.hid hnil
  clear _hcn
  obtain ⟨ao, cap, rfl, hcap1, hcap2, -⟩ := hs
  obtain ⟨bo, cbp, rfl, hcbp1, hcbp2, -⟩ := hc
  obtain ⟨to, ctp, rfl, hctp1, hctp2, -⟩ := ht
  obtain ⟨B0, L0⟩ := boxB_new w n (.slice ao R.length cap) 24
  have HL := Lib.hid L0
  have HSX := Lib.hid (HS.out.step L0)
  have HB := Lib.hid B0
  clear L0 B0
  have F1 := fun W (h : SeesR W (.slice ao R.length cap) R) => Lib.hid (few_any n _ R W h)
  have C1 := fun W (h : SeesR W (.slice ao R.length cap) R) (h2 : SeeI W (.slice bo cl.length cbp) cl) (h3 : cl.length ≤ 1000) => Lib.hid (show Calls Try.prog 10 #[.agg #[.int .i64 n, .slice ao R.length cap], .slice bo cl.length cbp] W (VerP (Bn.verV n R cl) W) from bVer_any n _ _ R cl W h h2 h3)
  have C2 := fun W (h : SeesR W (.slice ao R.length cap) R) (h2 : SeeI W (.slice bo cl.length cbp) cl) (h3 : cl.length ≤ 1000) => Lib.hid (show Calls Try.prog 11 #[.agg #[.int .i64 n, .slice ao R.length cap], .slice bo cl.length cbp] W (VerP (Bn.verV n R cl) W) from rVer_any n _ _ R cl W h h2 h3)
  have C3 := fun W (h : SeesR W (.slice ao R.length cap) R) (h2 : SeeI W (.slice to ts.length ctp) ts) => Lib.hid (show Calls Try.prog 12 #[.agg #[.int .i64 n, .slice ao R.length cap], .slice to ts.length ctp] W (HolP (Bn.hldV n R ts) W) from bHol_any n _ _ R ts W h h2 hnil.out)
  have C4 := fun W (h : SeesR W (.slice ao R.length cap) R) (h2 : SeeI W (.slice to ts.length ctp) ts) => Lib.hid (show Calls Try.prog 13 #[.agg #[.int .i64 n, .slice ao R.length cap], .slice to ts.length ctp] W (HolP (Bn.hldV n R ts) W) from rHol_any n _ _ R ts W h h2 hnil.out)
  have K1 := fun W (h : SeesR W (.slice ao R.length cap) R) => Lib.hid (bChk_any n _ R W h)
  have K2 := fun W (h : SeesR W (.slice ao R.length cap) R) => Lib.hid (rChk_any n _ R W h)
  generalize Bn.few n R = f1 at *
  generalize Bn.verV n R cl = q at *
  generalize Bn.hldV n R ts = p at *
  generalize Bn.chk n R = k at *
  obtain ⟨q1, q2⟩ := q
  obtain ⟨p1, p2⟩ := p
  obtain ⟨b0, b1, b2⟩ := HB.out
  by_cases hg : f1 = true ∧ cl.length ≤ 50 ∧ ts.length ≤ 50
  · obtain ⟨rfl, h50, t50⟩ := hg
    go_enter Try.func3, Try.ntmps3
    go_wp2_with fail
    refine ((F1 _ HSX.out).out).mono ?_
    rintro e w1 ⟨rfl, hb1⟩
    have HB1 := Lib.hid (below_nxt HL.out hb1)
    have HX1 := Lib.hid (HB.out.step hb1)
    obtain ⟨x0, x1, x2⟩ := HX1.out
    clear hb1 F1 b0 b1 b2
    go_wp2_with fail
    refine ((C1 _ (HS.out.step HB1.out) (HC.out.step HB1.out) (by omega)).out).mono ?_
    rintro e w2 ⟨rfl, hb2⟩
    have HB2 := Lib.hid (below_nxt HB1.out hb2)
    have HX2 := Lib.hid (HX1.out.step hb2)
    obtain ⟨y0, y1, y2⟩ := HX2.out
    clear hb2 C1 x0 x1 x2 HX1 HB1
    go_wp2_with fail
    refine ((C2 _ (HS.out.step HB2.out) (HC.out.step HB2.out) (by omega)).out).mono ?_
    rintro e w3 ⟨rfl, hb3⟩
    have HB3 := Lib.hid (below_nxt HB2.out hb3)
    have HX3 := Lib.hid (HX2.out.step hb3)
    obtain ⟨x0, x1, x2⟩ := HX3.out
    clear hb3 C2 y0 y1 y2 HX2 HB2
    go_wp2_with fail
    refine ((C3 _ (HS.out.step HB3.out) (HT.out.step HB3.out)).out).mono ?_
    rintro e w4 ⟨rfl, hb4⟩
    have HB4 := Lib.hid (below_nxt HB3.out hb4)
    have HX4 := Lib.hid (HX3.out.step hb4)
    obtain ⟨y0, y1, y2⟩ := HX4.out
    clear hb4 C3 x0 x1 x2 HX3 HB3
    go_wp2_with fail
    refine ((C4 _ (HS.out.step HB4.out) (HT.out.step HB4.out)).out).mono ?_
    rintro e w5 ⟨rfl, hb5⟩
    have HB5 := Lib.hid (below_nxt HB4.out hb5)
    have hX5 := HX4.out.step hb5
    have HX5 := Lib.hid hX5
    clear hb5 C4 y0 y1 y2 HX4 HB4
    have HB := Lib.hid (below_nxt HB5.out (Below.refl w5.heap.size w5).drew)
    have SG := Lib.hid (HS.out.step HB.out)
    have P := hX5.step (Below.refl w5.heap.size w5).drew
    obtain ⟨-, P1, P2⟩ := id P
    clear hX5 HX5 HB5
    go_wp2
    go_region_held3 (fun W => W.cell? ⟨w.heap.size, 0, none⟩ = some (.int .i64 n) ∧ W.cell? ⟨w.heap.size, 1, none⟩ = some (.slice ao R.length cap))
      (first | (refine ⟨?_, ?_⟩ <;> with_reducible assumption) | (go_split_ands; refine ⟨?_, ?_⟩ <;> with_reducible assumption))
      (first
        | (go_at_call 9; (with_reducible refine (awake_any _).mono ?_); rintro e wn ⟨rfl, hb⟩; have HBq := Lib.hid (below_nxt HB.out hb); have SGq := Lib.hid (SG.out.step hb); have Pq := P.step hb; clear HB SG P; have HB := HBq; have SG := SGq; have P := Pq; clear HBq SGq Pq; clear P1 P2; clear hb; obtain ⟨-, P1, P2⟩ := id P)
        | (go_at_call 14; (with_reducible refine ((K1 _ SG.out).out).mono ?_); rintro e wn ⟨rfl, hb⟩; have HBq := Lib.hid (below_nxt HB.out hb); have SGq := Lib.hid (SG.out.step hb); have Pq := P.step hb; clear HB SG P; have HB := HBq; have SG := SGq; have P := Pq; clear HBq SGq Pq; clear P1 P2; clear hb; obtain ⟨-, P1, P2⟩ := id P)
        | (go_at_call 15; (with_reducible refine ((K2 _ SG.out).out).mono ?_); rintro e wn ⟨rfl, hb⟩; have HBq := Lib.hid (below_nxt HB.out hb); have SGq := Lib.hid (SG.out.step hb); have Pq := P.step hb; clear HB SG P; have HB := HBq; have SG := SGq; have P := Pq; clear HBq SGq Pq; clear P1 P2; clear hb; obtain ⟨-, P1, P2⟩ := id P))
    all_goals (go_wp2; go_ret; exact ⟨rfl, HB.out⟩)
  · have gl : (f1 = false) ∨ (f1 = true ∧ ¬ cl.length ≤ 50) ∨ (f1 = true ∧ cl.length ≤ 50 ∧ ¬ ts.length ≤ 50) := by
      cases f1
      · exact .inl rfl
      · by_cases h : cl.length ≤ 50
        · exact .inr (.inr ⟨rfl, h, fun h2 => hg ⟨rfl, h, h2⟩⟩)
        · exact .inr (.inl ⟨rfl, h⟩)
    clear hg C1 C2 C3 C4 K1 K2
    rcases gl with rfl | ⟨rfl, h50⟩ | ⟨rfl, h50, t50⟩
    all_goals
      go_enter Try.func3, Try.ntmps3
      go_wp2_with fail
      refine ((F1 _ HSX.out).out).mono ?_
      rintro e w1 ⟨rfl, hb1⟩
      have HB1 := Lib.hid (below_nxt HL.out hb1)
      clear hb1 F1 b0 b1 b2
      go_wp2_with fail
      refine (awake_any _).mono ?_
      rintro e w2 ⟨rfl, hb2⟩
      have HB2 := Lib.hid (below_nxt HB1.out hb2)
      clear hb2
      go_wp2
      go_ret
      exact ⟨rfl, HB2.out⟩
end Go.Proofs.Ytcheacapcjlioaa
