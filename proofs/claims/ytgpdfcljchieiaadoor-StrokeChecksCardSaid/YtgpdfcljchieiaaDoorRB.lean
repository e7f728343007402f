/- The call of the statement StrokeChecks. -/
import Derived.Test.YtgpdfcljchieiaaDoorRA
namespace Go.Proofs.YtgpdfcljchieiaaDoor
open Go.RowKit
set_option maxHeartbeats 8000000 in
set_option maxRecDepth 100000 in
theorem checks_any (a : Int) (o : Bool) (w : World) (hst : StQ w) : Calls Tryd.prog 3 #[.agg #[.int .i64 a, .bool o]] w fun e w' => e = .returned (.bool true) ∧ Below w.heap.size w w' := by
  have HST := Lib.hid hst
  have C1 : ∀ W, Hid (Calls Tryd.prog 11 #[.agg #[.int .i64 a, .bool o]] W fun e w' => e = .returned (.tuple #[.agg #[.int .i64 (Sk.oppV a o).1.1, .bool (Sk.oppV a o).1.2], .int .i64 (Sk.oppV a o).2]) ∧ Below W.heap.size W w') := fun W => Lib.hid (sOpp_any a o W)
  have C2 : ∀ W, Hid (Calls Tryd.prog 12 #[.agg #[.int .i64 a, .bool o]] W fun e w' => e = .returned (.tuple #[.agg #[.int .i64 (Sk.oppV a o).1.1, .bool (Sk.oppV a o).1.2], .int .i64 (Sk.oppV a o).2]) ∧ Below W.heap.size W w') := fun W => Lib.hid (rOpp_any a o W)
  have C3 : ∀ W, Hid (Calls Tryd.prog 13 #[.agg #[.int .i64 a, .bool o]] W fun e w' => e = .returned (.tuple #[.string ⟨(Sk.txtV a o).1.toArray⟩, .int .i64 (Sk.txtV a o).2]) ∧ Below W.heap.size W w') := fun W => Lib.hid (sText_any a o W)
  have C4 : ∀ W, Hid (Calls Tryd.prog 14 #[.agg #[.int .i64 a, .bool o]] W fun e w' => e = .returned (.tuple #[.string ⟨(Sk.txtV a o).1.toArray⟩, .int .i64 (Sk.txtV a o).2]) ∧ Below W.heap.size W w') := fun W => Lib.hid (rText_any a o W)
  have K1 := fun W => Lib.hid (sChk_any a o W)
  have K2 := fun W => Lib.hid (rChk_any a o W)
  clear hst
  generalize Sk.chkS a = c at *
  generalize (Sk.oppV a o).2 = qe at *
  generalize (Sk.oppV a o).1.1 = qa at *
  generalize (Sk.oppV a o).1.2 = qo at *
  generalize (Sk.txtV a o).2 = te at *
  generalize (⟨(Sk.txtV a o).1.toArray⟩ : ByteArray) = tt at *
  have heq := eqlS qa qa qo qo
  rw [show (qa == qa && qo == qo) = true by simp] at heq
  obtain ⟨P0, L0, z0⟩ := boxP_new w (.int .i64 a) (.bool o) 23
  have HL := Lib.hid L0
  have HX := Lib.hid P0
  obtain ⟨p0, p1, p2⟩ := P0
  clear L0 z0
  go_enter Tryd.func3, Tryd.ntmps3
  go_wp2_with fail
  refine ((C1 _).out).mono ?_
  rintro e w1 ⟨rfl, hb1⟩
  obtain ⟨PA, LA, zA⟩ := boxP_new w1 (.int .i64 qa) (.bool qo) 23
  have HB1 := Lib.hid (below_nxt (below_nxt HL.out hb1) LA)
  have HX1 := Lib.hid ((HX.out.step hb1).step LA)
  have HA1 := Lib.hid PA
  obtain ⟨x0, x1, x2⟩ := HX1.out
  clear hb1 p0 p1 p2 HX HL LA PA zA C1
  go_wp2_with fail
  refine ((C2 _).out).mono ?_
  rintro e w2 ⟨rfl, hb2⟩
  obtain ⟨PA, LA, zA⟩ := boxP_new w2 (.int .i64 qa) (.bool qo) 23
  have HB2 := Lib.hid (below_nxt (below_nxt HB1.out hb2) LA)
  have HX2 := Lib.hid ((HX1.out.step hb2).step LA)
  have HA2 := Lib.hid ((HA1.out.step hb2).step LA)
  have HC2 := Lib.hid PA
  obtain ⟨p0, p1, p2⟩ := HX2.out
  clear hb2 x0 x1 x2 HX1 HB1 HA1 LA PA zA C2
  go_wp2_with fail
  refine ((C3 _).out).mono ?_
  rintro e w3 ⟨rfl, hb3⟩
  have HB3 := Lib.hid (below_nxt HB2.out hb3)
  have HX3 := Lib.hid (HX2.out.step hb3)
  have HA3 := Lib.hid (HA2.out.step hb3)
  have HC3 := Lib.hid (HC2.out.step hb3)
  obtain ⟨x0, x1, x2⟩ := HX3.out
  clear hb3 p0 p1 p2 HX2 HB2 HA2 HC2 C3
  go_wp2_with fail
  refine ((C4 _).out).mono ?_
  rintro e w4 ⟨rfl, hb4⟩
  have HBx := Lib.hid (below_nxt HB3.out hb4)
  have HXx := Lib.hid (HX3.out.step hb4)
  have HAx := Lib.hid (HA3.out.step hb4)
  have HCx := Lib.hid (HC3.out.step hb4)
  clear hb4 x0 x1 x2 HX3 HB3 HA3 HC3 C4
  have HB := Lib.hid (below_nxt HBx.out (Below.refl w4.heap.size w4).drew)
  have SG := Lib.hid (HST.out.step HB.out)
  have P := HXx.out.step (Below.refl w4.heap.size w4).drew
  have PA := HAx.out.step (Below.refl w4.heap.size w4).drew
  have PC := HCx.out.step (Below.refl w4.heap.size w4).drew
  obtain ⟨-, P1, P2⟩ := id P
  obtain ⟨-, P3, P4⟩ := id PA
  obtain ⟨-, P5, P6⟩ := id PC
  clear HBx HXx HAx HCx
  go_wp2
  go_region_held3 (fun W => W.cell? ⟨w.heap.size, 0, none⟩ = some (.int .i64 a) ∧ W.cell? ⟨w.heap.size, 1, none⟩ = some (.bool o) ∧ W.cell? ⟨w1.heap.size, 0, none⟩ = some (.int .i64 qa) ∧ W.cell? ⟨w1.heap.size, 1, none⟩ = some (.bool qo) ∧ W.cell? ⟨w2.heap.size, 0, none⟩ = some (.int .i64 qa) ∧ W.cell? ⟨w2.heap.size, 1, none⟩ = some (.bool qo))
    (first | (refine ⟨?_, ?_, ?_, ?_, ?_, ?_⟩ <;> with_reducible assumption) | (go_split_ands; refine ⟨?_, ?_, ?_, ?_, ?_, ?_⟩ <;> with_reducible assumption))
    (first
      | (go_at_call 17; (with_reducible refine (awake_any _ SG.out).mono ?_); rintro e wn ⟨rfl, hb⟩; have HBq := Lib.hid (below_nxt HB.out hb); have SGq := Lib.hid (SG.out.step hb); have Pq := P.step hb; have PAq := PA.step hb; have PCq := PC.step hb; clear HB SG P PA PC P1 P2 P3 P4 P5 P6; have HB := HBq; have SG := SGq; have P := Pq; have PA := PAq; have PC := PCq; clear HBq SGq Pq PAq PCq; clear hb; obtain ⟨-, P1, P2⟩ := id P; obtain ⟨-, P3, P4⟩ := id PA; obtain ⟨-, P5, P6⟩ := id PC)
      | (go_at_call 15; (with_reducible refine ((K1 _).out).mono ?_); rintro e wn ⟨rfl, hb⟩; have HBq := Lib.hid (below_nxt HB.out hb); have SGq := Lib.hid (SG.out.step hb); have Pq := P.step hb; have PAq := PA.step hb; have PCq := PC.step hb; clear HB SG P PA PC P1 P2 P3 P4 P5 P6; have HB := HBq; have SG := SGq; have P := Pq; have PA := PAq; have PC := PCq; clear HBq SGq Pq PAq PCq; clear hb; obtain ⟨-, P1, P2⟩ := id P; obtain ⟨-, P3, P4⟩ := id PA; obtain ⟨-, P5, P6⟩ := id PC)
      | (go_at_call 16; (with_reducible refine ((K2 _).out).mono ?_); rintro e wn ⟨rfl, hb⟩; have HBq := Lib.hid (below_nxt HB.out hb); have SGq := Lib.hid (SG.out.step hb); have Pq := P.step hb; have PAq := PA.step hb; have PCq := PC.step hb; clear HB SG P PA PC P1 P2 P3 P4 P5 P6; have HB := HBq; have SG := SGq; have P := Pq; have PA := PAq; have PC := PCq; clear HBq SGq Pq PAq PCq; clear hb; obtain ⟨-, P1, P2⟩ := id P; obtain ⟨-, P3, P4⟩ := id PA; obtain ⟨-, P5, P6⟩ := id PC))
  all_goals (go_wp2; go_ret; exact ⟨rfl, HB.out⟩)
end Go.Proofs.YtgpdfcljchieiaaDoor
