/- Names of the ports that take pressure in, by the reference. -/
import Derived.Test.YthjkcncfppndkaaDoorGU
import Derived.Lib.OwnBridge
namespace Go.Proofs.YthjkcncfppndkaaDoor
open Go.RowKit
theorem wpList_append_one {P : Program} {w : World} {ops : Array Oper} {rest : List Oper} {o : Oper} {a : Act} {Q : Exit → Act → World → Prop} (hgd : o.guard = none) (s x : Operand) (t : TypeId)
    (ho : o.op = .call { callee := .builtin .append, args := #[s, x], argTypes := #[t, t] })
    (i : TypeInfo) (ht : P.underlying t = some (.slice 9)) (hi : P.info? 9 = some i) (hz : i.zero = some (.string ⟨#[]⟩)) (hsize : i.size = 1) (hby : i.bytes = 16)
    (v : Value) (l : List ByteArray) (y : ByteArray) (A : Nat) (hs : a.eval s = v) (hx : a.eval x = .slice (some ⟨A, 0, none⟩) 1 1) (B : Nat) (hown : RowS B w v l) (hu : w.cell? ⟨A, 0, none⟩ = some (.string y))
    (hlen : l.length ≤ 1048576) (hB : B ≤ w.heap.size)
    (h : ∀ v' w', RowS B w' v' (l ++ [y]) → Below B w w' → wpList P ops Q rest (a.put o.dst v') w') : wpList P ops Q (o :: rest) a w := by
  refine wpList_append_own w hgd s x t ho B 9 i (.string ⟨#[]⟩) 1 16 ht hi hz hsize hby rfl (by omega) v l.length _ hs hown ⟨A, 0, none⟩ 1 1 [.string y] hx (by simp) ?_ (by intro u hu; simp at hu; subst hu; rfl) (by unfold maxLen; omega) (by omega) hB ?_
  · intro j u hj
    have hjl : j < 1 := by simpa using (List.getElem?_eq_some_iff.1 hj).1
    obtain rfl : j = 0 := by omega
    have hadd : (⟨A, 0, none⟩ : Addr).add 0 = ⟨A, 0, none⟩ := by unfold Addr.add; split <;> simp_all
    rw [hadd, hu]
    simpa using hj
  · intro v' w' r1 r2 r3
    refine h v' w' ?_ ((Below.refl _ _).grown r2 hB (fun g hg => (World.ownsRow.lt hown g hg).1))
    unfold RowS
    rw [List.length_append, List.map_append]
    exact r1
set_option maxHeartbeats 4000000 in
set_option maxRecDepth 100000 in
theorem put_nil (s : ByteArray) (w : World) : Calls Tryd.prog 72 #[.slice none 0 0, .string s] w fun e w' => ∃ v, e = .returned v ∧ RowS w.heap.size w' v [s] ∧ Below w.heap.size w w' := by
  obtain ⟨i0, hi0, hz0, hz1, hz2⟩ := info_str
  have HR := Lib.hid (RowS.nil w.heap.size (w.alloc (.cells #[.string s] 9)))
  have HL := Lib.hid (show Below w.heap.size w (w.alloc (.cells #[.string s] 9)) from (Below.refl _ _).alloc (Nat.le_refl _) _)
  go_enter Tryd.func72, Tryd.ntmps72
  go_wp2
  go_loopw [5, 6, 7] (fun s5 s6 s7 wr => s7 = .int .i64 0 ∧ s6 = .bool false ∧ s5 = .slice none 0 0 ∧ wr = w) (fun _ _ _ _ => 0)
  case atStart => exact ⟨rfl, rfl, rfl, rfl⟩
  case round =>
    obtain ⟨rfl, rfl, rfl, rfl⟩ := hrel
    go_wp2_with (at_builtin; (refine wpList_append_one rfl _ _ 37 rfl i0 Tryd.underlying37 hi0 hz0 hz1 hz2 _ [] s _ rfl rfl wr.heap.size HR.out (by simp) (by simp) (by simp) ?_; intro v3 w3 hr3 hb3; have HR3 := Lib.hid hr3; have HB3 := Lib.hid (HL.out.trans hb3); clear hr3 hb3 HR HL))
    go_ret
    exact ⟨_, rfl, HR3.out, HB3.out⟩
set_option maxHeartbeats 4000000 in
set_option maxRecDepth 100000 in
theorem names_1 (w : World) : Calls Tryd.prog 71 #[.string ⟨#[49, 32]⟩] w fun e w' => ∃ v, e = .returned v ∧ SeeS w' v [⟨#[49]⟩] ∧ Below w.heap.size w w' := by
  have CP := fun s W => Lib.hid (put_nil s W)
  go_enter Tryd.func71, Tryd.ntmps71
  go_wp2
  go_loopw [3, 4, 5] (fun s3 s4 s5 wr => (s5 = .int .i64 0 ∧ s4 = .string ⟨#[]⟩ ∧ s3 = .slice none 0 0 ∧ wr = w) ∨ (s5 = .int .i64 1 ∧ s4 = .string ⟨#[49]⟩ ∧ s3 = .slice none 0 0 ∧ wr = w) ∨ (s5 = .int .i64 2 ∧ Hid (RowS w.heap.size wr s3 [⟨#[49]⟩] ∧ Below w.heap.size w wr))) (fun _ _ s5 _ => 2 - (intOf s5).toNat)
  case atStart => exact .inl ⟨rfl, rfl, rfl, rfl⟩
  case round =>
    rcases hrel with ⟨rfl, rfl, rfl, rfl⟩ | ⟨rfl, rfl, rfl, rfl⟩ | ⟨rfl, HQ⟩
    · go_wp2
      exact ⟨.inr (.inl ⟨rfl, by first | rfl | decide, rfl, trivial⟩), by simp [intOf]⟩
    · go_wp2_with fail
      refine (CP _ _).out.mono ?_
      rintro e w1 ⟨v, rfl, h1, hb1⟩
      have HQ := Lib.hid (show RowS wr.heap.size w1 v [⟨#[49]⟩] ∧ Below wr.heap.size wr w1 from ⟨h1, hb1⟩)
      clear h1 hb1
      go_wp2
      exact ⟨.inr (.inr ⟨rfl, HQ⟩), by simp [intOf]⟩
    · go_wp2
      go_ret
      exact ⟨_, rfl, HQ.out.1.sees, HQ.out.2⟩
theorem geq_no (x s : ByteArray) (hlt : Op.bytesLess x.toList s.toList = true) : ∀ w, (binOp .geq 9 (.string x) (.string s)).run Tryd.prog w = .ok (.bool false) w := by
  intro w
  simp [binOp, go_sem, Op.stringOp, hlt]
set_option maxHeartbeats 4000000 in
set_option maxRecDepth 100000 in
theorem put_one (x s : ByteArray) (hlt : Op.bytesLess x.toList s.toList = true) (hne : (x.toList == s.toList) = false) (_hne2 : ¬ x.toList = s.toList) (v : Value) (w : World) (hv : SeeS w v [x]) : Calls Tryd.prog 72 #[v, .string s] w fun e w' => ∃ u, e = .returned u ∧ RowS w.heap.size w' u [x, s] ∧ Below w.heap.size w w' := by
  obtain ⟨i0, hi0, hz0, hz1, hz2⟩ := info_str
  obtain ⟨a, c, rfl, -, hc⟩ := hv.at
  obtain ⟨g, off, rfl, c0⟩ := hc 0 (by simp)
  change w.cell? ⟨g, off + 0, none⟩ = some (.string x) at c0
  rw [Nat.add_zero] at c0
  have C0 := Lib.hid c0
  have hge := geq_no x s hlt
  have HG := Lib.hid (World.block_lt_of_cell? w ⟨g, off, none⟩ c0)
  clear hc hv
  go_enter Tryd.func72, Tryd.ntmps72
  go_wp2
  go_loopw [5, 6, 7] (fun s5 s6 s7 wr => (s7 = .int .i64 0 ∧ s6 = .bool false ∧ s5 = .slice none 0 0 ∧ wr = w) ∨ (s7 = .int .i64 1 ∧ s6 = .bool false ∧ Hid (RowS w.heap.size wr s5 [x] ∧ Below w.heap.size w wr))) (fun _ _ s7 _ => 1 - (intOf s7).toNat)
  case atStart => exact .inl ⟨rfl, rfl, rfl, rfl⟩
  case round =>
    rcases hrel with ⟨rfl, rfl, rfl, rfl⟩ | ⟨rfl, rfl, HQ⟩
    · have HL := Lib.hid (show Below wr.heap.size wr (wr.alloc (.cells #[.string x] 9)) from (Below.refl _ _).alloc (Nat.le_refl _) _)
      have HR := Lib.hid (RowS.nil wr.heap.size (wr.alloc (.cells #[.string x] 9)))
      go_wp2_with (at_builtin; (refine wpList_append_one rfl _ _ 37 rfl i0 Tryd.underlying37 hi0 hz0 hz1 hz2 _ [] x _ rfl rfl wr.heap.size HR.out (by simp) (by simp) (by simp) ?_; intro v3 w3 hr3 hb3; have HQ := Lib.hid (show RowS wr.heap.size w3 v3 [x] ∧ Below wr.heap.size wr w3 from ⟨hr3, HL.out.trans hb3⟩); clear hr3 hb3 HR HL))
      exact ⟨.inr ⟨rfl, rfl, HQ⟩, by simp [intOf]⟩
    · clear c0
      have HL := Lib.hid (show Below wr.heap.size wr (wr.alloc (.cells #[.string s] 9)) from (Below.refl _ _).alloc (Nat.le_refl _) _)
      have HR := Lib.hid (HQ.out.1.step HL.out)
      have HB := Lib.hid (HQ.out.2.trans (HL.out.mono HQ.out.2.size))
      have HC := Lib.hid (show (wr.alloc (.cells #[.string s] 9)).cell? ⟨wr.heap.size, 0, none⟩ = some (.string s) by simp)
      go_wp2_with (at_builtin; (refine wpList_append_one rfl _ _ 37 rfl i0 Tryd.underlying37 hi0 hz0 hz1 hz2 _ [x] s _ rfl rfl w.heap.size HR.out HC.out (by simp) HB.out.size ?_; intro v3 w3 hr3 hb3; have HR3 := Lib.hid hr3; have HB3 := Lib.hid (HB.out.trans hb3); clear hr3 hb3 HR HL HQ HB HC))
      go_ret
      exact ⟨_, rfl, HR3.out, HB3.out⟩
set_option maxHeartbeats 4000000 in
set_option maxRecDepth 100000 in
theorem names_11 (w : World) : Calls Tryd.prog 71 #[.string ⟨#[49, 32, 49, 49, 32]⟩] w fun e w' => ∃ v, e = .returned v ∧ SeeS w' v [⟨#[49]⟩, ⟨#[49, 49]⟩] ∧ Below w.heap.size w w' := by
  have CP := fun s W => Lib.hid (put_nil s W)
  have CO := fun v W (h : SeeS W v [⟨#[49]⟩]) => Lib.hid (put_one ⟨#[49]⟩ ⟨#[49, 49]⟩ (by rw [ByteArray.toList_eq, ByteArray.toList_eq]; decide) (by rw [ByteArray.toList_eq, ByteArray.toList_eq]; decide) (by rw [ByteArray.toList_eq, ByteArray.toList_eq]; decide) v W h)
  go_enter Tryd.func71, Tryd.ntmps71
  go_wp2
  go_loopw [3, 4, 5] (fun s3 s4 s5 wr => (s5 = .int .i64 0 ∧ s4 = .string ⟨#[]⟩ ∧ s3 = .slice none 0 0 ∧ wr = w) ∨ (s5 = .int .i64 1 ∧ s4 = .string ⟨#[49]⟩ ∧ s3 = .slice none 0 0 ∧ wr = w) ∨ (s5 = .int .i64 2 ∧ s4 = .string ⟨#[]⟩ ∧ Hid (RowS w.heap.size wr s3 [⟨#[49]⟩] ∧ Below w.heap.size w wr)) ∨
    (s5 = .int .i64 3 ∧ s4 = .string ⟨#[49]⟩ ∧ Hid (RowS w.heap.size wr s3 [⟨#[49]⟩] ∧ Below w.heap.size w wr)) ∨ (s5 = .int .i64 4 ∧ s4 = .string ⟨#[49, 49]⟩ ∧ Hid (RowS w.heap.size wr s3 [⟨#[49]⟩] ∧ Below w.heap.size w wr)) ∨ (s5 = .int .i64 5 ∧ Hid (SeeS wr s3 [⟨#[49]⟩, ⟨#[49, 49]⟩] ∧ Below w.heap.size w wr))) (fun _ _ s5 _ => 5 - (intOf s5).toNat)
  case atStart => exact .inl ⟨rfl, rfl, rfl, rfl⟩
  case round =>
    rcases hrel with ⟨rfl, rfl, rfl, rfl⟩ | ⟨rfl, rfl, rfl, rfl⟩ | ⟨rfl, rfl, HQ⟩ | ⟨rfl, rfl, HQ⟩ | ⟨rfl, rfl, HQ⟩ | ⟨rfl, HQ⟩
    · go_wp2
      exact ⟨.inr (.inl ⟨rfl, by first | rfl | decide, rfl, trivial⟩), by simp [intOf]⟩
    · go_wp2_with fail
      refine (CP _ _).out.mono ?_
      rintro e w1 ⟨v, rfl, h1, hb1⟩
      have HQ := Lib.hid (show RowS wr.heap.size w1 v [⟨#[49]⟩] ∧ Below wr.heap.size wr w1 from ⟨h1, hb1⟩)
      clear h1 hb1
      go_wp2
      exact ⟨.inr (.inr (.inl ⟨rfl, rfl, HQ⟩)), by simp [intOf]⟩
    · go_wp2
      exact ⟨.inr (.inr (.inr (.inl ⟨rfl, by first | rfl | decide, HQ⟩))), by simp [intOf]⟩
    · go_wp2
      exact ⟨.inr (.inr (.inr (.inr (.inl ⟨rfl, by first | rfl | decide, HQ⟩)))), by simp [intOf]⟩
    · go_wp2_with fail
      refine (CO _ _ HQ.out.1.sees).out.mono ?_
      rintro e w1 ⟨v, rfl, h1, hb1⟩
      have HQ2 := Lib.hid (show SeeS w1 v [⟨#[49]⟩, ⟨#[49, 49]⟩] ∧ Below w.heap.size w w1 from ⟨h1.sees, HQ.out.2.trans (hb1.mono HQ.out.2.size)⟩)
      clear h1 hb1 HQ
      go_wp2
      exact ⟨.inr (.inr (.inr (.inr (.inr ⟨rfl, HQ2⟩)))), by simp [intOf]⟩
    · go_wp2
      go_ret
      exact ⟨_, rfl, HQ.out.1, HQ.out.2⟩
end Go.Proofs.YthjkcncfppndkaaDoor
