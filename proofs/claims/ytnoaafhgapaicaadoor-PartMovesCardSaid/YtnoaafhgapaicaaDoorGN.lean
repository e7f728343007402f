/- The statement PartSettles. -/
import Derived.Test.YtnoaafhgapaicaaDoorGM
namespace Pt
theorem pos12 : ∀ k, k < 14 → (cat k).pos = 1 ∨ (cat k).pos = 2 := by decide +kernel
theorem pil2 : ∀ k, k < 14 → (cat k).plus ≠ ⟨#[]⟩ → (cat k).pos = 2 := by decide +kernel
theorem pil0 : ∀ k, k < 14 → (cat k).plus = ⟨#[]⟩ → (cat k).minus = ⟨#[]⟩ := by decide +kernel
end Pt
namespace Go.Proofs.YtnoaafhgapaicaaDoor
open Go.RowKit
/-- Two truth values in a block of their own. -/
def BoxBB (W : World) (g : Nat) (x y : Bool) : Prop := g < W.heap.size ∧ W.cell? ⟨g, 0, none⟩ = some (.bool x) ∧ W.cell? ⟨g, 1, none⟩ = some (.bool y)
theorem BoxBB.step {W W' : World} {g : Nat} {x y : Bool} (h : BoxBB W g x y) (hb : Below W.heap.size W W') : BoxBB W' g x y :=
  ⟨Nat.lt_of_lt_of_le h.1 hb.size, (hb.cell (p := ⟨g, 0, none⟩) h.1).trans h.2.1, (hb.cell (p := ⟨g, 1, none⟩) h.1).trans h.2.2⟩
theorem boxBB_new (w : World) (x y : Bool) (T : TypeId) : BoxBB (w.alloc (.cells #[.bool x, .bool y] T)) w.heap.size x y ∧ Below w.heap.size w (w.alloc (.cells #[.bool x, .bool y] T)) :=
  ⟨⟨by simp, by simp, by simp⟩, (Below.refl _ _).alloc (Nat.le_refl _) _⟩
set_option maxHeartbeats 8000000 in
set_option maxRecDepth 100000 in
theorem settles_any (k b : Nat) (x y : Bool) (w : World) (hk : k < 256) (hb : b < 256) (hx : Lx w) :
    Calls Tryd.prog 9 #[.int .u8 (k : Int), .int .u8 (b : Int), .agg #[.bool x, .bool y]] w fun e w' => e = .returned (.bool true) ∧ Below w.heap.size w w' := by
  obtain ⟨c, hc⟩ : ∃ c, c = k % 14 := ⟨_, rfl⟩
  have hc14 : c < 14 := by omega
  have hmod : (k : Int).tmod 14 = (c : Int) := by rw [Int.tmod_eq_emod_of_nonneg (by omega), hc]; omega
  have h12 := Pt.pos12 c hc14
  have hp2 := Pt.pil2 c hc14
  have hp0 := Pt.pil0 c hc14
  obtain ⟨d, hd⟩ : ∃ d, d = b % (Pt.cat c).pos.toNat := ⟨_, rfl⟩
  have hd0 : (d : Int) < (Pt.cat c).pos := by
    have := Nat.mod_lt b (show 0 < (Pt.cat c).pos.toNat by omega)
    omega
  have hmod2 : (b : Int).tmod (Pt.cat c).pos = (d : Int) := by
    rw [Int.tmod_eq_emod_of_nonneg (by omega), hd]
    have e : (((Pt.cat c).pos.toNat : Nat) : Int) = (Pt.cat c).pos := by omega
    rw [Int.natCast_emod, e]
  clear hd
  have HX := Lib.hid hx
  have CP := fun W => Lib.hid (pos_any c hc14 W)
  have CL := fun W => Lib.hid (pil_any c hc14 W)
  have CN := fun (p : Int) (h0 : 0 ≤ p) (h1 : p < (Pt.cat c).pos) W => Lib.hid (next_any c p x y hc14 h0 h1 W)
  have CA := fun W (h : Lx W) => Lib.hid (awake20_any W h)
  have HC := Lib.hid hc
  have HC14 := Lib.hid hc14
  obtain ⟨B0, L0⟩ := boxBB_new w x y 60
  have HB0 := Lib.hid L0
  have HP0 := Lib.hid B0
  obtain ⟨P0, P1, P2⟩ := B0
  clear L0 hx hc hc14
  have h7 : 1 ≤ (Pt.cat c).pos := by omega
  generalize Pt.cat c = r at *
  obtain ⟨r0, r1, r2, r3, r4, r5, r6, r7, r8, r9, r10⟩ := r
  simp only [Pt.nextV] at *
  have hz7 : ¬ r7 = 0 := by omega
  have hl7 : ¬ r7 < 1 := by omega
  have hd00 : (0 : Int) ≤ (d : Int) := by omega
  by_cases e8 : r8 = ⟨#[]⟩
  · obtain rfl := hp0 e8
    subst e8
    have C1 := fun W => Lib.hid (show Calls Tryd.prog 34 #[.int .i64 (c : Int), .int .i64 (d : Int), .bool x, .bool y] W fun e w' => e = .returned (.tuple #[.int .i64 (d : Int), .bool false, .int .i64 0]) ∧ Below W.heap.size W w' by
            have := (CN d hd00 hd0 W).out
            simpa [] using this)
    have C2 := fun W => Lib.hid (show Calls Tryd.prog 34 #[.int .i64 (c : Int), .int .i64 (d : Int), .bool x, .bool y] W fun e w' => e = .returned (.tuple #[.int .i64 (d : Int), .bool false, .int .i64 0]) ∧ Below W.heap.size W w' by
            have := (CN (d : Int) (hd00) (hd0) W).out
            simpa [] using this)
    clear CN
    clear hp0 hp2 h12
    go_enter Tryd.func9, Tryd.ntmps9
    go_wp2_with fail
    clear P0 P1 P2
    refine (CP _).out.mono ?_
    rintro e w1 ⟨rfl, hb1⟩
    have HB1 := Lib.hid (below_nxt HB0.out hb1)
    have HP1 := Lib.hid (HP0.out.step hb1)
    clear hb1 HB0 HP0 CP
    go_wp2_with fail
    refine (CL _).out.mono ?_
    rintro e w2 ⟨rfl, hb2⟩
    have HB2 := Lib.hid (below_nxt HB1.out hb2)
    have HP2 := Lib.hid (HP1.out.step hb2)
    clear hb2 HB1 HP1 CL
    obtain ⟨P0, P1, P2⟩ := HP2.out
    go_wp2_with fail
    clear P0 P1 P2
    refine (C1 _).out.mono ?_
    rintro e w3 ⟨rfl, hb3⟩
    have HB3 := Lib.hid (below_nxt HB2.out hb3)
    have HP3 := Lib.hid (HP2.out.step hb3)
    clear hb3 HB2 HP2 C1
    obtain ⟨P0, P1, P2⟩ := HP3.out
    go_wp2_with fail
    clear P0 P1 P2
    refine (C2 _).out.mono ?_
    rintro e w4 ⟨rfl, hb4⟩
    have HB4 := Lib.hid (below_nxt HB3.out hb4)
    have HP4 := Lib.hid (HP3.out.step hb4)
    clear hb4 HB3 HP3 C2
    obtain ⟨P0, P1, P2⟩ := HP4.out
    go_wp2_with fail
    clear P0 P1 P2
    refine (CA _ (HX.out.next HB4.out)).out.mono ?_
    rintro e w5 ⟨rfl, hb5⟩
    have HB5 := Lib.hid (below_nxt HB4.out hb5)
    clear hb5 CA
    go_wp2
    go_ret
    exact ⟨rfl, HB5.out⟩
  · have h72 := hp2 e8
    have t8 := no_txt e8
    have u8 := no_txt2 e8
    by_cases e9 : r9 = ⟨#[]⟩
    · subst e9
      cases x
      · cases y
        · have C1 := fun W => Lib.hid (show Calls Tryd.prog 34 #[.int .i64 (c : Int), .int .i64 (d : Int), .bool false, .bool false] W fun e w' => e = .returned (.tuple #[.int .i64 0, .bool false, .int .i64 0]) ∧ Below W.heap.size W w' by
            have := (CN d hd00 hd0 W).out
            simpa [e8] using this)
          have C2 := fun W => Lib.hid (show Calls Tryd.prog 34 #[.int .i64 (c : Int), .int .i64 0, .bool false, .bool false] W fun e w' => e = .returned (.tuple #[.int .i64 0, .bool false, .int .i64 0]) ∧ Below W.heap.size W w' by
            have := (CN 0 (by omega) (by omega) W).out
            simpa [e8] using this)
          clear CN
          have z7 : (1 : Int) < r7 := by omega
          have y7 : (0 : Int) < r7 := by omega
          clear hp0 hp2 h12 h72
          go_enter Tryd.func9, Tryd.ntmps9
          go_wp2_with fail
          clear P0 P1 P2
          refine (CP _).out.mono ?_
          rintro e w1 ⟨rfl, hb1⟩
          have HB1 := Lib.hid (below_nxt HB0.out hb1)
          have HP1 := Lib.hid (HP0.out.step hb1)
          clear hb1 HB0 HP0 CP
          go_wp2_with fail
          refine (CL _).out.mono ?_
          rintro e w2 ⟨rfl, hb2⟩
          have HB2 := Lib.hid (below_nxt HB1.out hb2)
          have HP2 := Lib.hid (HP1.out.step hb2)
          clear hb2 HB1 HP1 CL
          obtain ⟨P0, P1, P2⟩ := HP2.out
          go_wp2_with fail
          clear P0 P1 P2
          refine (C1 _).out.mono ?_
          rintro e w3 ⟨rfl, hb3⟩
          have HB3 := Lib.hid (below_nxt HB2.out hb3)
          have HP3 := Lib.hid (HP2.out.step hb3)
          clear hb3 HB2 HP2 C1
          obtain ⟨P0, P1, P2⟩ := HP3.out
          go_wp2_with fail
          clear P0 P1 P2
          refine (C2 _).out.mono ?_
          rintro e w4 ⟨rfl, hb4⟩
          have HB4 := Lib.hid (below_nxt HB3.out hb4)
          have HP4 := Lib.hid (HP3.out.step hb4)
          clear hb4 HB3 HP3 C2
          obtain ⟨P0, P1, P2⟩ := HP4.out
          go_wp2_with fail
          clear P0 P1 P2
          refine (CA _ (HX.out.next HB4.out)).out.mono ?_
          rintro e w5 ⟨rfl, hb5⟩
          have HB5 := Lib.hid (below_nxt HB4.out hb5)
          clear hb5 CA
          go_wp2
          go_ret
          exact ⟨rfl, HB5.out⟩
        · have C1 := fun W => Lib.hid (show Calls Tryd.prog 34 #[.int .i64 (c : Int), .int .i64 (d : Int), .bool false, .bool true] W fun e w' => e = .returned (.tuple #[.int .i64 0, .bool false, .int .i64 0]) ∧ Below W.heap.size W w' by
            have := (CN d hd00 hd0 W).out
            simpa [e8] using this)
          have C2 := fun W => Lib.hid (show Calls Tryd.prog 34 #[.int .i64 (c : Int), .int .i64 0, .bool false, .bool true] W fun e w' => e = .returned (.tuple #[.int .i64 0, .bool false, .int .i64 0]) ∧ Below W.heap.size W w' by
            have := (CN 0 (by omega) (by omega) W).out
            simpa [e8] using this)
          clear CN
          have z7 : (1 : Int) < r7 := by omega
          have y7 : (0 : Int) < r7 := by omega
          clear hp0 hp2 h12 h72
          go_enter Tryd.func9, Tryd.ntmps9
          go_wp2_with fail
          clear P0 P1 P2
          refine (CP _).out.mono ?_
          rintro e w1 ⟨rfl, hb1⟩
          have HB1 := Lib.hid (below_nxt HB0.out hb1)
          have HP1 := Lib.hid (HP0.out.step hb1)
          clear hb1 HB0 HP0 CP
          go_wp2_with fail
          refine (CL _).out.mono ?_
          rintro e w2 ⟨rfl, hb2⟩
          have HB2 := Lib.hid (below_nxt HB1.out hb2)
          have HP2 := Lib.hid (HP1.out.step hb2)
          clear hb2 HB1 HP1 CL
          obtain ⟨P0, P1, P2⟩ := HP2.out
          go_wp2_with fail
          clear P0 P1 P2
          refine (C1 _).out.mono ?_
          rintro e w3 ⟨rfl, hb3⟩
          have HB3 := Lib.hid (below_nxt HB2.out hb3)
          have HP3 := Lib.hid (HP2.out.step hb3)
          clear hb3 HB2 HP2 C1
          obtain ⟨P0, P1, P2⟩ := HP3.out
          go_wp2_with fail
          clear P0 P1 P2
          refine (C2 _).out.mono ?_
          rintro e w4 ⟨rfl, hb4⟩
          have HB4 := Lib.hid (below_nxt HB3.out hb4)
          have HP4 := Lib.hid (HP3.out.step hb4)
          clear hb4 HB3 HP3 C2
          obtain ⟨P0, P1, P2⟩ := HP4.out
          go_wp2_with fail
          clear P0 P1 P2
          refine (CA _ (HX.out.next HB4.out)).out.mono ?_
          rintro e w5 ⟨rfl, hb5⟩
          have HB5 := Lib.hid (below_nxt HB4.out hb5)
          clear hb5 CA
          go_wp2
          go_ret
          exact ⟨rfl, HB5.out⟩
      · have C1 := fun W => Lib.hid (show Calls Tryd.prog 34 #[.int .i64 (c : Int), .int .i64 (d : Int), .bool true, .bool y] W fun e w' => e = .returned (.tuple #[.int .i64 1, .bool false, .int .i64 0]) ∧ Below W.heap.size W w' by
            have := (CN d hd00 hd0 W).out
            simpa [e8] using this)
        have C2 := fun W => Lib.hid (show Calls Tryd.prog 34 #[.int .i64 (c : Int), .int .i64 1, .bool true, .bool y] W fun e w' => e = .returned (.tuple #[.int .i64 1, .bool false, .int .i64 0]) ∧ Below W.heap.size W w' by
            have := (CN 1 (by omega) (by omega) W).out
            simpa [e8] using this)
        clear CN
        have z7 : (1 : Int) < r7 := by omega
        have y7 : (0 : Int) < r7 := by omega
        clear hp0 hp2 h12 h72
        go_enter Tryd.func9, Tryd.ntmps9
        go_wp2_with fail
        clear P0 P1 P2
        refine (CP _).out.mono ?_
        rintro e w1 ⟨rfl, hb1⟩
        have HB1 := Lib.hid (below_nxt HB0.out hb1)
        have HP1 := Lib.hid (HP0.out.step hb1)
        clear hb1 HB0 HP0 CP
        go_wp2_with fail
        refine (CL _).out.mono ?_
        rintro e w2 ⟨rfl, hb2⟩
        have HB2 := Lib.hid (below_nxt HB1.out hb2)
        have HP2 := Lib.hid (HP1.out.step hb2)
        clear hb2 HB1 HP1 CL
        obtain ⟨P0, P1, P2⟩ := HP2.out
        go_wp2_with fail
        clear P0 P1 P2
        refine (C1 _).out.mono ?_
        rintro e w3 ⟨rfl, hb3⟩
        have HB3 := Lib.hid (below_nxt HB2.out hb3)
        have HP3 := Lib.hid (HP2.out.step hb3)
        clear hb3 HB2 HP2 C1
        obtain ⟨P0, P1, P2⟩ := HP3.out
        go_wp2_with fail
        clear P0 P1 P2
        refine (C2 _).out.mono ?_
        rintro e w4 ⟨rfl, hb4⟩
        have HB4 := Lib.hid (below_nxt HB3.out hb4)
        have HP4 := Lib.hid (HP3.out.step hb4)
        clear hb4 HB3 HP3 C2
        obtain ⟨P0, P1, P2⟩ := HP4.out
        go_wp2_with fail
        clear P0 P1 P2
        refine (CA _ (HX.out.next HB4.out)).out.mono ?_
        rintro e w5 ⟨rfl, hb5⟩
        have HB5 := Lib.hid (below_nxt HB4.out hb5)
        clear hb5 CA
        go_wp2
        go_ret
        exact ⟨rfl, HB5.out⟩
    · have t9 := no_txt e9
      have u9 := no_txt2 e9
      cases x <;> cases y
      · have C1 := fun W => Lib.hid (show Calls Tryd.prog 34 #[.int .i64 (c : Int), .int .i64 (d : Int), .bool false, .bool false] W fun e w' => e = .returned (.tuple #[.int .i64 (d : Int), .bool false, .int .i64 0]) ∧ Below W.heap.size W w' by
            have := (CN d hd00 hd0 W).out
            simpa [e8, e9] using this)
        have C2 := fun W => Lib.hid (show Calls Tryd.prog 34 #[.int .i64 (c : Int), .int .i64 (d : Int), .bool false, .bool false] W fun e w' => e = .returned (.tuple #[.int .i64 (d : Int), .bool false, .int .i64 0]) ∧ Below W.heap.size W w' by
            have := (CN (d : Int) (by omega) (by omega) W).out
            simpa [e8, e9] using this)
        clear CN
        have z7 : (1 : Int) < r7 := by omega
        have y7 : (0 : Int) < r7 := by omega
        clear hp0 hp2 h12 h72
        go_enter Tryd.func9, Tryd.ntmps9
        go_wp2_with fail
        clear P0 P1 P2
        refine (CP _).out.mono ?_
        rintro e w1 ⟨rfl, hb1⟩
        have HB1 := Lib.hid (below_nxt HB0.out hb1)
        have HP1 := Lib.hid (HP0.out.step hb1)
        clear hb1 HB0 HP0 CP
        go_wp2_with fail
        refine (CL _).out.mono ?_
        rintro e w2 ⟨rfl, hb2⟩
        have HB2 := Lib.hid (below_nxt HB1.out hb2)
        have HP2 := Lib.hid (HP1.out.step hb2)
        clear hb2 HB1 HP1 CL
        obtain ⟨P0, P1, P2⟩ := HP2.out
        go_wp2_with fail
        clear P0 P1 P2
        refine (C1 _).out.mono ?_
        rintro e w3 ⟨rfl, hb3⟩
        have HB3 := Lib.hid (below_nxt HB2.out hb3)
        have HP3 := Lib.hid (HP2.out.step hb3)
        clear hb3 HB2 HP2 C1
        obtain ⟨P0, P1, P2⟩ := HP3.out
        go_wp2_with fail
        clear P0 P1 P2
        refine (C2 _).out.mono ?_
        rintro e w4 ⟨rfl, hb4⟩
        have HB4 := Lib.hid (below_nxt HB3.out hb4)
        have HP4 := Lib.hid (HP3.out.step hb4)
        clear hb4 HB3 HP3 C2
        obtain ⟨P0, P1, P2⟩ := HP4.out
        go_wp2_with fail
        clear P0 P1 P2
        refine (CA _ (HX.out.next HB4.out)).out.mono ?_
        rintro e w5 ⟨rfl, hb5⟩
        have HB5 := Lib.hid (below_nxt HB4.out hb5)
        clear hb5 CA
        go_wp2
        go_ret
        exact ⟨rfl, HB5.out⟩
      · have C1 := fun W => Lib.hid (show Calls Tryd.prog 34 #[.int .i64 (c : Int), .int .i64 (d : Int), .bool false, .bool true] W fun e w' => e = .returned (.tuple #[.int .i64 0, .bool false, .int .i64 0]) ∧ Below W.heap.size W w' by
            have := (CN d hd00 hd0 W).out
            simpa [e8, e9] using this)
        have C2 := fun W => Lib.hid (show Calls Tryd.prog 34 #[.int .i64 (c : Int), .int .i64 0, .bool false, .bool true] W fun e w' => e = .returned (.tuple #[.int .i64 0, .bool false, .int .i64 0]) ∧ Below W.heap.size W w' by
            have := (CN 0 (by omega) (by omega) W).out
            simpa [e8, e9] using this)
        clear CN
        have z7 : (1 : Int) < r7 := by omega
        have y7 : (0 : Int) < r7 := by omega
        clear hp0 hp2 h12 h72
        go_enter Tryd.func9, Tryd.ntmps9
        go_wp2_with fail
        clear P0 P1 P2
        refine (CP _).out.mono ?_
        rintro e w1 ⟨rfl, hb1⟩
        have HB1 := Lib.hid (below_nxt HB0.out hb1)
        have HP1 := Lib.hid (HP0.out.step hb1)
        clear hb1 HB0 HP0 CP
        go_wp2_with fail
        refine (CL _).out.mono ?_
        rintro e w2 ⟨rfl, hb2⟩
        have HB2 := Lib.hid (below_nxt HB1.out hb2)
        have HP2 := Lib.hid (HP1.out.step hb2)
        clear hb2 HB1 HP1 CL
        obtain ⟨P0, P1, P2⟩ := HP2.out
        go_wp2_with fail
        clear P0 P1 P2
        refine (C1 _).out.mono ?_
        rintro e w3 ⟨rfl, hb3⟩
        have HB3 := Lib.hid (below_nxt HB2.out hb3)
        have HP3 := Lib.hid (HP2.out.step hb3)
        clear hb3 HB2 HP2 C1
        obtain ⟨P0, P1, P2⟩ := HP3.out
        go_wp2_with fail
        clear P0 P1 P2
        refine (C2 _).out.mono ?_
        rintro e w4 ⟨rfl, hb4⟩
        have HB4 := Lib.hid (below_nxt HB3.out hb4)
        have HP4 := Lib.hid (HP3.out.step hb4)
        clear hb4 HB3 HP3 C2
        obtain ⟨P0, P1, P2⟩ := HP4.out
        go_wp2_with fail
        clear P0 P1 P2
        refine (CA _ (HX.out.next HB4.out)).out.mono ?_
        rintro e w5 ⟨rfl, hb5⟩
        have HB5 := Lib.hid (below_nxt HB4.out hb5)
        clear hb5 CA
        go_wp2
        go_ret
        exact ⟨rfl, HB5.out⟩
      · have C1 := fun W => Lib.hid (show Calls Tryd.prog 34 #[.int .i64 (c : Int), .int .i64 (d : Int), .bool true, .bool false] W fun e w' => e = .returned (.tuple #[.int .i64 1, .bool false, .int .i64 0]) ∧ Below W.heap.size W w' by
            have := (CN d hd00 hd0 W).out
            simpa [e8, e9] using this)
        have C2 := fun W => Lib.hid (show Calls Tryd.prog 34 #[.int .i64 (c : Int), .int .i64 1, .bool true, .bool false] W fun e w' => e = .returned (.tuple #[.int .i64 1, .bool false, .int .i64 0]) ∧ Below W.heap.size W w' by
            have := (CN 1 (by omega) (by omega) W).out
            simpa [e8, e9] using this)
        clear CN
        have z7 : (1 : Int) < r7 := by omega
        have y7 : (0 : Int) < r7 := by omega
        clear hp0 hp2 h12 h72
        go_enter Tryd.func9, Tryd.ntmps9
        go_wp2_with fail
        clear P0 P1 P2
        refine (CP _).out.mono ?_
        rintro e w1 ⟨rfl, hb1⟩
        have HB1 := Lib.hid (below_nxt HB0.out hb1)
        have HP1 := Lib.hid (HP0.out.step hb1)
        clear hb1 HB0 HP0 CP
        go_wp2_with fail
        refine (CL _).out.mono ?_
        rintro e w2 ⟨rfl, hb2⟩
        have HB2 := Lib.hid (below_nxt HB1.out hb2)
        have HP2 := Lib.hid (HP1.out.step hb2)
        clear hb2 HB1 HP1 CL
        obtain ⟨P0, P1, P2⟩ := HP2.out
        go_wp2_with fail
        clear P0 P1 P2
        refine (C1 _).out.mono ?_
        rintro e w3 ⟨rfl, hb3⟩
        have HB3 := Lib.hid (below_nxt HB2.out hb3)
        have HP3 := Lib.hid (HP2.out.step hb3)
        clear hb3 HB2 HP2 C1
        obtain ⟨P0, P1, P2⟩ := HP3.out
        go_wp2_with fail
        clear P0 P1 P2
        refine (C2 _).out.mono ?_
        rintro e w4 ⟨rfl, hb4⟩
        have HB4 := Lib.hid (below_nxt HB3.out hb4)
        have HP4 := Lib.hid (HP3.out.step hb4)
        clear hb4 HB3 HP3 C2
        obtain ⟨P0, P1, P2⟩ := HP4.out
        go_wp2_with fail
        clear P0 P1 P2
        refine (CA _ (HX.out.next HB4.out)).out.mono ?_
        rintro e w5 ⟨rfl, hb5⟩
        have HB5 := Lib.hid (below_nxt HB4.out hb5)
        clear hb5 CA
        go_wp2
        go_ret
        exact ⟨rfl, HB5.out⟩
      · have C1 := fun W => Lib.hid (show Calls Tryd.prog 34 #[.int .i64 (c : Int), .int .i64 (d : Int), .bool true, .bool true] W fun e w' => e = .returned (.tuple #[.int .i64 (d : Int), .bool true, .int .i64 0]) ∧ Below W.heap.size W w' by
            have := (CN d hd00 hd0 W).out
            simpa [e8, e9] using this)
        have C2 := fun W => Lib.hid (show Calls Tryd.prog 34 #[.int .i64 (c : Int), .int .i64 (d : Int), .bool true, .bool true] W fun e w' => e = .returned (.tuple #[.int .i64 (d : Int), .bool true, .int .i64 0]) ∧ Below W.heap.size W w' by
            have := (CN (d : Int) (by omega) (by omega) W).out
            simpa [e8, e9] using this)
        clear CN
        have z7 : (1 : Int) < r7 := by omega
        have y7 : (0 : Int) < r7 := by omega
        clear hp0 hp2 h12 h72
        go_enter Tryd.func9, Tryd.ntmps9
        go_wp2_with fail
        clear P0 P1 P2
        refine (CP _).out.mono ?_
        rintro e w1 ⟨rfl, hb1⟩
        have HB1 := Lib.hid (below_nxt HB0.out hb1)
        have HP1 := Lib.hid (HP0.out.step hb1)
        clear hb1 HB0 HP0 CP
        go_wp2_with fail
        refine (CL _).out.mono ?_
        rintro e w2 ⟨rfl, hb2⟩
        have HB2 := Lib.hid (below_nxt HB1.out hb2)
        have HP2 := Lib.hid (HP1.out.step hb2)
        clear hb2 HB1 HP1 CL
        obtain ⟨P0, P1, P2⟩ := HP2.out
        go_wp2_with fail
        clear P0 P1 P2
        refine (C1 _).out.mono ?_
        rintro e w3 ⟨rfl, hb3⟩
        have HB3 := Lib.hid (below_nxt HB2.out hb3)
        have HP3 := Lib.hid (HP2.out.step hb3)
        clear hb3 HB2 HP2 C1
        obtain ⟨P0, P1, P2⟩ := HP3.out
        go_wp2_with fail
        clear P0 P1 P2
        refine (C2 _).out.mono ?_
        rintro e w4 ⟨rfl, hb4⟩
        have HB4 := Lib.hid (below_nxt HB3.out hb4)
        have HP4 := Lib.hid (HP3.out.step hb4)
        clear hb4 HB3 HP3 C2
        obtain ⟨P0, P1, P2⟩ := HP4.out
        go_wp2_with fail
        clear P0 P1 P2
        refine (CA _ (HX.out.next HB4.out)).out.mono ?_
        rintro e w5 ⟨rfl, hb5⟩
        have HB5 := Lib.hid (below_nxt HB4.out hb5)
        clear hb5 CA
        go_wp2
        go_ret
        exact ⟨rfl, HB5.out⟩
theorem settles_card (k b : Int) (x y : Bool) (w : World) (hst : Lx w) (h0 : 0 ≤ k) (h1 : k ≤ 255) (h2 : 0 ≤ b) (h3 : b ≤ 255) :
    Calls Tryd.prog 9 #[.int .u8 k, .int .u8 b, .agg #[.bool x, .bool y]] w fun e w' => e = .returned (.bool true) ∧ Below w.heap.size w w' := by
  obtain ⟨k', rfl⟩ := Int.eq_ofNat_of_zero_le h0
  obtain ⟨b', rfl⟩ := Int.eq_ofNat_of_zero_le h2
  exact settles_any k' b' x y w (by omega) (by omega) hst
end Go.Proofs.YtnoaafhgapaicaaDoor
