/- readStroke of package stroke: its call. -/
import Derived.Test.YtecfbncfhehdcaaDoorQM
import Derived.StillTailTactics
namespace Go.Proofs.YtecfbncfhehdcaaDoor
open Go.RowKit
theorem BoxP.other {W : World} {g k o : Nat} {a b : Value} (h : BoxP W g a b) (hk : k ≠ g) (u : Value) : BoxP (W.setCell ⟨k, o, none⟩ u) g a b :=
  ⟨by simpa using h.1, (World.cell?_setCell_other (w := W) (v := u) (a := ⟨k, o, none⟩) (b := ⟨g, 0, none⟩) (fun e => hk (congrArg Addr.block e))).trans h.2.1, (World.cell?_setCell_other (w := W) (v := u) (a := ⟨k, o, none⟩) (b := ⟨g, 1, none⟩) (fun e => hk (congrArg Addr.block e))).trans h.2.2⟩
/-- What readStroke leaves. -/
def RdP (l : List UInt8) (w : World) (e : Ending) (w' : World) : Prop := ∃ (a : Int) (o : Bool), e = .returned (.tuple #[.agg #[.int .i64 a, .bool o], .bool (Sk.rdS l).isSome]) ∧ (∀ y, Sk.rdS l = some y → y = (a, o)) ∧ Below w.heap.size w w'
theorem RdP.no {l : List UInt8} {w w' : World} (h : Sk.rdS l = none) (a : Int) (o : Bool) (hb : Below w.heap.size w w') : RdP l w (.returned (.tuple #[.agg #[.int .i64 a, .bool o], .bool false])) w' :=
  ⟨a, o, by rw [h]; rfl, fun y hy => (by rw [h] at hy; cases hy), hb⟩
theorem RdP.yes {l : List UInt8} {w w' : World} {a : Int} {o : Bool} (h : Sk.rdS l = some (a, o)) (hb : Below w.heap.size w w') : RdP l w (.returned (.tuple #[.agg #[.int .i64 a, .bool o], .bool true])) w' :=
  ⟨a, o, by rw [h]; rfl, fun y hy => by rw [h] at hy; cases hy; rfl, hb⟩
theorem RdP.of {l : List UInt8} {w w' : World} {a : Int} {o b : Bool} (h : Sk.rdS l = if b then some (a, o) else none) (hb : Below w.heap.size w w') : RdP l w (.returned (.tuple #[.agg #[.int .i64 a, .bool o], .bool b])) w' := by
  cases b
  · exact RdP.no h a o hb
  · exact RdP.yes h hb
/-- Either there are not two runes, or these two. -/
theorem runes_cases (s : ByteArray) : ((Conv.runesFrom s s.size 0 #[]).size ≠ 2 ∧ Sk.rdS s.data.toList = none) ∨
    ∃ r0 r1 : Nat, Conv.runesFrom s s.size 0 #[] = #[.int .i32 (r0 : Int), .int .i32 (r1 : Int)] ∧ r0 ≤ 2147483647 ∧ r1 ≤ 2147483647 ∧
      Sk.rdS s.data.toList = if 65 ≤ r0 ∧ r0 < 71 ∧ (r1 = 43 ∨ r1 = 45) then some ((r0 : Int) - 65, decide (r1 = 43)) else none := by
  by_cases hz : (Conv.runesFrom s s.size 0 #[]).size = 2
  · right
    have hg := Sk.runes_ge s s.size 0 #[] (fun j v h => by simp at h)
    obtain ⟨r0, e0, k0⟩ := hg 0 _ (Array.getElem?_eq_getElem (show 0 < (Conv.runesFrom s s.size 0 #[]).size by omega))
    obtain ⟨r1, e1, k1⟩ := hg 1 _ (Array.getElem?_eq_getElem (show 1 < (Conv.runesFrom s s.size 0 #[]).size by omega))
    have g0 : (Conv.runesFrom s s.size 0 #[])[0]? = some (.int .i32 (r0 : Int)) := by rw [Array.getElem?_eq_getElem (by omega), e0]
    have g1 : (Conv.runesFrom s s.size 0 #[])[1]? = some (.int .i32 (r1 : Int)) := by rw [Array.getElem?_eq_getElem (by omega), e1]
    refine ⟨r0, r1, ?_, k0, k1, ?_⟩
    · apply Array.ext_getElem?
      intro i
      rcases i with _ | _ | i
      · rw [g0]; rfl
      · rw [g1]; rfl
      · rw [Array.getElem?_eq_none (by omega), Array.getElem?_eq_none (by simp)]
    · by_cases hc : 65 ≤ r0 ∧ r0 < 71 ∧ (r1 = 43 ∨ r1 = 45)
      · rw [if_pos hc, Sk.runes_two hz g0 g1 (by omega) (by omega)]
        obtain ⟨h1, h2, h3⟩ := hc
        rcases (show r0 = 65 ∨ r0 = 66 ∨ r0 = 67 ∨ r0 = 68 ∨ r0 = 69 ∨ r0 = 70 by omega) with rfl | rfl | rfl | rfl | rfl | rfl <;> rcases h3 with rfl | rfl <;> decide
      · rw [if_neg hc]
        cases hr : Sk.rdS s.data.toList with
        | none => rfl
        | some y =>
          exfalso
          unfold Sk.rdS at hr
          split at hr
          · rename_i a b hl
            split at hr
            · rename_i hab
              obtain ⟨h1, h2, h3⟩ := hab
              have hb : b.toNat < 128 := by rcases h3 with rfl | rfl <;> decide
              have := Sk.runes_of_two hl (by omega) hb
              rw [this] at g0 g1
              have f0 : ((a.toNat : Nat) : Int) = (r0 : Int) := by simpa using g0
              have f1 : ((b.toNat : Nat) : Int) = (r1 : Int) := by simpa using g1
              refine hc ⟨by omega, by omega, ?_⟩
              rcases h3 with rfl | rfl
              · left; have : (43 : UInt8).toNat = 43 := rfl; omega
              · right; have : (45 : UInt8).toNat = 45 := rfl; omega
            · cases hr
          · cases hr
  · left
    refine ⟨hz, ?_⟩
    cases hr : Sk.rdS s.data.toList with
    | none => rfl
    | some y =>
      exfalso
      unfold Sk.rdS at hr
      split at hr
      · rename_i a b hl
        split at hr
        · rename_i hab
          obtain ⟨h1, h2, h3⟩ := hab
          have hb : b.toNat < 128 := by rcases h3 with rfl | rfl <;> decide
          have := Sk.runes_of_two hl (by omega) hb
          rw [this] at hz
          exact hz rfl
        · cases hr
      · cases hr
set_option maxHeartbeats 4000000 in
set_option maxRecDepth 100000 in
theorem rdS_few (s : ByteArray) (w : World) (hz : s.size ≤ 1000000) (hn : (Conv.runesFrom s s.size 0 #[]).size ≠ 2) (hr : Sk.rdS s.data.toList = none) :
    Calls Tryd.prog 85 #[.string s] w (RdP s.data.toList w) := by
  have hsz := size_runesFrom s s.size 0 #[]
  have hcv := run_runes_of_string (P := Tryd.prog) (w.alloc (.cells #[.int .i64 0, .bool false] 47)) 9 146 21 s Tryd.underlying9 Tryd.underlying146 Tryd.underlying21 (by simp at hsz; omega)
  generalize hrs : Conv.runesFrom s s.size 0 #[] = rs at *
  generalize grownCap (w.alloc (.cells #[.int .i64 0, .bool false] 47)) rs.size 0 21 = cp at *
  generalize hcs : (rs ++ Array.replicate (cp - rs.size) (Value.int .i32 0)) = cs at *
  have hne : ((rs.size : Int) == 2) = false := by simpa using (show ¬ ((rs.size : Int) = 2) by omega)
  have hne2 : ((rs.size : Int) != 2) = true := by rw [bne, hne]; rfl
  have hrz : rs.size ≤ 1000000 := by simp at hsz; omega
  rw [World.size_alloc] at hcv
  have hR := resP_new w (.int .i64 0) (.bool false) 47
  have L1 := allocB w (.cells #[.int .i64 0, .bool false] 47)
  have hL : Below w.heap.size w ((w.alloc (.cells #[.int .i64 0, .bool false] 47)).alloc (.cells cs 21)).drew := (L1.alloc (by simp) _).drew
  have hR2 : ResP ((w.alloc (.cells #[.int .i64 0, .bool false] 47)).alloc (.cells cs 21)).drew w.heap.size (.int .i64 0) (.bool false) := (hR.step (allocB _ _)).step (Below.refl _ _).drew
  have HL := Lib.hid hL
  have HR := Lib.hid hr
  clear hR L1 hL hrs hcs hn hsz hr
  obtain ⟨q0, q1, q2, q3, q4⟩ := hR2
  go_enter Tryd.func85, Tryd.ntmps85
  go_wp2
  exact bodyPost_ret (v := .tuple #[.agg #[.int .i64 0, .bool false], .bool false]) (by simp [results, Tryd.results85, go_sem, q1, q2]) rfl (RdP.no HR.out _ _ HL.out)
set_option maxHeartbeats 4000000 in
set_option maxRecDepth 100000 in
theorem rdS_two (s : ByteArray) (w : World) (r0 r1 : Nat) (hn : Conv.runesFrom s s.size 0 #[] = #[.int .i32 (r0 : Int), .int .i32 (r1 : Int)]) (k0 : r0 ≤ 2147483647) (k1 : r1 ≤ 2147483647)
    (hr : Sk.rdS s.data.toList = if 65 ≤ r0 ∧ r0 < 71 ∧ (r1 = 43 ∨ r1 = 45) then some ((r0 : Int) - 65, decide (r1 = 43)) else none) :
    Calls Tryd.prog 85 #[.string s] w (RdP s.data.toList w) := by
  have hcv := run_runes_of_string (P := Tryd.prog) (w.alloc (.cells #[.int .i64 0, .bool false] 47)) 9 146 21 s Tryd.underlying9 Tryd.underlying146 Tryd.underlying21 (by rw [hn]; simp)
  rw [hn] at hcv
  have hcap := grownCap_ge (w.alloc (.cells #[.int .i64 0, .bool false] 47)) 2 0 21
  simp only [List.size_toArray, List.length_cons, List.length_nil, Nat.zero_add, Nat.reduceAdd] at hcv
  generalize grownCap (w.alloc (.cells #[.int .i64 0, .bool false] 47)) 2 0 21 = cp at *
  have e0 : (#[Value.int .i32 (r0 : Int), .int .i32 (r1 : Int)] ++ Array.replicate (cp - 2) (Value.int .i32 0))[0]? = some (.int .i32 (r0 : Int)) := by
    rw [Array.getElem?_append_left (by show _ < 2; omega)]; rfl
  have e1 : (#[Value.int .i32 (r0 : Int), .int .i32 (r1 : Int)] ++ Array.replicate (cp - 2) (Value.int .i32 0))[1]? = some (.int .i32 (r1 : Int)) := by
    rw [Array.getElem?_append_left (by show _ < 2; omega)]; rfl
  generalize hcs : (#[Value.int .i32 (r0 : Int), .int .i32 (r1 : Int)] ++ Array.replicate (cp - 2) (Value.int .i32 0)) = cs at *
  rw [World.size_alloc] at hcv
  have hR := resP_new w (.int .i64 0) (.bool false) 47
  have L1 := allocB w (.cells #[.int .i64 0, .bool false] 47)
  have hL : Below w.heap.size w ((w.alloc (.cells #[.int .i64 0, .bool false] 47)).alloc (.cells cs 21)).drew := (L1.alloc (by simp) _).drew
  have hR2 : ResP ((w.alloc (.cells #[.int .i64 0, .bool false] 47)).alloc (.cells cs 21)).drew w.heap.size (.int .i64 0) (.bool false) := (hR.step (allocB _ _)).step (Below.refl _ _).drew
  have c0 : ((w.alloc (.cells #[.int .i64 0, .bool false] 47)).alloc (.cells cs 21)).drew.cell? ⟨w.heap.size + 1, 0, none⟩ = some (.int .i32 (r0 : Int)) := by
    rw [World.cell?_drew, World.cell?_alloc_at _ _ _ _ (by simp)]; exact e0
  have c1 : ((w.alloc (.cells #[.int .i64 0, .bool false] 47)).alloc (.cells cs 21)).drew.cell? ⟨w.heap.size + 1, 1, none⟩ = some (.int .i32 (r1 : Int)) := by
    rw [World.cell?_drew, World.cell?_alloc_at _ _ _ _ (by simp)]; exact e1
  have HL := Lib.hid hL
  have HR := Lib.hid hr
  have HP := Lib.hid hR2
  obtain ⟨X, hX⟩ : ∃ X, X = ((w.alloc (.cells #[.int .i64 0, .bool false] 47)).alloc (.cells cs 21)).drew := ⟨_, rfl⟩
  clear hR L1 hL hcs hn hr
  obtain ⟨q0, q1, q2, q3, q4⟩ := hR2
  by_cases h1 : r1 = 43
  · subst h1
    have HRX : Hid (Sk.rdS s.data.toList = if (Sk.chkS ((r0 : Int) - 65) == 0) then some ((r0 : Int) - 65, true) else none) := Lib.hid (by
      rw [HR.out]
      have hx := Sk.chkS_eq ((r0 : Int) - 65)
      by_cases h : 65 ≤ r0 ∧ r0 < 71
      · rw [if_pos ⟨h.1, h.2, by simp⟩, if_pos (by simpa using hx.2 (by omega))]; rfl
      · rw [if_neg (fun g => h ⟨g.1, g.2.1⟩), if_neg (fun g => h (by have := hx.1 (by simpa using g); omega))])
    clear HR
    have e2 : cs[1]? = some (.int .i32 43) := e1
    clear e1 c1 c0
    have w0 : IntKind.i32.wrap ((r0 : Int) - 65) = (r0 : Int) - 65 := by
      rw [show IntKind.i32.wrap ((r0 : Int) - 65) = (r0 : Int) - 65 from IntWalk.i32_in _ (by omega)]
    have h32 : (r0 : Int) ≤ 2147483647 := by omega
    have h33 : 0 ≤ (r0 : Int) := by omega
    obtain ⟨PB, LB, -⟩ := boxP_new X (.int .i64 ((r0 : Int) - 65)) (.bool true) 47
    have eX : X.heap.size = w.heap.size + 1 + 1 := by rw [hX]; simp
    rw [eX] at PB
    obtain ⟨Z, hZ⟩ : ∃ Z, Z = (X.alloc (.cells #[.int .i64 ((r0 : Int) - 65), .bool true] 47)).drew := ⟨_, rfl⟩
    have LZ : Below X.heap.size X Z := by rw [hZ]; exact LB.drew
    have PZ : BoxP Z (w.heap.size + 1 + 1) (.int .i64 ((r0 : Int) - 65)) (.bool true) := by rw [hZ]; exact PB.step (Below.refl _ _).drew
    have HRZ := Lib.hid ((show ResP X w.heap.size (.int .i64 0) (.bool false) by rw [hX]; exact HP.out).step LZ)
    have HLZ := Lib.hid (below_nxt (show Below w.heap.size w X by rw [hX]; exact HL.out) LZ)
    have HZ : Hid (Z = (((w.alloc (.cells #[.int .i64 0, .bool false] 47)).alloc (.cells cs 21)).alloc (.cells #[.int .i64 ((r0 : Int) - 65), .bool true] 47)).drew.drew) := Lib.hid (by rw [hZ, hX]; rfl)
    have HPZ := Lib.hid PZ
    clear PB LB eX hZ LZ PZ hX
    go_enter Tryd.func85, Tryd.ntmps85
    go_wp2
    go_region
    rw [← HZ.out]
    clear HZ q0 q1 q2 q3 q4 e0 e2 hcv
    have HB := Lib.hid (below_nxt HLZ.out (Below.refl Z.heap.size Z).drew)
    have HP2 := Lib.hid (HRZ.out.step (Below.refl Z.heap.size Z).drew)
    have P := HPZ.out.step (Below.refl Z.heap.size Z).drew
    clear HLZ HRZ HPZ
    obtain ⟨-, P1, P2⟩ := id P
    go_wp2
    go_region_held3 (fun W => W.cell? ⟨w.heap.size + 1 + 1, 0, none⟩ = some (.int .i64 ((r0 : Int) - 65)) ∧ W.cell? ⟨w.heap.size + 1 + 1, 1, none⟩ = some (.bool true))
      (first | (refine ⟨?_, ?_⟩ <;> with_reducible assumption) | (go_split_ands; refine ⟨?_, ?_⟩ <;> with_reducible assumption) | exact ⟨((P.other (by omega) _).other (by omega) _).2.1, ((P.other (by omega) _).other (by omega) _).2.2⟩)
      (first
        | (go_at_call 74; (with_reducible refine (sChk_any ((r0 : Int) - 65) true _).mono ?_); rintro e wn ⟨rfl, hb⟩; have HBq := Lib.hid (below_nxt HB.out hb); have HPq := Lib.hid (HP2.out.step hb); have Pq := P.step hb; clear HB HP2 P; have HB := HBq; have HP2 := HPq; have P := Pq; clear HBq HPq Pq P1 P2 hb; obtain ⟨-, P1, P2⟩ := id P; obtain ⟨q0, q1, q2, q3, q4⟩ := HP2.out))
    all_goals
      go_wp2
      obtain ⟨-, g1, g2, -, -⟩ := HP2.out.put (.int .i64 ((r0 : Int) - 65)) (.bool true)
      exact bodyPost_ret (v := .tuple #[.agg #[.int .i64 ((r0 : Int) - 65), .bool true], .bool (Sk.chkS ((r0 : Int) - 65) == 0)]) (by simp [results, Tryd.results85, go_sem, g1, g2]) rfl (RdP.of HRX.out ((HB.out.setCell (p := ⟨w.heap.size, 0, none⟩) (Nat.le_refl _) _).setCell (p := ⟨w.heap.size, 1, none⟩) (Nat.le_refl _) _))
  by_cases h2 : r1 = 45
  · subst h2
    have HRX : Hid (Sk.rdS s.data.toList = if (Sk.chkS ((r0 : Int) - 65) == 0) then some ((r0 : Int) - 65, false) else none) := Lib.hid (by
      rw [HR.out]
      have hx := Sk.chkS_eq ((r0 : Int) - 65)
      by_cases h : 65 ≤ r0 ∧ r0 < 71
      · rw [if_pos ⟨h.1, h.2, by simp⟩, if_pos (by simpa using hx.2 (by omega))]; rfl
      · rw [if_neg (fun g => h ⟨g.1, g.2.1⟩), if_neg (fun g => h (by have := hx.1 (by simpa using g); omega))])
    clear HR h1
    have e2 : cs[1]? = some (.int .i32 45) := e1
    clear e1 c1 c0
    have w0 : IntKind.i32.wrap ((r0 : Int) - 65) = (r0 : Int) - 65 := by
      rw [show IntKind.i32.wrap ((r0 : Int) - 65) = (r0 : Int) - 65 from IntWalk.i32_in _ (by omega)]
    have h32 : (r0 : Int) ≤ 2147483647 := by omega
    have h33 : 0 ≤ (r0 : Int) := by omega
    obtain ⟨PB, LB, -⟩ := boxP_new X (.int .i64 ((r0 : Int) - 65)) (.bool false) 47
    have eX : X.heap.size = w.heap.size + 1 + 1 := by rw [hX]; simp
    rw [eX] at PB
    obtain ⟨Z, hZ⟩ : ∃ Z, Z = (X.alloc (.cells #[.int .i64 ((r0 : Int) - 65), .bool false] 47)).drew := ⟨_, rfl⟩
    have LZ : Below X.heap.size X Z := by rw [hZ]; exact LB.drew
    have PZ : BoxP Z (w.heap.size + 1 + 1) (.int .i64 ((r0 : Int) - 65)) (.bool false) := by rw [hZ]; exact PB.step (Below.refl _ _).drew
    have HRZ := Lib.hid ((show ResP X w.heap.size (.int .i64 0) (.bool false) by rw [hX]; exact HP.out).step LZ)
    have HLZ := Lib.hid (below_nxt (show Below w.heap.size w X by rw [hX]; exact HL.out) LZ)
    have HZ : Hid (Z = (((w.alloc (.cells #[.int .i64 0, .bool false] 47)).alloc (.cells cs 21)).alloc (.cells #[.int .i64 ((r0 : Int) - 65), .bool false] 47)).drew.drew) := Lib.hid (by rw [hZ, hX]; rfl)
    have HPZ := Lib.hid PZ
    clear PB LB eX hZ LZ PZ hX
    go_enter Tryd.func85, Tryd.ntmps85
    go_wp2
    go_region
    rw [← HZ.out]
    clear HZ q0 q1 q2 q3 q4 e0 e2 hcv
    have HB := Lib.hid (below_nxt HLZ.out (Below.refl Z.heap.size Z).drew)
    have HP2 := Lib.hid (HRZ.out.step (Below.refl Z.heap.size Z).drew)
    have P := HPZ.out.step (Below.refl Z.heap.size Z).drew
    clear HLZ HRZ HPZ
    obtain ⟨-, P1, P2⟩ := id P
    go_wp2
    go_region_held3 (fun W => W.cell? ⟨w.heap.size + 1 + 1, 0, none⟩ = some (.int .i64 ((r0 : Int) - 65)) ∧ W.cell? ⟨w.heap.size + 1 + 1, 1, none⟩ = some (.bool false))
      (first | (refine ⟨?_, ?_⟩ <;> with_reducible assumption) | (go_split_ands; refine ⟨?_, ?_⟩ <;> with_reducible assumption) | exact ⟨((P.other (by omega) _).other (by omega) _).2.1, ((P.other (by omega) _).other (by omega) _).2.2⟩)
      (first
        | (go_at_call 74; (with_reducible refine (sChk_any ((r0 : Int) - 65) false _).mono ?_); rintro e wn ⟨rfl, hb⟩; have HBq := Lib.hid (below_nxt HB.out hb); have HPq := Lib.hid (HP2.out.step hb); have Pq := P.step hb; clear HB HP2 P; have HB := HBq; have HP2 := HPq; have P := Pq; clear HBq HPq Pq P1 P2 hb; obtain ⟨-, P1, P2⟩ := id P; obtain ⟨q0, q1, q2, q3, q4⟩ := HP2.out))
    all_goals
      go_wp2
      obtain ⟨-, g1, g2, -, -⟩ := HP2.out.put (.int .i64 ((r0 : Int) - 65)) (.bool false)
      exact bodyPost_ret (v := .tuple #[.agg #[.int .i64 ((r0 : Int) - 65), .bool false], .bool (Sk.chkS ((r0 : Int) - 65) == 0)]) (by simp [results, Tryd.results85, go_sem, g1, g2]) rfl (RdP.of HRX.out ((HB.out.setCell (p := ⟨w.heap.size, 0, none⟩) (Nat.le_refl _) _).setCell (p := ⟨w.heap.size, 1, none⟩) (Nat.le_refl _) _))
  · have hr0 : Sk.rdS s.data.toList = none := by rw [HR.out, if_neg]; rintro ⟨-, -, h | h⟩ <;> contradiction
    have HR0 := Lib.hid hr0
    have t1 : ((r1 : Int) == 43) = false := by simpa using (show ¬ ((r1 : Int) = 43) by omega)
    have t2 : ((r1 : Int) == 45) = false := by simpa using (show ¬ ((r1 : Int) = 45) by omega)
    have t3 : ((r1 : Int) != 43) = true := by rw [bne, t1]; rfl
    have t4 : ((r1 : Int) != 45) = true := by rw [bne, t2]; rfl
    clear hr0 HR hX h1 h2
    go_enter Tryd.func85, Tryd.ntmps85
    go_wp2
    exact bodyPost_ret (v := .tuple #[.agg #[.int .i64 0, .bool false], .bool false]) (by simp [results, Tryd.results85, go_sem, q1, q2]) rfl (RdP.no HR0.out _ _ HL.out)
theorem rdS_any (s : ByteArray) (w : World) (hz : s.size ≤ 1000000) : Calls Tryd.prog 85 #[.string s] w (RdP s.data.toList w) := by
  rcases runes_cases s with ⟨h1, h2⟩ | ⟨r0, r1, h1, h2, h3, h4⟩
  · exact rdS_few s w hz h1 h2
  · exact rdS_two s w r0 r1 h1 h2 h3 h4
end Go.Proofs.YtecfbncfhehdcaaDoor

