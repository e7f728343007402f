/- cycle of package bounds; slices.Reverse. -/
import Derived.Test.YtkemicfaiipidaaBk
import Derived.Test.YtkemicfaiipidaaBw
namespace Go.Proofs.Ytkemicfaiipidaa
open Go.RowKit

/-- An array of 13 integers that may be written. -/
def Arr13 (W : World) (g : Nat) (h : Nat → Int) : Prop := g < W.heap.size ∧ ∀ i, i < 13 → W.cell? ⟨g, i, none⟩ = some (.int .i64 (h i)) ∧ W.frozen? ⟨g, i, none⟩ = false
theorem Arr13.grown {W W' : World} {g A : Nat} {h : Nat → Int} (H : Arr13 W g h) (hg : W.grownBy W' (some A)) (hA : g ≠ A) : Arr13 W' g h := by
  refine ⟨Nat.lt_of_lt_of_le H.1 hg.size, fun i hi => ⟨hg.cell (H.2 i hi).1 (by simpa using hA), ?_⟩⟩
  have h2 := (H.2 i hi).2
  have := hg.block g H.1 (by simpa using hA)
  unfold World.frozen? at h2 ⊢
  simpa only [this] using h2
theorem Arr13.step {W W' : World} {g : Nat} {h : Nat → Int} (H : Arr13 W g h) (hb : Below W.heap.size W W') : Arr13 W' g h :=
  ⟨Nat.lt_of_lt_of_le H.1 hb.size, fun i hi => ⟨(hb.cell (p := ⟨g, i, none⟩) H.1).trans (H.2 i hi).1, (hb.frozen (p := ⟨g, i, none⟩) H.1).trans (H.2 i hi).2⟩⟩
theorem Arr13.congr {W : World} {g : Nat} {h h' : Nat → Int} (H : Arr13 W g h) (he : ∀ i, i < 13 → h i = h' i) : Arr13 W g h' := ⟨H.1, fun i hi => by rw [← he i hi]; exact H.2 i hi⟩
theorem Arr13.put {W : World} {g i : Nat} {h : Nat → Int} (H : Arr13 W g h) (hi : i < 13) (x : Int) : Arr13 (W.setCell ⟨g, i, none⟩ (.int .i64 x)) g (Bn.upN h i x) := by
  refine ⟨by simpa [World.setCell] using H.1, fun j hj => ?_⟩
  obtain ⟨h1, h2⟩ := H.2 j hj
  rw [World.frozen?_setCell]
  refine ⟨?_, h2⟩
  unfold Bn.upN
  by_cases e : j = i
  · subst e
    rw [if_pos rfl, World.cell?_setCell_same' _ _ _ (by rw [h1]; rfl)]
  · rw [if_neg e, World.cell?_setCell_other (w := W) (v := .int .i64 x) (a := ⟨g, i, none⟩) (b := ⟨g, j, none⟩) (fun e' => e (congrArg Addr.off e').symm), h1]
def z13 : Array Value := Array.replicate 13 (.int .i64 0)
theorem arr_new (w : World) (T : TypeId) : Arr13 (w.alloc (.cells z13 T)) w.heap.size (fun _ => 0) :=
  ⟨by simp, fun i hi => by simp [z13, hi]⟩
theorem Arr13.drewN {W : World} {g : Nat} {h : Nat → Int} (H : Arr13 W g h) (n : Nat) : Arr13 (W.drewN n) g h := H
theorem BoxW.drewN {W : World} {g : Nat} {v : Value} (H : BoxW W g v) (n : Nat) : BoxW (W.drewN n) g v := H
theorem BoxV.drewN {W : World} {g : Nat} {v : Value} (H : BoxV W g v) (n : Nat) : BoxV (W.drewN n) g v := H

set_option maxHeartbeats 4000000 in
set_option maxRecDepth 100000 in
/-- cycle's closure. -/
theorem bCyc1_any (i j lb mb fb tb g : Nat) (n : Int) (m b : Bn.Mx) (low : Nat → Int) (fr : Nat → Nat) (last : Nat) (W : World) (hi : i < 13) (hj : j < 13) (hM : MtxI W g n m) (hb : m i j = b i j) (hP : BoxV W mb (.pointer (some ⟨g, 0, none⟩))) (hL : Arr13 W lb low) (hF : Arr13 W fb (fun a => (fr a : Int))) (hT : BoxW W tb (.int .i64 (last : Int)))
    (d1 : lb ≠ fb) (d2 : lb ≠ tb) (d3 : fb ≠ tb) (bl : -4000000000000 ≤ low i ∧ low i ≤ 4000000000000) (bb : -4000000000000 ≤ b i j ∧ b i j ≤ 4000000000000) :
    Calls Try.prog 74 #[.int .i64 i, .int .i64 j, .pointer (some ⟨lb, 0, none⟩), .pointer (some ⟨mb, 0, none⟩), .pointer (some ⟨fb, 0, none⟩), .pointer (some ⟨tb, 0, none⟩)] W fun e w' => e = .returned (.tuple #[]) ∧
      Arr13 w' lb (if Bn.hit b low i j then Bn.upN low j (Bn.lowS b low i j) else low) ∧ Arr13 w' fb (fun a => ((if Bn.hit b low i j then Bn.upN fr j i else fr) a : Int)) ∧ BoxW w' tb (.int .i64 ((if Bn.hit b low i j then j else last : Nat) : Int)) ∧
      (∀ C, C ≤ lb → C ≤ fb → C ≤ tb → Below C W w') ∧ (∀ q v, q ≠ lb → q ≠ fb → q ≠ tb → BoxV W q v → BoxV w' q v) := by
  have CS := fun W => Lib.hid (bSum_any (low i) (b i j) W bl bb)
  obtain ⟨m0, m1, m2⟩ := hM
  obtain ⟨m3, m4⟩ := m2 i j hi hj
  rw [hb] at m3
  obtain ⟨v0, v1⟩ := hP
  have HL := Lib.hid hL
  have HF := Lib.hid hF
  have HT := Lib.hid hT
  obtain ⟨l0, l1⟩ := hL
  obtain ⟨l2, l3⟩ := l1 i hi
  obtain ⟨l4, l5⟩ := l1 j hj
  obtain ⟨f0, f1⟩ := hF
  obtain ⟨f2, f3⟩ := f1 j hj
  obtain ⟨t0, t1, t2⟩ := hT
  have zi : (i : Int) < 13 := by omega
  have zj : (j : Int) < 13 := by omega
  clear m2 l1 f1 m1 m4 bl bb hb
  have hhit : Bn.hit b low i j = (decide (Bn.sm (low i) (b i j) ≠ -1099511627776) && decide (Bn.sm (low i) (b i j) < low j)) := rfl
  have hls : Bn.lowS b low i j = Bn.sm (low i) (b i j) := rfl
  rw [hhit, hls]
  clear hhit hls
  generalize Bn.sm (low i) (b i j) = s at *
  have U1 := fun (W : World) => Lib.hid (grown_set (A := lb) (i := j) (v := .int .i64 s) (grown_refl W (some lb)))
  have U2 := fun (W : World) => Lib.hid (grown_set (A := fb) (i := j) (v := .int .i64 (i : Int)) (grown_refl W (some fb)))
  have U3 := fun (W : World) => Lib.hid (grown_set (A := tb) (i := 0) (v := .int .i64 (j : Int)) (grown_refl W (some tb)))
  by_cases h1 : s = -1099511627776
  · have hd : (decide (s ≠ -1099511627776) && decide (s < low j)) = false := by simp [h1]
    rw [hd]
    clear hd
    subst h1
    go_enter Try.func74, Try.ntmps74
    go_wp2
    go_quiet (first | (go_at_call 73; exact Calls.quiet_of_same ((CS (W.drewN _)).out)))
    go_wp2
    go_end0
    exact ⟨rfl, HL.out.drewN _, HF.out.drewN _, HT.out.drewN _, fun C _ _ _ => below_drewN _ _, fun q v _ _ _ h => h.drewN _⟩
  · by_cases h2 : s < low j
    · have hd : (decide (s ≠ -1099511627776) && decide (s < low j)) = true := by simp [h1, h2]
      rw [hd]
      clear hd
      go_enter Try.func74, Try.ntmps74
      go_wp2
      go_quiet (first | (go_at_call 73; exact Calls.quiet_of_same ((CS (W.drewN _)).out)))
      go_wp2
      go_end0
      refine ⟨rfl, (((HL.out.drewN _).put hj s).grown (U2 _).out d1).grown (U3 _).out d2, ((((HF.out.drewN _).grown (U1 _).out (fun e => d1 e.symm)).put hj (i : Int)).grown (U3 _).out d3).congr (fun a _ => ?_), (((HT.out.drewN _).grown (U1 _).out (fun e => d2 e.symm)).grown (U2 _).out (fun e => d3 e.symm)).put _, fun C c1 c2 c3 => (((below_drewN _ _).setCell c1 _).setCell c2 _).setCell c3 _, fun q v q1 q2 q3 h => (((h.drewN _).grown (U1 _).out q1).grown (U2 _).out q2).grown (U3 _).out q3⟩
      unfold Bn.upN
      simp only []
      split <;> rfl
    · have hd : (decide (s ≠ -1099511627776) && decide (s < low j)) = false := by simp [h2]
      rw [hd]
      clear hd
      go_enter Try.func74, Try.ntmps74
      go_wp2
      go_quiet (first | (go_at_call 73; exact Calls.quiet_of_same ((CS (W.drewN _)).out)))
      go_wp2
      go_end0
      exact ⟨rfl, HL.out.drewN _, HF.out.drewN _, HT.out.drewN _, fun C _ _ _ => below_drewN _ _, fun q v _ _ _ h => h.drewN _⟩

/-- n integers in a block that may be written. -/
def ArrN (W : World) (g n : Nat) (h : Nat → Int) : Prop := g < W.heap.size ∧ ∀ i, i < n → W.cell? ⟨g, i, none⟩ = some (.int .i64 (h i)) ∧ W.frozen? ⟨g, i, none⟩ = false
theorem ArrN.put {W : World} {g i n : Nat} {h : Nat → Int} (H : ArrN W g n h) (hi : i < n) (x : Int) : ArrN (W.setCell ⟨g, i, none⟩ (.int .i64 x)) g n (Bn.upN h i x) := by
  refine ⟨by simpa [World.setCell] using H.1, fun j hj => ?_⟩
  obtain ⟨h1, h2⟩ := H.2 j hj
  rw [World.frozen?_setCell]
  refine ⟨?_, h2⟩
  unfold Bn.upN
  by_cases e : j = i
  · subst e
    rw [if_pos rfl, World.cell?_setCell_same' _ _ _ (by rw [h1]; rfl)]
  · rw [if_neg e, World.cell?_setCell_other (w := W) (v := .int .i64 x) (a := ⟨g, i, none⟩) (b := ⟨g, j, none⟩) (fun e' => e (congrArg Addr.off e').symm), h1]
def rvF (h : Nat → Int) (n k : Nat) : Nat → Int := fun q => if q < k ∨ n - k ≤ q then h (n - 1 - q) else h q
theorem rvF_swap {h : Nat → Int} {n k j : Nat} (hk : k < j) (hn : k + j + 1 = n) (q : Nat) (hq : q < n) : Bn.upN (Bn.upN (rvF h n k) k (h j)) j (h k) q = rvF h n (k + 1) q := by
  unfold Bn.upN rvF
  by_cases e1 : q = j
  · rw [if_pos e1, if_pos (by omega)]; congr 1; omega
  · rw [if_neg e1]
    by_cases e2 : q = k
    · rw [if_pos e2, if_pos (by omega)]; congr 1; omega
    · rw [if_neg e2]
      by_cases e3 : q < k ∨ n - k ≤ q
      · rw [if_pos e3, if_pos (by omega)]
      · rw [if_neg e3, if_neg (by omega)]
set_option maxHeartbeats 4000000 in
set_option maxRecDepth 100000 in
theorem bRev_any (g n cap : Nat) (h : Nat → Int) (w : World) (hn : 1 ≤ n) (hn2 : n ≤ 64) (_ : n ≤ cap) (H : ArrN w g n h) :
    Calls Try.prog 75 #[.slice (some ⟨g, 0, none⟩) n cap] w fun e w' => e = .returned (.tuple #[]) ∧ ArrN w' g n (fun q => h (n - 1 - q)) ∧ w.grownBy w' (some g) := by
  have HH := Lib.hid H
  clear H
  go_enter Try.func75, Try.ntmps75
  go_wp2
  go_loopw [2, 3] (fun s2 s3 wr => ∃ k j : Nat, k + j + 1 = n ∧ k ≤ j + 1 ∧ s2 = .int .i64 (k : Int) ∧ s3 = .int .i64 (j : Int) ∧ Hid (ArrN wr g n (rvF h n k)) ∧ Hid (w.grownBy wr (some g))) (fun s2 _ _ => n - (intOf s2).toNat)
  case atStart =>
    refine ⟨0, n - 1, by omega, by omega, rfl, by congr 1; omega, Lib.hid ⟨HH.out.1, fun q hq => ?_⟩, Lib.hid (grown_refl _ _)⟩
    have : rvF h n 0 q = h q := if_neg (by omega)
    rw [this]; exact HH.out.2 q hq
  case round =>
    clear HH
    obtain ⟨k, j, hkj, hk2, rfl, rfl, HA, HG⟩ := hrel
    by_cases hl : k < j
    · obtain ⟨a1, a2⟩ := HA.out.2 k (by omega)
      obtain ⟨b1, b2⟩ := HA.out.2 j (by omega)
      have a0 := HA.out.1
      rw [show rvF h n k k = h k from if_neg (by omega)] at a1
      rw [show rvF h n k j = h j from if_neg (by omega)] at b1
      have HP := Lib.hid ((HA.out.put (show k < n by omega) (h j)).put (show j < n by omega) (h k))
      have HA2 : Hid (ArrN ((wr.setCell ⟨g, k, none⟩ (.int .i64 (h j))).setCell ⟨g, j, none⟩ (.int .i64 (h k))) g n (rvF h n (k + 1))) := Lib.hid ⟨HP.out.1, fun q hq => by rw [← rvF_swap hl hkj q hq]; exact HP.out.2 q hq⟩
      have HG2 : Hid (w.grownBy ((wr.setCell ⟨g, k, none⟩ (.int .i64 (h j))).setCell ⟨g, j, none⟩ (.int .i64 (h k))) (some g)) := Lib.hid (grown_set (grown_set HG.out))
      have hkn : k < n := by omega
      have hjn : j < n := by omega
      have hne : ¬ k = j := by omega
      have hne2 : ¬ j = k := by omega
      clear HA HG HP
      generalize h k = x at *
      generalize h j = y at *
      have hq : (k : Int) < (j : Int) := by omega
      obtain ⟨j', rfl⟩ : ∃ j', j = j' + 1 := ⟨j - 1, by omega⟩
      go_wp2
      go_region
      go_wp2
      exact ⟨⟨k + 1, j', by omega, by omega, by first | rfl | go_num, by first | rfl | go_num | (congr 1; omega), Lib.hid HA2.out, Lib.hid (grown_drew HG2.out)⟩, by simp [intOf]; omega⟩
    · have HE : Hid (ArrN wr g n (fun q => h (n - 1 - q))) := Lib.hid ⟨HA.out.1, fun q hq => by
        have : rvF h n k q = h (n - 1 - q) := by
          unfold rvF
          by_cases e : q < k ∨ n - k ≤ q
          · rw [if_pos e]
          · rw [if_neg e]; congr 1; omega
        have h2 := HA.out.2 q hq
        rw [this] at h2; exact h2⟩
      clear HA
      go_wp2
      go_end0
      exact ⟨rfl, HE.out, HG.out⟩
end Go.Proofs.Ytkemicfaiipidaa

