/- Slices of integers of the call's own, laid by make and written in place; six bytes. For walks. -/
import Derived.Test.YtmmcakeedejbnaaDoorVl
import Derived.Test.YtmmcakeedejbnaaDoorUz
import Derived.Deep.OwnRows
namespace Go.Proofs.YtmmcakeedejbnaaDoor
open Go.RowKit

theorem cell?_setCell_some {w : World} {p q : Addr} {x v : Value} (h : w.cell? q = some v) : ∃ v', (w.setCell p x).cell? q = some v' := by
  by_cases e : p = q
  · subst e; exact ⟨x, World.cell?_setCell_same w p x h⟩
  · exact ⟨v, (World.cell?_setCell_other w p q x e).trans h⟩
/-- A block of integers reads as a list. -/
def IntsI (W : World) (g : Nat) (ls : List Nat) : Prop := g < W.heap.size ∧ ∀ i, i < ls.length → W.cell? ⟨g, i, none⟩ = some (.int .i64 ((ls.getD i 0 : Nat) : Int)) ∧ W.frozen? ⟨g, i, none⟩ = false
theorem IntsI.new (w : World) (n : Nat) (T : TypeId) : IntsI (w.alloc (.cells (madeCells #[.int .i64 0] n) T)) w.heap.size (List.replicate n 0) := by
  refine ⟨by simp, fun i hi => ?_⟩
  have hi' : i < n := by simpa using hi
  simp [madeCells, hi', List.getD_eq_getElem?_getD, Nat.mod_one]
theorem IntsI.below {W W' : World} {g : Nat} {ls : List Nat} (h : IntsI W g ls) {B : Nat} (hB : g < B) (hb : Below B W W') : IntsI W' g ls :=
  ⟨Nat.lt_of_lt_of_le h.1 hb.size, fun i hi => ⟨(hb.cell (p := ⟨g, i, none⟩) hB).trans (h.2 i hi).1, (hb.frozen (p := ⟨g, i, none⟩) hB).trans (h.2 i hi).2⟩⟩
theorem IntsI.put {W : World} {g i x : Nat} {ls : List Nat} (h : IntsI W g ls) (hi : i < ls.length) : IntsI (W.setCell ⟨g, i, none⟩ (.int .i64 (x : Int))) g (ls.set i x) := by
  refine ⟨by simpa [World.setCell] using h.1, fun j hj => ?_⟩
  have hj' : j < ls.length := by simpa using hj
  obtain ⟨h1, h2⟩ := h.2 j hj'
  rw [World.frozen?_setCell, Tt.getD_put _ _ _ _ hi]
  refine ⟨?_, h2⟩
  by_cases e : j = i
  · subst e
    rw [if_pos rfl, World.cell?_setCell_same' _ _ _ (by rw [h1]; rfl)]
  · rw [if_neg e, World.cell?_setCell_other (w := W) (v := .int .i64 (x : Int)) (a := ⟨g, i, none⟩) (b := ⟨g, j, none⟩) (fun e' => e (congrArg Addr.off e').symm), h1]
theorem IntsI.other {W : World} {g k i : Nat} {v : Value} {ls : List Nat} (h : IntsI W g ls) (hk : k ≠ g) : IntsI (W.setCell ⟨k, i, none⟩ v) g ls := by
  refine ⟨by simpa [World.setCell] using h.1, fun j hj => ?_⟩
  obtain ⟨h1, h2⟩ := h.2 j hj
  rw [World.frozen?_setCell, World.cell?_setCell_other (w := W) (v := v) (a := ⟨k, i, none⟩) (b := ⟨g, j, none⟩) (fun e' => hk (congrArg Addr.block e'))]
  exact ⟨h1, h2⟩
theorem IntsI.drew {W : World} {g : Nat} {ls : List Nat} (h : IntsI W g ls) : IntsI W.drew g ls := h
theorem IntsI.swap {W : World} {g i k : Nat} {ls : List Nat} (h : IntsI W g ls) (hi : i < ls.length) (hk : k < ls.length) :
    IntsI ((W.setCell ⟨g, i, none⟩ (.int .i64 ((ls.getD k 0 : Nat) : Int))).setCell ⟨g, k, none⟩ (.int .i64 ((ls.getD i 0 : Nat) : Int))) g (Tt.swap ls i k) :=
  (h.put hi).put (by simpa using hk)
theorem IntsI.sees {W : World} {g m : Nat} {ls : List Nat} (h : IntsI W g ls) (hl : ls.length = m) (hm : m ≤ 6) : SeesI W (.slice (some ⟨g, 0, none⟩) m m) (Tt.ints ls) := by
  refine ⟨_, m, by rw [Tt.ints_len, hl], by rw [Tt.ints_len, hl]; exact Nat.le_refl _, by omega, fun _ => ⟨g, 0, rfl, h.1, fun i hi => ?_⟩⟩
  rw [Tt.ints_len] at hi
  rw [Tt.ints_at, Nat.zero_add]
  exact (h.2 i hi).1
/-- Six bytes in a block. -/
def SixI (W : World) (g : Nat) (os : List Nat) : Prop := g < W.heap.size ∧ ∀ i, i < 6 → W.cell? ⟨g, i, none⟩ = some (.int .u8 ((os.getD i 0 : Nat) : Int))
theorem SixI.below {W W' : World} {g : Nat} {os : List Nat} (h : SixI W g os) {B : Nat} (hB : g < B) (hb : Below B W W') : SixI W' g os :=
  ⟨Nat.lt_of_lt_of_le h.1 hb.size, fun i hi => (hb.cell (p := ⟨g, i, none⟩) hB).trans (h.2 i hi)⟩
theorem SixI.new (w : World) (o0 o1 o2 o3 o4 o5 : Nat) (T : TypeId) : SixI (w.alloc (.cells #[.int .u8 o0, .int .u8 o1, .int .u8 o2, .int .u8 o3, .int .u8 o4, .int .u8 o5] T)) w.heap.size [o0, o1, o2, o3, o4, o5] := by
  refine ⟨by simp, fun i hi => ?_⟩
  rcases sixb hi with rfl | rfl | rfl | rfl | rfl | rfl <;> simp
/-- Where the statement begins. -/
theorem ret_new (w : World) (n : Int) (b o0 o1 o2 o3 o4 o5 : Nat) (T S : TypeId) :
    ∃ X, (w.alloc (.cells #[.int .i64 n, .int .u64 b] T)).alloc (.cells #[.int .u8 o0, .int .u8 o1, .int .u8 o2, .int .u8 o3, .int .u8 o4, .int .u8 o5] S) = X ∧
      TabI X w.heap.size n b ∧ SixI X (w.heap.size + 1) [o0, o1, o2, o3, o4, o5] ∧ Below w.heap.size w X ∧ X.heap.size = w.heap.size + 2 := by
  refine ⟨_, rfl, (tabI_new w n b T).below (by simp) ((Below.refl _ _).alloc (Nat.le_refl _) _), ?_, ((Below.refl _ w).alloc (Nat.le_refl _) _).alloc (by simp) _, by simp⟩
  have h := SixI.new (w.alloc (.cells #[.int .i64 n, .int .u64 b] T)) o0 o1 o2 o3 o4 o5 S
  simpa using h
/-- The list of the first numbers, as far as it is laid. -/
def Fil (ls : List Nat) (m i : Nat) : Prop := ls.length = m ∧ ∀ j, j < i → ls.getD j 0 = j
theorem Fil.put {ls : List Nat} {m i : Nat} (h : Fil ls m i) (hi : i < m) : Fil (ls.set i i) m (i + 1) := by
  have hl := h.1
  refine ⟨by simp [hl], fun j hj => ?_⟩
  rw [Tt.getD_put _ _ _ _ (by omega)]
  by_cases e : j = i
  · rw [if_pos e, e]
  · rw [if_neg e]; exact h.2 j (by omega)
theorem Fil.ord {ls : List Nat} {m : Nat} (h : Fil ls m m) : Tt.Ord m ls :=
  Tt.Ord.of h.1 (fun i hi => by rw [h.2 i hi]; exact hi) (fun i j hi hj e => by rw [h.2 i hi, h.2 j hj] at e; exact e)
/-- The calls of the statement TruthReturns. -/
theorem ret_calls {m b : Nat} {ls bk : List Nat} (hm : m ≤ 6) (hb : b < 2 ^ 2 ^ m) (hO : Tt.Ord m ls) (hK : Tt.Bck m ls bk m) :
    (∀ (v : Value) W, St W → SeesI W v (Tt.ints ls) → Hid (Calls Tryd.prog 37 #[.agg #[.int .i64 m, .int .u64 b], v] W fun e w' => e = .returned (.tuple #[.agg #[.int .i64 m, .int .u64 ((Tt.mk m (fun x => b.testBit (Tt.refY ls x m)) : Nat) : Int)], .int .i64 0]) ∧ Below W.heap.size W w')) ∧
    (∀ (v : Value) W, St W → SeesI W v (Tt.ints bk) → Hid (Calls Tryd.prog 37 #[.agg #[.int .i64 m, .int .u64 ((Tt.mk m (fun x => b.testBit (Tt.refY ls x m)) : Nat) : Int)], v] W fun e w' => e = .returned (.tuple #[.agg #[.int .i64 m, .int .u64 b], .int .i64 0]) ∧ Below W.heap.size W w')) ∧
    (∀ W, St W → Hid (Calls Tryd.prog 17 #[.agg #[.int .i64 m, .int .u64 b]] W fun e w' => ∃ ao cap, e = .returned (.tuple #[.slice ao (Tt.ptsL m b).length cap, .int .i64 0]) ∧ (Tt.ptsL m b).length ≤ cap ∧ Below W.heap.size W w')) ∧
    (∀ W, St W → Hid (Calls Tryd.prog 17 #[.agg #[.int .i64 m, .int .u64 ((Tt.mk m (fun x => b.testBit (Tt.refY ls x m)) : Nat) : Int)]] W fun e w' => ∃ ao cap, e = .returned (.tuple #[.slice ao (Tt.ptsL m b).length cap, .int .i64 0]) ∧ (Tt.ptsL m b).length ≤ cap ∧ Below W.heap.size W w')) ∧
    ∃ (s : ByteArray) (N : Nat), s.size = N ∧
    (∀ W, St W → Hid (Calls Tryd.prog 39 #[.agg #[.int .i64 m, .int .u64 b]] W fun e w' => e = .returned (.tuple #[.string s, .int .i64 0]) ∧ Below W.heap.size W w')) ∧
    (∀ W, St W → Hid (Calls Tryd.prog 41 #[.string s] W fun e w' => e = .returned (.tuple #[.agg #[.int .i64 m, .int .u64 b], .int .i64 0]) ∧ Below W.heap.size W w')) ∧
    (∀ W, Hid (Calls Tryd.prog 46 #[.int .i64 m] W fun e w' => e = .returned (.int .i64 (N : Int)) ∧ W = w')) := by
  have hc := Tt.mk_lt m (fun x => b.testBit (Tt.refY ls x m))
  have hu := hK.undo hO hb
  have hp : (Tt.ptsL m b).length = (Tt.ptsL m (Tt.mk m (fun x => b.testBit (Tt.refY ls x m)))).length := by
    unfold Tt.ptsL
    rw [if_pos (Tt.chk_ok hm hb), if_pos (Tt.chk_ok hm hc), Int.toNat_natCast]
    exact hO.points b
  refine ⟨fun v W h hs => Lib.hid ?_, fun v W h hs => Lib.hid ?_, fun W h => Lib.hid ?_, fun W h => Lib.hid ?_, ⟨(Tt.txt m b).toArray⟩, 2 ^ m, ?_, fun W h => Lib.hid (tText_any m b W hm hb h.tz h.h1), fun W h => Lib.hid (tParse_any m b W hm hb h.tz h.h1), fun W => Lib.hid ?_⟩
  · have h1 := tRename_ok m b (Tt.ints ls) v W hm hb h hs hO.ordE
    rw [Tt.ints_nat] at h1
    exact h1
  · have h1 := tRename_ok m _ (Tt.ints bk) v W hm hc h hs (hK.ord hO).ordE
    rw [Tt.ints_nat, hu] at h1
    exact h1
  · refine (tPts_any m b W (Tt.w64 hm hb) h).mono ?_
    rintro e w' ⟨v, rfl, hs, hb1⟩
    obtain ⟨ao, cap, rfl, hl, _⟩ := hs.form
    exact ⟨ao, cap, by rw [Tt.chk_ok hm hb], hl, hb1⟩
  · rw [hp]
    refine (tPts_any m _ W (Tt.w64 hm hc) h).mono ?_
    rintro e w' ⟨v, rfl, hs, hb1⟩
    obtain ⟨ao, cap, rfl, hl, _⟩ := hs.form
    exact ⟨ao, cap, by rw [Tt.chk_ok hm hc], hl, hb1⟩
  · show (Tt.txt m b).toArray.size = 2 ^ m
    rw [List.size_toArray, Tt.txt_length]
  · have h1 := rSize_any m W (by omega) (by omega)
    rw [Int.toNat_natCast] at h1
    exact h1
end Go.Proofs.YtmmcakeedejbnaaDoor
