/- The contract of extremes of package enclosure: the array of products. -/
import Derived.Test.YtldclpdmcopgnaaGreatDoorEr
import Derived.Deep.DeepCutAuto
import Derived.BigRegion
namespace Go.Proofs.YtldclpdmcopgnaaGreatDoor
open Go.RowKit
/-- The products of the ends, in an array. -/
def cA (l h : ByteArray) : Nat → ByteArray | 0 => l | 1 => l | _ => h
def cB (m k : ByteArray) : Nat → ByteArray | 0 => m | 1 => k | 2 => m | _ => k
def sAB (a b : ByteArray) : Int := Fr.sgnQ (Fr.rat a.data.toList) * Fr.sgnQ (Fr.rat b.data.toList)
def cells5 (a b : ByteArray) (n d : Value) : List Value := [.string a, .string b, .int .i64 (sAB a b), n, d]
def cQ (l h m k : ByteArray) (i : Nat) : Rat := Fr.rat (cA l h i).data.toList * Fr.rat (cB m k i).data.toList
/-- The first least and the first greatest of some numbers. -/
def loI (q : Nat → Rat) : Nat → Nat
  | 0 => 0
  | i + 1 => if Fr.cmpQ (q i) (q (loI q i)) < 0 then i else loI q i
def hiI (q : Nat → Rat) : Nat → Nat
  | 0 => 0
  | i + 1 => if 0 < Fr.cmpQ (q i) (q (hiI q i)) then i else hiI q i
set_option maxRecDepth 100000 in
theorem idx4 (A B : Nat → ByteArray) (S : Nat → Int) (a1 : Nat → Option Addr) (b1 c1 : Nat → Nat) (a2 : Nat → Option Addr) (b2 c2 : Nat → Nat) (i : Nat) (hi : i < 4) : ∀ w, (Instr.index 126 (.agg #[.string (A 0), .string (B 0), .int .i64 (S 0), .slice (a1 0) (b1 0) (c1 0), .slice (a2 0) (b2 0) (c2 0), .string (A 1), .string (B 1), .int .i64 (S 1), .slice (a1 1) (b1 1) (c1 1), .slice (a2 1) (b2 1) (c2 1), .string (A 2), .string (B 2), .int .i64 (S 2), .slice (a1 2) (b1 2) (c1 2), .slice (a2 2) (b2 2) (c2 2), .string (A 3), .string (B 3), .int .i64 (S 3), .slice (a1 3) (b1 3) (c1 3), .slice (a2 3) (b2 3) (c2 3)]) (.int .i64 (i : Int))).run Tryz.prog w = .ok (.agg #[.string (A i), .string (B i), .int .i64 (S i), .slice (a1 i) (b1 i) (c1 i), .slice (a2 i) (b2 i) (c2 i)]) w := by
  intro w
  have h4 : i = 0 ∨ i = 1 ∨ i = 2 ∨ i = 3 := by omega
  rcases h4 with rfl | rfl | rfl | rfl <;> first | kernel_rfl | rfl
theorem Prod.set5 {W : World} {g : Nat} {a b : ByteArray} {s : Int} {nu de : Value} (h : Prod W g a b s nu de) (a' b' : ByteArray) (s' : Int) (nu' de' : Value) :
    Prod (((((W.setCell ⟨g, 0, none⟩ (.string a')).setCell ⟨g, 1, none⟩ (.string b')).setCell ⟨g, 2, none⟩ (.int .i64 s')).setCell ⟨g, 3, none⟩ nu').setCell ⟨g, 4, none⟩ de') g a' b' s' nu' de' := by
  obtain ⟨h0, c0, c1, c2, c3, c4, f0, f1, f2, f3, f4⟩ := h
  refine ⟨by simpa using h0, ?_, ?_, ?_, ?_, ?_, by simpa using f0, by simpa using f1, by simpa using f2, by simpa using f3, by simpa using f4⟩
  · exact cell_ne (cell_ne (cell_ne (cell_ne (World.cell?_setCell_same W _ _ c0) (off_ne (by decide))) (off_ne (by decide))) (off_ne (by decide))) (off_ne (by decide))
  · exact cell_ne (cell_ne (cell_ne (World.cell?_setCell_same _ _ _ (cell_ne c1 (off_ne (by decide)))) (off_ne (by decide))) (off_ne (by decide))) (off_ne (by decide))
  · exact cell_ne (cell_ne (World.cell?_setCell_same _ _ _ (cell_ne (cell_ne c2 (off_ne (by decide))) (off_ne (by decide)))) (off_ne (by decide))) (off_ne (by decide))
  · exact cell_ne (World.cell?_setCell_same _ _ _ (cell_ne (cell_ne (cell_ne c3 (off_ne (by decide))) (off_ne (by decide))) (off_ne (by decide)))) (off_ne (by decide))
  · exact World.cell?_setCell_same _ _ _ (cell_ne (cell_ne (cell_ne (cell_ne c4 (off_ne (by decide))) (off_ne (by decide))) (off_ne (by decide))) (off_ne (by decide)))
theorem Prod.apart5 {W : World} {g k : Nat} {a b : ByteArray} {s : Int} {nu de : Value} (h : Prod W g a b s nu de) (hk : k ≠ g) (u0 u1 u2 u3 u4 : Value) :
    Prod (((((W.setCell ⟨k, 0, none⟩ u0).setCell ⟨k, 1, none⟩ u1).setCell ⟨k, 2, none⟩ u2).setCell ⟨k, 3, none⟩ u3).setCell ⟨k, 4, none⟩ u4) g a b s nu de :=
  ((((h.apart hk u0).apart hk u1).apart hk u2).apart hk u3).apart hk u4
theorem PrB.put5 {B : Nat} {W : World} {v : Value} {a b : ByteArray} (h : PrB B W v a b) {k : Nat} (hk : k < B) (u0 u1 u2 u3 u4 : Value) :
    PrB B (((((W.setCell ⟨k, 0, none⟩ u0).setCell ⟨k, 1, none⟩ u1).setCell ⟨k, 2, none⟩ u2).setCell ⟨k, 3, none⟩ u3).setCell ⟨k, 4, none⟩ u4) v a b :=
  ((((h.put hk 0 u0).put hk 1 u1).put hk 2 u2).put hk 3 u3).put hk 4 u4
theorem below_set5 {B : Nat} {w W : World} (h : Below B w W) {k : Nat} (hk : B ≤ k) (u0 u1 u2 u3 u4 : Value) :
    Below B w (((((W.setCell ⟨k, 0, none⟩ u0).setCell ⟨k, 1, none⟩ u1).setCell ⟨k, 2, none⟩ u2).setCell ⟨k, 3, none⟩ u3).setCell ⟨k, 4, none⟩ u4) :=
  ((((h.setCell (p := ⟨k, 0, none⟩) hk u0).setCell (p := ⟨k, 1, none⟩) hk u1).setCell (p := ⟨k, 2, none⟩) hk u2).setCell (p := ⟨k, 3, none⟩) hk u3).setCell (p := ⟨k, 4, none⟩) hk u4
theorem range5 {W : World} {G k : Nat} {cs : List Value} (h : W.rangeAt G 0 cs) (hk : k ≠ G) (u0 u1 u2 u3 u4 : Value) :
    (((((W.setCell ⟨k, 0, none⟩ u0).setCell ⟨k, 1, none⟩ u1).setCell ⟨k, 2, none⟩ u2).setCell ⟨k, 3, none⟩ u3).setCell ⟨k, 4, none⟩ u4).rangeAt G 0 cs := fun j v hv =>
  cell_ne (cell_ne (cell_ne (cell_ne (cell_ne (h j v hv) (blk_ne hk)) (blk_ne hk)) (blk_ne hk)) (blk_ne hk)) (blk_ne hk)
/-- The state of the loop: the variables of the least and the greatest product. -/
def LS (w W : World) (A B : Nat → ByteArray) (S : Nat → Int) (a1 : Nat → Option Addr) (b1 c1 : Nat → Nat) (a2 : Nat → Option Addr) (b2 c2 : Nat → Nat) (lo hi : Nat) : Prop :=
  Below w.heap.size w W ∧ Prod W (w.heap.size + 1 + 1) (A lo) (B lo) (S lo) (.slice (a1 lo) (b1 lo) (c1 lo)) (.slice (a2 lo) (b2 lo) (c2 lo)) ∧ Prod W (w.heap.size + 1 + 1 + 1) (A hi) (B hi) (S hi) (.slice (a1 hi) (b1 hi) (c1 hi)) (.slice (a2 hi) (b2 hi) (c2 hi)) ∧
  ∀ i, i < 4 → PrB (w.heap.size + 1 + 1 + 1 + 1) W (.agg #[.string (A i), .string (B i), .int .i64 (S i), .slice (a1 i) (b1 i) (c1 i), .slice (a2 i) (b2 i) (c2 i)]) (A i) (B i)
def Four (w wx : World) (l h m k : ByteArray) (G : Nat) : Prop :=
  K0 w wx l h m k ∧ w.heap.size + 1 + 1 + 1 < G ∧ G < wx.heap.size ∧ ∃ (a1 : Nat → Option Addr) (b1 c1 : Nat → Nat) (a2 : Nat → Option Addr) (b2 c2 : Nat → Nat),
    (∀ i, i < 4 → PrB (w.heap.size + 1 + 1 + 1 + 1) wx (.agg #[.string (cA l h i), .string (cB m k i), .int .i64 (sAB (cA l h i) (cB m k i)), .slice (a1 i) (b1 i) (c1 i), .slice (a2 i) (b2 i) (c2 i)]) (cA l h i) (cB m k i)) ∧
    wx.rangeAt G 0 (cells5 (cA l h 0) (cB m k 0) (.slice (a1 0) (b1 0) (c1 0)) (.slice (a2 0) (b2 0) (c2 0)) ++ cells5 (cA l h 1) (cB m k 1) (.slice (a1 1) (b1 1) (c1 1)) (.slice (a2 1) (b2 1) (c2 1)) ++ cells5 (cA l h 2) (cB m k 2) (.slice (a1 2) (b1 2) (c1 2)) (.slice (a2 2) (b2 2) (c2 2)) ++ cells5 (cA l h 3) (cB m k 3) (.slice (a1 3) (b1 3) (c1 3)) (.slice (a2 3) (b2 3) (c2 3)))
theorem LS.step {w W : World} {A B : Nat → ByteArray} {S : Nat → Int} {a1 : Nat → Option Addr} {b1 c1 : Nat → Nat} {a2 : Nat → Option Addr} {b2 c2 : Nat → Nat} {lo hi : Nat} (h : LS w W A B S a1 b1 c1 a2 b2 c2 lo hi) {W' : World} (hb : Below W.heap.size W W') : LS w W' A B S a1 b1 c1 a2 b2 c2 lo hi := by
  obtain ⟨h1, h2, h3, h4⟩ := h
  exact ⟨below_nx h1 hb, h2.step hb, h3.step hb, fun i hi => (h4 i hi).step hb⟩
theorem LS.setLo {w W : World} {A B : Nat → ByteArray} {S : Nat → Int} {a1 : Nat → Option Addr} {b1 c1 : Nat → Nat} {a2 : Nat → Option Addr} {b2 c2 : Nat → Nat} {lo hi : Nat} (h : LS w W A B S a1 b1 c1 a2 b2 c2 lo hi) (i : Nat) : LS w (((((W.setCell ⟨w.heap.size + 1 + 1, 0, none⟩ (.string (A i))).setCell ⟨w.heap.size + 1 + 1, 1, none⟩ (.string (B i))).setCell ⟨w.heap.size + 1 + 1, 2, none⟩ (.int .i64 (S i))).setCell ⟨w.heap.size + 1 + 1, 3, none⟩ (.slice (a1 i) (b1 i) (c1 i))).setCell ⟨w.heap.size + 1 + 1, 4, none⟩ (.slice (a2 i) (b2 i) (c2 i))) A B S a1 b1 c1 a2 b2 c2 i hi := by
  obtain ⟨h1, h2, h3, h4⟩ := h
  exact ⟨below_set5 (k := w.heap.size + 1 + 1) h1 (by omega) (.string (A i)) (.string (B i)) (.int .i64 (S i)) (.slice (a1 i) (b1 i) (c1 i)) (.slice (a2 i) (b2 i) (c2 i)), h2.set5 (A i) (B i) (S i) (.slice (a1 i) (b1 i) (c1 i)) (.slice (a2 i) (b2 i) (c2 i)), h3.apart5 (k := w.heap.size + 1 + 1) (by omega) (.string (A i)) (.string (B i)) (.int .i64 (S i)) (.slice (a1 i) (b1 i) (c1 i)) (.slice (a2 i) (b2 i) (c2 i)), fun j hj => (h4 j hj).put5 (k := w.heap.size + 1 + 1) (by omega) (.string (A i)) (.string (B i)) (.int .i64 (S i)) (.slice (a1 i) (b1 i) (c1 i)) (.slice (a2 i) (b2 i) (c2 i))⟩
theorem LS.setHi {w W : World} {A B : Nat → ByteArray} {S : Nat → Int} {a1 : Nat → Option Addr} {b1 c1 : Nat → Nat} {a2 : Nat → Option Addr} {b2 c2 : Nat → Nat} {lo hi : Nat} (h : LS w W A B S a1 b1 c1 a2 b2 c2 lo hi) (i : Nat) : LS w (((((W.setCell ⟨w.heap.size + 1 + 1 + 1, 0, none⟩ (.string (A i))).setCell ⟨w.heap.size + 1 + 1 + 1, 1, none⟩ (.string (B i))).setCell ⟨w.heap.size + 1 + 1 + 1, 2, none⟩ (.int .i64 (S i))).setCell ⟨w.heap.size + 1 + 1 + 1, 3, none⟩ (.slice (a1 i) (b1 i) (c1 i))).setCell ⟨w.heap.size + 1 + 1 + 1, 4, none⟩ (.slice (a2 i) (b2 i) (c2 i))) A B S a1 b1 c1 a2 b2 c2 lo i := by
  obtain ⟨h1, h2, h3, h4⟩ := h
  exact ⟨below_set5 (k := w.heap.size + 1 + 1 + 1) h1 (by omega) (.string (A i)) (.string (B i)) (.int .i64 (S i)) (.slice (a1 i) (b1 i) (c1 i)) (.slice (a2 i) (b2 i) (c2 i)), h2.apart5 (k := w.heap.size + 1 + 1 + 1) (by omega) (.string (A i)) (.string (B i)) (.int .i64 (S i)) (.slice (a1 i) (b1 i) (c1 i)) (.slice (a2 i) (b2 i) (c2 i)), h3.set5 (A i) (B i) (S i) (.slice (a1 i) (b1 i) (c1 i)) (.slice (a2 i) (b2 i) (c2 i)), fun j hj => (h4 j hj).put5 (k := w.heap.size + 1 + 1 + 1) (by omega) (.string (A i)) (.string (B i)) (.int .i64 (S i)) (.slice (a1 i) (b1 i) (c1 i)) (.slice (a2 i) (b2 i) (c2 i))⟩
theorem ls_drew {w W : World} {A B : Nat → ByteArray} {S : Nat → Int} {a1 : Nat → Option Addr} {b1 c1 : Nat → Nat} {a2 : Nat → Option Addr} {b2 c2 : Nat → Nat} {lo hi : Nat} (h : LS w W A B S a1 b1 c1 a2 b2 c2 lo hi) : LS w W.drew A B S a1 b1 c1 a2 b2 c2 lo hi := by
  obtain ⟨h1, h2, h3, h4⟩ := h
  have hb := (Below.refl W.heap.size W).drew
  exact ⟨below_nx h1 hb, h2.step hb, h3.step hb, fun i hi => (h4 i hi).step hb⟩
theorem four_mk {w W : World} {l h m k : ByteArray} {G : Nat} {an1 ad1 : Option Addr} {ln1 cn1 ld1 cd1 : Nat} {an2 ad2 : Option Addr} {ln2 cn2 ld2 cd2 : Nat} {an3 ad3 : Option Addr} {ln3 cn3 ld3 cd3 : Nat} {an4 ad4 : Option Addr} {ln4 cn4 ld4 cd4 : Nat} (x : K0 w W l h m k) (z : Free20 W G) (hg : w.heap.size + 1 + 1 + 1 < G)
    (r1 : PrB (w.heap.size + 1 + 1 + 1 + 1) W (.agg #[.string l, .string m, .int .i64 (Fr.sgnQ (Fr.rat l.data.toList) * Fr.sgnQ (Fr.rat m.data.toList)), .slice an1 ln1 cn1, .slice ad1 ld1 cd1]) l m) (r2 : PrB (w.heap.size + 1 + 1 + 1 + 1) W (.agg #[.string l, .string k, .int .i64 (Fr.sgnQ (Fr.rat l.data.toList) * Fr.sgnQ (Fr.rat k.data.toList)), .slice an2 ln2 cn2, .slice ad2 ld2 cd2]) l k) (r3 : PrB (w.heap.size + 1 + 1 + 1 + 1) W (.agg #[.string h, .string m, .int .i64 (Fr.sgnQ (Fr.rat h.data.toList) * Fr.sgnQ (Fr.rat m.data.toList)), .slice an3 ln3 cn3, .slice ad3 ld3 cd3]) h m) (r4 : PrB (w.heap.size + 1 + 1 + 1 + 1) W (.agg #[.string h, .string k, .int .i64 (Fr.sgnQ (Fr.rat h.data.toList) * Fr.sgnQ (Fr.rat k.data.toList)), .slice an4 ln4 cn4, .slice ad4 ld4 cd4]) h k) :
    Four w (W.setCells G 0 [.string l, .string m, .int .i64 (Fr.sgnQ (Fr.rat l.data.toList) * Fr.sgnQ (Fr.rat m.data.toList)), .slice an1 ln1 cn1, .slice ad1 ld1 cd1, .string l, .string k, .int .i64 (Fr.sgnQ (Fr.rat l.data.toList) * Fr.sgnQ (Fr.rat k.data.toList)), .slice an2 ln2 cn2, .slice ad2 ld2 cd2, .string h, .string m, .int .i64 (Fr.sgnQ (Fr.rat h.data.toList) * Fr.sgnQ (Fr.rat m.data.toList)), .slice an3 ln3 cn3, .slice ad3 ld3 cd3, .string h, .string k, .int .i64 (Fr.sgnQ (Fr.rat h.data.toList) * Fr.sgnQ (Fr.rat k.data.toList)), .slice an4 ln4 cn4, .slice ad4 ld4 cd4]) l h m k G := by
  refine ⟨x.far hg _, hg, by rw [setCells_size]; exact z.1, (fun i => match i with | 0 => an1 | 1 => an2 | 2 => an3 | _ => an4), (fun i => match i with | 0 => ln1 | 1 => ln2 | 2 => ln3 | _ => ln4), (fun i => match i with | 0 => cn1 | 1 => cn2 | 2 => cn3 | _ => cn4), (fun i => match i with | 0 => ad1 | 1 => ad2 | 2 => ad3 | _ => ad4), (fun i => match i with | 0 => ld1 | 1 => ld2 | 2 => ld3 | _ => ld4), (fun i => match i with | 0 => cd1 | 1 => cd2 | 2 => cd3 | _ => cd4), ?_, World.rangeAt_setCells_same W G 0 _ z.there⟩
  intro i hi
  have h4 : i = 0 ∨ i = 1 ∨ i = 2 ∨ i = 3 := by omega
  rcases h4 with rfl | rfl | rfl | rfl
  · exact r1.zeros z _ rfl
  · exact r2.zeros z _ rfl
  · exact r3.zeros z _ rfl
  · exact r4.zeros z _ rfl
set_option maxRecDepth 100000 in
set_option maxHeartbeats 8000000 in
theorem eExtremes_any (l h m k : ByteArray) (w : World) (hst : St w) (hl : l.size ≤ 800) (hh : h.size ≤ 800) (hm : m.size ≤ 800) (hk : k.size ≤ 800) (kl : Fr.chk l.data.toList = 0) (kh : Fr.chk h.data.toList = 0) (km : Fr.chk m.data.toList = 0) (kk : Fr.chk k.data.toList = 0) :
    Calls Tryz.prog 71 #[.agg #[.string l, .string h], .agg #[.string m, .string k]] w fun e w' => ∃ u v, e = .returned (.tuple #[u, v]) ∧ PrV w' u (cA l h (loI (cQ l h m k) 4)) (cB m k (loI (cQ l h m k) 4)) ∧ PrV w' v (cA l h (hiI (cQ l h m k) 4)) (cB m k (hiI (cQ l h m k) 4)) ∧ Below w.heap.size w w' := by
  have CM1 := fun W (hW : Below w.heap.size w W) => Lib.hid (eMult_any l m W (hst.next hW) hl hm kl km)
  have CM2 := fun W (hW : Below w.heap.size w W) => Lib.hid (eMult_any l k W (hst.next hW) hl hk kl kk)
  have CM3 := fun W (hW : Below w.heap.size w W) => Lib.hid (eMult_any h m W (hst.next hW) hh hm kh km)
  have CM4 := fun W (hW : Below w.heap.size w W) => Lib.hid (eMult_any h k W (hst.next hW) hh hk kh kk)
  have KK := Lib.hid (k0_new w l h m k)
  clear hst
  go_enter Tryz.func71, Tryz.ntmps71
  go_wp2_with fail
  obtain ⟨W0, hW0⟩ : ∃ W0, W0 = (((w.alloc (.cells #[.string l, .string h] 24)).alloc (.cells #[.string m, .string k] 24)).alloc (.cells #[.string ⟨#[]⟩, .string ⟨#[]⟩, .int .i64 0, .slice none 0 0, .slice none 0 0] 94)).alloc (.cells #[.string ⟨#[]⟩, .string ⟨#[]⟩, .int .i64 0, .slice none 0 0, .slice none 0 0] 94) := ⟨_, rfl⟩
  rw [← hW0] at KK ⊢
  clear hW0
  go_cut [6] (fun s6 wx => ∃ G, s6 = .pointer (some ⟨G, 0, none⟩) ∧ Hid (Four w wx l h m k G))
  case first =>
    refine wp_region_noPanic ?_
    refine wp_region_held_drew (S := fun X => Hid (K0 w X l h m k)) (by kernel_rfl) ?_ (fun hHeld => ?_)
    · exact Lib.hid (KK.out.step (Below.refl _ _).drew)
    clear KK
    generalize W0.drew = Wd at *
    refine wpAnyH_take (i := 0) (v := ?_) rfl (by kernel_rfl) (by kernel_rfl) (by kernel_rfl) (fun _ _ _ h => h) (Or.inl ⟨by rfl, ?_⟩) (by assumption) ?_
    rotate_left 1
    · (intro wq hSw; clear hSw; go_simp; (try with_reducible rfl))
    try simp only [Act.put, List.getElem_toArray, List.getElem_cons_zero, List.setIfInBounds_toArray, List.set_cons_zero, List.set_cons_succ]
    refine wpAnyH_take (i := 1) (v := .string l) rfl (by kernel_rfl) (by kernel_rfl) (by kernel_rfl) (fun _ _ _ h => h) (Or.inl ⟨by rfl, ?_⟩) (by assumption) ?_
    · (intro wq hSw; obtain ⟨-, a1, a2, -, -⟩ := hSw.out.2.1; obtain ⟨-, b1, b2, -, -⟩ := hSw.out.2.2.1; clear hSw; go_simp)
    try simp only [Act.put, List.getElem_toArray, List.getElem_cons_succ, List.getElem_cons_zero, List.setIfInBounds_toArray, List.set_cons_zero, List.set_cons_succ]
    refine wpAnyH_take (i := 2) (v := ?_) rfl (by kernel_rfl) (by kernel_rfl) (by kernel_rfl) (fun _ _ _ h => h) (Or.inl ⟨by rfl, ?_⟩) (by assumption) ?_
    rotate_left 1
    · (intro wq hSw; clear hSw; go_simp; (try with_reducible rfl))
    try simp only [Act.put, List.getElem_toArray, List.getElem_cons_succ, List.getElem_cons_zero, List.setIfInBounds_toArray, List.set_cons_zero, List.set_cons_succ]
    refine wpAnyH_take (i := 3) (v := .string m) rfl (by kernel_rfl) (by kernel_rfl) (by kernel_rfl) (fun _ _ _ h => h) (Or.inl ⟨by rfl, ?_⟩) (by assumption) ?_
    · (intro wq hSw; obtain ⟨-, a1, a2, -, -⟩ := hSw.out.2.1; obtain ⟨-, b1, b2, -, -⟩ := hSw.out.2.2.1; clear hSw; go_simp)
    try simp only [Act.put, List.getElem_toArray, List.getElem_cons_succ, List.getElem_cons_zero, List.setIfInBounds_toArray, List.set_cons_zero, List.set_cons_succ]
    refine wpAnyH_take (i := 5) (v := ?_) rfl (by kernel_rfl) (by kernel_rfl) (by kernel_rfl) (fun _ _ _ h => h) (Or.inl ⟨by rfl, ?_⟩) (by assumption) ?_
    rotate_left 1
    · (intro wq hSw; clear hSw; go_simp; (try with_reducible rfl))
    try simp only [Act.put, List.getElem_toArray, List.getElem_cons_succ, List.getElem_cons_zero, List.setIfInBounds_toArray, List.set_cons_zero, List.set_cons_succ]
    refine wpAnyH_take (i := 6) (v := .string l) rfl (by kernel_rfl) (by kernel_rfl) (by kernel_rfl) (fun _ _ _ h => h) (Or.inl ⟨by rfl, ?_⟩) (by assumption) ?_
    · (intro wq hSw; obtain ⟨-, a1, a2, -, -⟩ := hSw.out.2.1; obtain ⟨-, b1, b2, -, -⟩ := hSw.out.2.2.1; clear hSw; go_simp)
    try simp only [Act.put, List.getElem_toArray, List.getElem_cons_succ, List.getElem_cons_zero, List.setIfInBounds_toArray, List.set_cons_zero, List.set_cons_succ]
    refine wpAnyH_take (i := 7) (v := ?_) rfl (by kernel_rfl) (by kernel_rfl) (by kernel_rfl) (fun _ _ _ h => h) (Or.inl ⟨by rfl, ?_⟩) (by assumption) ?_
    rotate_left 1
    · (intro wq hSw; clear hSw; go_simp; (try with_reducible rfl))
    try simp only [Act.put, List.getElem_toArray, List.getElem_cons_succ, List.getElem_cons_zero, List.setIfInBounds_toArray, List.set_cons_zero, List.set_cons_succ]
    refine wpAnyH_take (i := 8) (v := .string k) rfl (by kernel_rfl) (by kernel_rfl) (by kernel_rfl) (fun _ _ _ h => h) (Or.inl ⟨by rfl, ?_⟩) (by assumption) ?_
    · (intro wq hSw; obtain ⟨-, a1, a2, -, -⟩ := hSw.out.2.1; obtain ⟨-, b1, b2, -, -⟩ := hSw.out.2.2.1; clear hSw; go_simp)
    try simp only [Act.put, List.getElem_toArray, List.getElem_cons_succ, List.getElem_cons_zero, List.setIfInBounds_toArray, List.set_cons_zero, List.set_cons_succ]
    refine wpAnyH_take (i := 10) (v := ?_) rfl (by kernel_rfl) (by kernel_rfl) (by kernel_rfl) (fun _ _ _ h => h) (Or.inl ⟨by rfl, ?_⟩) (by assumption) ?_
    rotate_left 1
    · (intro wq hSw; clear hSw; go_simp; (try with_reducible rfl))
    try simp only [Act.put, List.getElem_toArray, List.getElem_cons_succ, List.getElem_cons_zero, List.setIfInBounds_toArray, List.set_cons_zero, List.set_cons_succ]
    refine wpAnyH_take (i := 11) (v := .string h) rfl (by kernel_rfl) (by kernel_rfl) (by kernel_rfl) (fun _ _ _ h => h) (Or.inl ⟨by rfl, ?_⟩) (by assumption) ?_
    · (intro wq hSw; obtain ⟨-, a1, a2, -, -⟩ := hSw.out.2.1; obtain ⟨-, b1, b2, -, -⟩ := hSw.out.2.2.1; clear hSw; go_simp)
    try simp only [Act.put, List.getElem_toArray, List.getElem_cons_succ, List.getElem_cons_zero, List.setIfInBounds_toArray, List.set_cons_zero, List.set_cons_succ]
    refine wpAnyH_take (i := 12) (v := ?_) rfl (by kernel_rfl) (by kernel_rfl) (by kernel_rfl) (fun _ _ _ h => h) (Or.inl ⟨by rfl, ?_⟩) (by assumption) ?_
    rotate_left 1
    · (intro wq hSw; clear hSw; go_simp; (try with_reducible rfl))
    try simp only [Act.put, List.getElem_toArray, List.getElem_cons_succ, List.getElem_cons_zero, List.setIfInBounds_toArray, List.set_cons_zero, List.set_cons_succ]
    refine wpAnyH_take (i := 13) (v := .string m) rfl (by kernel_rfl) (by kernel_rfl) (by kernel_rfl) (fun _ _ _ h => h) (Or.inl ⟨by rfl, ?_⟩) (by assumption) ?_
    · (intro wq hSw; obtain ⟨-, a1, a2, -, -⟩ := hSw.out.2.1; obtain ⟨-, b1, b2, -, -⟩ := hSw.out.2.2.1; clear hSw; go_simp)
    try simp only [Act.put, List.getElem_toArray, List.getElem_cons_succ, List.getElem_cons_zero, List.setIfInBounds_toArray, List.set_cons_zero, List.set_cons_succ]
    refine wpAnyH_take (i := 15) (v := ?_) rfl (by kernel_rfl) (by kernel_rfl) (by kernel_rfl) (fun _ _ _ h => h) (Or.inl ⟨by rfl, ?_⟩) (by assumption) ?_
    rotate_left 1
    · (intro wq hSw; clear hSw; go_simp; (try with_reducible rfl))
    try simp only [Act.put, List.getElem_toArray, List.getElem_cons_succ, List.getElem_cons_zero, List.setIfInBounds_toArray, List.set_cons_zero, List.set_cons_succ]
    refine wpAnyH_take (i := 16) (v := .string h) rfl (by kernel_rfl) (by kernel_rfl) (by kernel_rfl) (fun _ _ _ h => h) (Or.inl ⟨by rfl, ?_⟩) (by assumption) ?_
    · (intro wq hSw; obtain ⟨-, a1, a2, -, -⟩ := hSw.out.2.1; obtain ⟨-, b1, b2, -, -⟩ := hSw.out.2.2.1; clear hSw; go_simp)
    try simp only [Act.put, List.getElem_toArray, List.getElem_cons_succ, List.getElem_cons_zero, List.setIfInBounds_toArray, List.set_cons_zero, List.set_cons_succ]
    refine wpAnyH_take (i := 17) (v := ?_) rfl (by kernel_rfl) (by kernel_rfl) (by kernel_rfl) (fun _ _ _ h => h) (Or.inl ⟨by rfl, ?_⟩) (by assumption) ?_
    rotate_left 1
    · (intro wq hSw; clear hSw; go_simp; (try with_reducible rfl))
    try simp only [Act.put, List.getElem_toArray, List.getElem_cons_succ, List.getElem_cons_zero, List.setIfInBounds_toArray, List.set_cons_zero, List.set_cons_succ]
    refine wpAnyH_take (i := 18) (v := .string k) rfl (by kernel_rfl) (by kernel_rfl) (by kernel_rfl) (fun _ _ _ h => h) (Or.inl ⟨by rfl, ?_⟩) (by assumption) ?_
    · (intro wq hSw; obtain ⟨-, a1, a2, -, -⟩ := hSw.out.2.1; obtain ⟨-, b1, b2, -, -⟩ := hSw.out.2.2.1; clear hSw; go_simp)
    try simp only [Act.put, List.getElem_toArray, List.getElem_cons_succ, List.getElem_cons_zero, List.setIfInBounds_toArray, List.set_cons_zero, List.set_cons_succ]
    refine wpAnyH_ready (rs := [4, 21]) (by kernel_rfl) (by simp) ?_
    refine AllReadyH.cons rfl (fun K hK => ?_) ?_
    · have hH := hHeld
      clear hHeld
      go_simp
      (with_reducible refine ((CM1 _ (K0.bel hH.out)).out).mono ?_)
      rintro e wn ⟨v, rfl, hp, hb⟩
      obtain ⟨nu, de, rfl, hq1, hq2, -⟩ := id hp
      obtain ⟨an1, ln1, cn1, rfl⟩ := isnat_form hq1
      obtain ⟨ad1, ld1, cd1, rfl⟩ := isnat_form hq2
      clear hq1 hq2
      have hlt := hH.out.2.2.2.2.1
      have R1 := Lib.hid (hp.low (show w.heap.size + 1 + 1 + 1 + 1 ≤ _ from hlt))
      go_simp
      refine hK.out _ _ ?_ (fun hHeld => ?_)
      · exact Lib.hid (hH.out.step hb)
      clear hK K hH hb hp hlt
      try simp only [Act.put, List.getElem_toArray, List.getElem_cons_succ, List.getElem_cons_zero, List.setIfInBounds_toArray, List.set_cons_zero, List.set_cons_succ]
      refine wpAnyH_ready (rs := [9, 21]) (by kernel_rfl) (by simp) ?_
      refine AllReadyH.cons rfl (fun K hK => ?_) ?_
      · have hH := hHeld
        clear hHeld
        go_simp
        (with_reducible refine ((CM2 _ (K0.bel hH.out)).out).mono ?_)
        rintro e wn ⟨v, rfl, hp, hb⟩
        obtain ⟨nu, de, rfl, hq1, hq2, -⟩ := id hp
        obtain ⟨an2, ln2, cn2, rfl⟩ := isnat_form hq1
        obtain ⟨ad2, ld2, cd2, rfl⟩ := isnat_form hq2
        clear hq1 hq2
        have hlt := hH.out.2.2.2.2.1
        have R2 := Lib.hid (hp.low (show w.heap.size + 1 + 1 + 1 + 1 ≤ _ from hlt))
        have R1 := Lib.hid (R1.out.step hb)
        go_simp
        refine hK.out _ _ ?_ (fun hHeld => ?_)
        · exact Lib.hid (hH.out.step hb)
        clear hK K hH hb hp hlt
        try simp only [Act.put, List.getElem_toArray, List.getElem_cons_succ, List.getElem_cons_zero, List.setIfInBounds_toArray, List.set_cons_zero, List.set_cons_succ]
        refine wpAnyH_ready (rs := [14, 21]) (by kernel_rfl) (by simp) ?_
        refine AllReadyH.cons rfl (fun K hK => ?_) ?_
        · have hH := hHeld
          clear hHeld
          go_simp
          (with_reducible refine ((CM3 _ (K0.bel hH.out)).out).mono ?_)
          rintro e wn ⟨v, rfl, hp, hb⟩
          obtain ⟨nu, de, rfl, hq1, hq2, -⟩ := id hp
          obtain ⟨an3, ln3, cn3, rfl⟩ := isnat_form hq1
          obtain ⟨ad3, ld3, cd3, rfl⟩ := isnat_form hq2
          clear hq1 hq2
          have hlt := hH.out.2.2.2.2.1
          have R3 := Lib.hid (hp.low (show w.heap.size + 1 + 1 + 1 + 1 ≤ _ from hlt))
          have R1 := Lib.hid (R1.out.step hb)
          have R2 := Lib.hid (R2.out.step hb)
          go_simp
          refine hK.out _ _ ?_ (fun hHeld => ?_)
          · exact Lib.hid (hH.out.step hb)
          clear hK K hH hb hp hlt
          try simp only [Act.put, List.getElem_toArray, List.getElem_cons_succ, List.getElem_cons_zero, List.setIfInBounds_toArray, List.set_cons_zero, List.set_cons_succ]
          refine wpAnyH_ready (rs := [19, 21]) (by kernel_rfl) (by simp) ?_
          refine AllReadyH.cons rfl (fun K hK => ?_) ?_
          · have hH := hHeld
            clear hHeld
            go_simp
            (with_reducible refine ((CM4 _ (K0.bel hH.out)).out).mono ?_)
            rintro e wn ⟨v, rfl, hp, hb⟩
            obtain ⟨nu, de, rfl, hq1, hq2, -⟩ := id hp
            obtain ⟨an4, ln4, cn4, rfl⟩ := isnat_form hq1
            obtain ⟨ad4, ld4, cd4, rfl⟩ := isnat_form hq2
            clear hq1 hq2
            have hlt := hH.out.2.2.2.2.1
            have R4 := Lib.hid (hp.low (show w.heap.size + 1 + 1 + 1 + 1 ≤ _ from hlt))
            have R1 := Lib.hid (R1.out.step hb)
            have R2 := Lib.hid (R2.out.step hb)
            have R3 := Lib.hid (R3.out.step hb)
            go_simp
            refine hK.out _ _ ?_ (fun hHeld => ?_)
            · exact Lib.hid (hH.out.step hb)
            clear hK K hH hb hp hlt
            try simp only [Act.put, List.getElem_toArray, List.getElem_cons_succ, List.getElem_cons_zero, List.setIfInBounds_toArray, List.set_cons_zero, List.set_cons_succ]
            refine wpAnyH_take (i := 20) (v := ?_) rfl (by kernel_rfl) (by kernel_rfl) (by kernel_rfl) (fun _ _ _ h => h) (Or.inl ⟨by rfl, ?_⟩) (by assumption) ?_
            rotate_left 1
            · (intro wq hSw; clear hSw; go_simp; (try with_reducible rfl))
            try simp only [Act.put, List.getElem_toArray, List.getElem_cons_succ, List.getElem_cons_zero, List.setIfInBounds_toArray, List.set_cons_zero, List.set_cons_succ]
            refine wpAnyH_ready (rs := [21]) (by kernel_rfl) (by simp) ?_
            refine AllReadyH.cons rfl (fun K hK => ?_) AllReadyH.nil
            have hH := hHeld
            clear hHeld
            go_simp
            have AZ := Lib.hid (free20_new wn #[.string ⟨#[]⟩, .string ⟨#[]⟩, .int .i64 0, .slice none 0 0, .slice none 0 0, .string ⟨#[]⟩, .string ⟨#[]⟩, .int .i64 0, .slice none 0 0, .slice none 0 0, .string ⟨#[]⟩, .string ⟨#[]⟩, .int .i64 0, .slice none 0 0, .slice none 0 0, .string ⟨#[]⟩, .string ⟨#[]⟩, .int .i64 0, .slice none 0 0, .slice none 0 0] rfl 126)
            have GB : w.heap.size + 1 + 1 + 1 < wn.heap.size := hH.out.2.2.2.2.1
            have R1 := Lib.hid (R1.out.step ((Below.refl _ _).alloc (Nat.le_refl _) (.cells #[.string ⟨#[]⟩, .string ⟨#[]⟩, .int .i64 0, .slice none 0 0, .slice none 0 0, .string ⟨#[]⟩, .string ⟨#[]⟩, .int .i64 0, .slice none 0 0, .slice none 0 0, .string ⟨#[]⟩, .string ⟨#[]⟩, .int .i64 0, .slice none 0 0, .slice none 0 0, .string ⟨#[]⟩, .string ⟨#[]⟩, .int .i64 0, .slice none 0 0, .slice none 0 0] 126)))
            have R2 := Lib.hid (R2.out.step ((Below.refl _ _).alloc (Nat.le_refl _) (.cells #[.string ⟨#[]⟩, .string ⟨#[]⟩, .int .i64 0, .slice none 0 0, .slice none 0 0, .string ⟨#[]⟩, .string ⟨#[]⟩, .int .i64 0, .slice none 0 0, .slice none 0 0, .string ⟨#[]⟩, .string ⟨#[]⟩, .int .i64 0, .slice none 0 0, .slice none 0 0, .string ⟨#[]⟩, .string ⟨#[]⟩, .int .i64 0, .slice none 0 0, .slice none 0 0] 126)))
            have R3 := Lib.hid (R3.out.step ((Below.refl _ _).alloc (Nat.le_refl _) (.cells #[.string ⟨#[]⟩, .string ⟨#[]⟩, .int .i64 0, .slice none 0 0, .slice none 0 0, .string ⟨#[]⟩, .string ⟨#[]⟩, .int .i64 0, .slice none 0 0, .slice none 0 0, .string ⟨#[]⟩, .string ⟨#[]⟩, .int .i64 0, .slice none 0 0, .slice none 0 0, .string ⟨#[]⟩, .string ⟨#[]⟩, .int .i64 0, .slice none 0 0, .slice none 0 0] 126)))
            have R4 := Lib.hid (R4.out.step ((Below.refl _ _).alloc (Nat.le_refl _) (.cells #[.string ⟨#[]⟩, .string ⟨#[]⟩, .int .i64 0, .slice none 0 0, .slice none 0 0, .string ⟨#[]⟩, .string ⟨#[]⟩, .int .i64 0, .slice none 0 0, .slice none 0 0, .string ⟨#[]⟩, .string ⟨#[]⟩, .int .i64 0, .slice none 0 0, .slice none 0 0, .string ⟨#[]⟩, .string ⟨#[]⟩, .int .i64 0, .slice none 0 0, .slice none 0 0] 126)))
            refine hK.out _ _ ?_ (fun hHeld => ?_)
            · exact Lib.hid (hH.out.step ((Below.refl _ _).alloc (Nat.le_refl _) (.cells #[.string ⟨#[]⟩, .string ⟨#[]⟩, .int .i64 0, .slice none 0 0, .slice none 0 0, .string ⟨#[]⟩, .string ⟨#[]⟩, .int .i64 0, .slice none 0 0, .slice none 0 0, .string ⟨#[]⟩, .string ⟨#[]⟩, .int .i64 0, .slice none 0 0, .slice none 0 0, .string ⟨#[]⟩, .string ⟨#[]⟩, .int .i64 0, .slice none 0 0, .slice none 0 0] 126)))
            clear hK K hH
            try simp only [Act.put, List.getElem_toArray, List.getElem_cons_succ, List.getElem_cons_zero, List.setIfInBounds_toArray, List.set_cons_zero, List.set_cons_succ]
            refine wpAnyH_ready (rs := [22]) (by kernel_rfl) (by simp) ?_
            refine AllReadyH.cons rfl (fun K hK => ?_) AllReadyH.nil
            have hH := hHeld
            clear hHeld
            rw [if_pos (by rfl)]
            refine wp_store_mid 126 _ _ rfl _ 0 #[.string l, .string m, .int .i64 (Fr.sgnQ (Fr.rat l.data.toList) * Fr.sgnQ (Fr.rat m.data.toList)), .slice an1 ln1 cn1, .slice ad1 ld1 cd1, .string l, .string k, .int .i64 (Fr.sgnQ (Fr.rat l.data.toList) * Fr.sgnQ (Fr.rat k.data.toList)), .slice an2 ln2 cn2, .slice ad2 ld2 cd2, .string h, .string m, .int .i64 (Fr.sgnQ (Fr.rat h.data.toList) * Fr.sgnQ (Fr.rat m.data.toList)), .slice an3 ln3 cn3, .slice ad3 ld3 cd3, .string h, .string k, .int .i64 (Fr.sgnQ (Fr.rat h.data.toList) * Fr.sgnQ (Fr.rat k.data.toList)), .slice an4 ln4 cn4, .slice ad4 ld4 cd4] rfl rfl AZ.out.there (by kernel_rfl) (by simp [Value.oneCell']) ?_
            refine hK.out _ _ ?_ (fun hHeld => ?_)
            · exact Lib.hid (hH.out.far GB _)
            clear hK K hHeld
            try simp only [Act.put, List.getElem_toArray, List.setIfInBounds_toArray]
            refine wpAnyH_done (by kernel_rfl) ?_ _
            refine NoPanic.normal ?_
            go_wp2_with fail
            go_meet
            exact ⟨_, rfl, Lib.hid (four_mk hH.out AZ.out GB R1.out R2.out R3.out R4.out)⟩
          · refine AllReadyH.cons rfl (fun K hK => ?_) AllReadyH.nil
            have hH := hHeld
            clear hHeld
            go_simp
            have AZ := Lib.hid (free20_new wn #[.string ⟨#[]⟩, .string ⟨#[]⟩, .int .i64 0, .slice none 0 0, .slice none 0 0, .string ⟨#[]⟩, .string ⟨#[]⟩, .int .i64 0, .slice none 0 0, .slice none 0 0, .string ⟨#[]⟩, .string ⟨#[]⟩, .int .i64 0, .slice none 0 0, .slice none 0 0, .string ⟨#[]⟩, .string ⟨#[]⟩, .int .i64 0, .slice none 0 0, .slice none 0 0] rfl 126)
            have GB : w.heap.size + 1 + 1 + 1 < wn.heap.size := hH.out.2.2.2.2.1
            have R1 := Lib.hid (R1.out.step ((Below.refl _ _).alloc (Nat.le_refl _) (.cells #[.string ⟨#[]⟩, .string ⟨#[]⟩, .int .i64 0, .slice none 0 0, .slice none 0 0, .string ⟨#[]⟩, .string ⟨#[]⟩, .int .i64 0, .slice none 0 0, .slice none 0 0, .string ⟨#[]⟩, .string ⟨#[]⟩, .int .i64 0, .slice none 0 0, .slice none 0 0, .string ⟨#[]⟩, .string ⟨#[]⟩, .int .i64 0, .slice none 0 0, .slice none 0 0] 126)))
            have R2 := Lib.hid (R2.out.step ((Below.refl _ _).alloc (Nat.le_refl _) (.cells #[.string ⟨#[]⟩, .string ⟨#[]⟩, .int .i64 0, .slice none 0 0, .slice none 0 0, .string ⟨#[]⟩, .string ⟨#[]⟩, .int .i64 0, .slice none 0 0, .slice none 0 0, .string ⟨#[]⟩, .string ⟨#[]⟩, .int .i64 0, .slice none 0 0, .slice none 0 0, .string ⟨#[]⟩, .string ⟨#[]⟩, .int .i64 0, .slice none 0 0, .slice none 0 0] 126)))
            have R3 := Lib.hid (R3.out.step ((Below.refl _ _).alloc (Nat.le_refl _) (.cells #[.string ⟨#[]⟩, .string ⟨#[]⟩, .int .i64 0, .slice none 0 0, .slice none 0 0, .string ⟨#[]⟩, .string ⟨#[]⟩, .int .i64 0, .slice none 0 0, .slice none 0 0, .string ⟨#[]⟩, .string ⟨#[]⟩, .int .i64 0, .slice none 0 0, .slice none 0 0, .string ⟨#[]⟩, .string ⟨#[]⟩, .int .i64 0, .slice none 0 0, .slice none 0 0] 126)))
            refine hK.out _ _ ?_ (fun hHeld => ?_)
            · exact Lib.hid (hH.out.step ((Below.refl _ _).alloc (Nat.le_refl _) (.cells #[.string ⟨#[]⟩, .string ⟨#[]⟩, .int .i64 0, .slice none 0 0, .slice none 0 0, .string ⟨#[]⟩, .string ⟨#[]⟩, .int .i64 0, .slice none 0 0, .slice none 0 0, .string ⟨#[]⟩, .string ⟨#[]⟩, .int .i64 0, .slice none 0 0, .slice none 0 0, .string ⟨#[]⟩, .string ⟨#[]⟩, .int .i64 0, .slice none 0 0, .slice none 0 0] 126)))
            clear hK K hH
            try simp only [Act.put, List.getElem_toArray, List.getElem_cons_succ, List.getElem_cons_zero, List.setIfInBounds_toArray, List.set_cons_zero, List.set_cons_succ]
            refine wpAnyH_ready (rs := [19]) (by kernel_rfl) (by simp) ?_
            refine AllReadyH.cons rfl (fun K hK => ?_) AllReadyH.nil
            have hH := hHeld
            clear hHeld
            go_simp
            (with_reducible refine ((CM4 _ (K0.bel hH.out)).out).mono ?_)
            rintro e wn ⟨v, rfl, hp, hb⟩
            obtain ⟨nu, de, rfl, hq1, hq2, -⟩ := id hp
            obtain ⟨an4, ln4, cn4, rfl⟩ := isnat_form hq1
            obtain ⟨ad4, ld4, cd4, rfl⟩ := isnat_form hq2
            clear hq1 hq2
            have hlt := hH.out.2.2.2.2.1
            have R4 := Lib.hid (hp.low (show w.heap.size + 1 + 1 + 1 + 1 ≤ _ from hlt))
            have R1 := Lib.hid (R1.out.step hb)
            have R2 := Lib.hid (R2.out.step hb)
            have R3 := Lib.hid (R3.out.step hb)
            have AZ := Lib.hid (AZ.out.step hb)
            go_simp
            refine hK.out _ _ ?_ (fun hHeld => ?_)
            · exact Lib.hid (hH.out.step hb)
            clear hK K hH hb hp hlt
            try simp only [Act.put, List.getElem_toArray, List.getElem_cons_succ, List.getElem_cons_zero, List.setIfInBounds_toArray, List.set_cons_zero, List.set_cons_succ]
            refine wpAnyH_take (i := 20) (v := ?_) rfl (by kernel_rfl) (by kernel_rfl) (by kernel_rfl) (fun _ _ _ h => h) (Or.inl ⟨by rfl, ?_⟩) (by assumption) ?_
            rotate_left 1
            · (intro wq hSw; clear hSw; go_simp; (try with_reducible rfl))
            try simp only [Act.put, List.getElem_toArray, List.getElem_cons_succ, List.getElem_cons_zero, List.setIfInBounds_toArray, List.set_cons_zero, List.set_cons_succ]
            refine wpAnyH_ready (rs := [22]) (by kernel_rfl) (by simp) ?_
            refine AllReadyH.cons rfl (fun K hK => ?_) AllReadyH.nil
            have hH := hHeld
            clear hHeld
            rw [if_pos (by rfl)]
            refine wp_store_mid 126 _ _ rfl _ 0 #[.string l, .string m, .int .i64 (Fr.sgnQ (Fr.rat l.data.toList) * Fr.sgnQ (Fr.rat m.data.toList)), .slice an1 ln1 cn1, .slice ad1 ld1 cd1, .string l, .string k, .int .i64 (Fr.sgnQ (Fr.rat l.data.toList) * Fr.sgnQ (Fr.rat k.data.toList)), .slice an2 ln2 cn2, .slice ad2 ld2 cd2, .string h, .string m, .int .i64 (Fr.sgnQ (Fr.rat h.data.toList) * Fr.sgnQ (Fr.rat m.data.toList)), .slice an3 ln3 cn3, .slice ad3 ld3 cd3, .string h, .string k, .int .i64 (Fr.sgnQ (Fr.rat h.data.toList) * Fr.sgnQ (Fr.rat k.data.toList)), .slice an4 ln4 cn4, .slice ad4 ld4 cd4] rfl rfl AZ.out.there (by kernel_rfl) (by simp [Value.oneCell']) ?_
            refine hK.out _ _ ?_ (fun hHeld => ?_)
            · exact Lib.hid (hH.out.far GB _)
            clear hK K hHeld
            try simp only [Act.put, List.getElem_toArray, List.setIfInBounds_toArray]
            refine wpAnyH_done (by kernel_rfl) ?_ _
            refine NoPanic.normal ?_
            go_wp2_with fail
            go_meet
            exact ⟨_, rfl, Lib.hid (four_mk hH.out AZ.out GB R1.out R2.out R3.out R4.out)⟩
        · refine AllReadyH.cons rfl (fun K hK => ?_) AllReadyH.nil
          have hH := hHeld
          clear hHeld
          go_simp
          have AZ := Lib.hid (free20_new wn #[.string ⟨#[]⟩, .string ⟨#[]⟩, .int .i64 0, .slice none 0 0, .slice none 0 0, .string ⟨#[]⟩, .string ⟨#[]⟩, .int .i64 0, .slice none 0 0, .slice none 0 0, .string ⟨#[]⟩, .string ⟨#[]⟩, .int .i64 0, .slice none 0 0, .slice none 0 0, .string ⟨#[]⟩, .string ⟨#[]⟩, .int .i64 0, .slice none 0 0, .slice none 0 0] rfl 126)
          have GB : w.heap.size + 1 + 1 + 1 < wn.heap.size := hH.out.2.2.2.2.1
          have R1 := Lib.hid (R1.out.step ((Below.refl _ _).alloc (Nat.le_refl _) (.cells #[.string ⟨#[]⟩, .string ⟨#[]⟩, .int .i64 0, .slice none 0 0, .slice none 0 0, .string ⟨#[]⟩, .string ⟨#[]⟩, .int .i64 0, .slice none 0 0, .slice none 0 0, .string ⟨#[]⟩, .string ⟨#[]⟩, .int .i64 0, .slice none 0 0, .slice none 0 0, .string ⟨#[]⟩, .string ⟨#[]⟩, .int .i64 0, .slice none 0 0, .slice none 0 0] 126)))
          have R2 := Lib.hid (R2.out.step ((Below.refl _ _).alloc (Nat.le_refl _) (.cells #[.string ⟨#[]⟩, .string ⟨#[]⟩, .int .i64 0, .slice none 0 0, .slice none 0 0, .string ⟨#[]⟩, .string ⟨#[]⟩, .int .i64 0, .slice none 0 0, .slice none 0 0, .string ⟨#[]⟩, .string ⟨#[]⟩, .int .i64 0, .slice none 0 0, .slice none 0 0, .string ⟨#[]⟩, .string ⟨#[]⟩, .int .i64 0, .slice none 0 0, .slice none 0 0] 126)))
          refine hK.out _ _ ?_ (fun hHeld => ?_)
          · exact Lib.hid (hH.out.step ((Below.refl _ _).alloc (Nat.le_refl _) (.cells #[.string ⟨#[]⟩, .string ⟨#[]⟩, .int .i64 0, .slice none 0 0, .slice none 0 0, .string ⟨#[]⟩, .string ⟨#[]⟩, .int .i64 0, .slice none 0 0, .slice none 0 0, .string ⟨#[]⟩, .string ⟨#[]⟩, .int .i64 0, .slice none 0 0, .slice none 0 0, .string ⟨#[]⟩, .string ⟨#[]⟩, .int .i64 0, .slice none 0 0, .slice none 0 0] 126)))
          clear hK K hH
          try simp only [Act.put, List.getElem_toArray, List.getElem_cons_succ, List.getElem_cons_zero, List.setIfInBounds_toArray, List.set_cons_zero, List.set_cons_succ]
          refine wpAnyH_ready (rs := [14]) (by kernel_rfl) (by simp) ?_
          refine AllReadyH.cons rfl (fun K hK => ?_) AllReadyH.nil
          have hH := hHeld
          clear hHeld
          go_simp
          (with_reducible refine ((CM3 _ (K0.bel hH.out)).out).mono ?_)
          rintro e wn ⟨v, rfl, hp, hb⟩
          obtain ⟨nu, de, rfl, hq1, hq2, -⟩ := id hp
          obtain ⟨an3, ln3, cn3, rfl⟩ := isnat_form hq1
          obtain ⟨ad3, ld3, cd3, rfl⟩ := isnat_form hq2
          clear hq1 hq2
          have hlt := hH.out.2.2.2.2.1
          have R3 := Lib.hid (hp.low (show w.heap.size + 1 + 1 + 1 + 1 ≤ _ from hlt))
          have R1 := Lib.hid (R1.out.step hb)
          have R2 := Lib.hid (R2.out.step hb)
          have AZ := Lib.hid (AZ.out.step hb)
          go_simp
          refine hK.out _ _ ?_ (fun hHeld => ?_)
          · exact Lib.hid (hH.out.step hb)
          clear hK K hH hb hp hlt
          try simp only [Act.put, List.getElem_toArray, List.getElem_cons_succ, List.getElem_cons_zero, List.setIfInBounds_toArray, List.set_cons_zero, List.set_cons_succ]
          refine wpAnyH_ready (rs := [19]) (by kernel_rfl) (by simp) ?_
          refine AllReadyH.cons rfl (fun K hK => ?_) AllReadyH.nil
          have hH := hHeld
          clear hHeld
          go_simp
          (with_reducible refine ((CM4 _ (K0.bel hH.out)).out).mono ?_)
          rintro e wn ⟨v, rfl, hp, hb⟩
          obtain ⟨nu, de, rfl, hq1, hq2, -⟩ := id hp
          obtain ⟨an4, ln4, cn4, rfl⟩ := isnat_form hq1
          obtain ⟨ad4, ld4, cd4, rfl⟩ := isnat_form hq2
          clear hq1 hq2
          have hlt := hH.out.2.2.2.2.1
          have R4 := Lib.hid (hp.low (show w.heap.size + 1 + 1 + 1 + 1 ≤ _ from hlt))
          have R1 := Lib.hid (R1.out.step hb)
          have R2 := Lib.hid (R2.out.step hb)
          have R3 := Lib.hid (R3.out.step hb)
          have AZ := Lib.hid (AZ.out.step hb)
          go_simp
          refine hK.out _ _ ?_ (fun hHeld => ?_)
          · exact Lib.hid (hH.out.step hb)
          clear hK K hH hb hp hlt
          try simp only [Act.put, List.getElem_toArray, List.getElem_cons_succ, List.getElem_cons_zero, List.setIfInBounds_toArray, List.set_cons_zero, List.set_cons_succ]
          refine wpAnyH_take (i := 20) (v := ?_) rfl (by kernel_rfl) (by kernel_rfl) (by kernel_rfl) (fun _ _ _ h => h) (Or.inl ⟨by rfl, ?_⟩) (by assumption) ?_
          rotate_left 1
          · (intro wq hSw; clear hSw; go_simp; (try with_reducible rfl))
          try simp only [Act.put, List.getElem_toArray, List.getElem_cons_succ, List.getElem_cons_zero, List.setIfInBounds_toArray, List.set_cons_zero, List.set_cons_succ]
          refine wpAnyH_ready (rs := [22]) (by kernel_rfl) (by simp) ?_
          refine AllReadyH.cons rfl (fun K hK => ?_) AllReadyH.nil
          have hH := hHeld
          clear hHeld
          rw [if_pos (by rfl)]
          refine wp_store_mid 126 _ _ rfl _ 0 #[.string l, .string m, .int .i64 (Fr.sgnQ (Fr.rat l.data.toList) * Fr.sgnQ (Fr.rat m.data.toList)), .slice an1 ln1 cn1, .slice ad1 ld1 cd1, .string l, .string k, .int .i64 (Fr.sgnQ (Fr.rat l.data.toList) * Fr.sgnQ (Fr.rat k.data.toList)), .slice an2 ln2 cn2, .slice ad2 ld2 cd2, .string h, .string m, .int .i64 (Fr.sgnQ (Fr.rat h.data.toList) * Fr.sgnQ (Fr.rat m.data.toList)), .slice an3 ln3 cn3, .slice ad3 ld3 cd3, .string h, .string k, .int .i64 (Fr.sgnQ (Fr.rat h.data.toList) * Fr.sgnQ (Fr.rat k.data.toList)), .slice an4 ln4 cn4, .slice ad4 ld4 cd4] rfl rfl AZ.out.there (by kernel_rfl) (by simp [Value.oneCell']) ?_
          refine hK.out _ _ ?_ (fun hHeld => ?_)
          · exact Lib.hid (hH.out.far GB _)
          clear hK K hHeld
          try simp only [Act.put, List.getElem_toArray, List.setIfInBounds_toArray]
          refine wpAnyH_done (by kernel_rfl) ?_ _
          refine NoPanic.normal ?_
          go_wp2_with fail
          go_meet
          exact ⟨_, rfl, Lib.hid (four_mk hH.out AZ.out GB R1.out R2.out R3.out R4.out)⟩
      · refine AllReadyH.cons rfl (fun K hK => ?_) AllReadyH.nil
        have hH := hHeld
        clear hHeld
        go_simp
        have AZ := Lib.hid (free20_new wn #[.string ⟨#[]⟩, .string ⟨#[]⟩, .int .i64 0, .slice none 0 0, .slice none 0 0, .string ⟨#[]⟩, .string ⟨#[]⟩, .int .i64 0, .slice none 0 0, .slice none 0 0, .string ⟨#[]⟩, .string ⟨#[]⟩, .int .i64 0, .slice none 0 0, .slice none 0 0, .string ⟨#[]⟩, .string ⟨#[]⟩, .int .i64 0, .slice none 0 0, .slice none 0 0] rfl 126)
        have GB : w.heap.size + 1 + 1 + 1 < wn.heap.size := hH.out.2.2.2.2.1
        have R1 := Lib.hid (R1.out.step ((Below.refl _ _).alloc (Nat.le_refl _) (.cells #[.string ⟨#[]⟩, .string ⟨#[]⟩, .int .i64 0, .slice none 0 0, .slice none 0 0, .string ⟨#[]⟩, .string ⟨#[]⟩, .int .i64 0, .slice none 0 0, .slice none 0 0, .string ⟨#[]⟩, .string ⟨#[]⟩, .int .i64 0, .slice none 0 0, .slice none 0 0, .string ⟨#[]⟩, .string ⟨#[]⟩, .int .i64 0, .slice none 0 0, .slice none 0 0] 126)))
        refine hK.out _ _ ?_ (fun hHeld => ?_)
        · exact Lib.hid (hH.out.step ((Below.refl _ _).alloc (Nat.le_refl _) (.cells #[.string ⟨#[]⟩, .string ⟨#[]⟩, .int .i64 0, .slice none 0 0, .slice none 0 0, .string ⟨#[]⟩, .string ⟨#[]⟩, .int .i64 0, .slice none 0 0, .slice none 0 0, .string ⟨#[]⟩, .string ⟨#[]⟩, .int .i64 0, .slice none 0 0, .slice none 0 0, .string ⟨#[]⟩, .string ⟨#[]⟩, .int .i64 0, .slice none 0 0, .slice none 0 0] 126)))
        clear hK K hH
        try simp only [Act.put, List.getElem_toArray, List.getElem_cons_succ, List.getElem_cons_zero, List.setIfInBounds_toArray, List.set_cons_zero, List.set_cons_succ]
        refine wpAnyH_ready (rs := [9]) (by kernel_rfl) (by simp) ?_
        refine AllReadyH.cons rfl (fun K hK => ?_) AllReadyH.nil
        have hH := hHeld
        clear hHeld
        go_simp
        (with_reducible refine ((CM2 _ (K0.bel hH.out)).out).mono ?_)
        rintro e wn ⟨v, rfl, hp, hb⟩
        obtain ⟨nu, de, rfl, hq1, hq2, -⟩ := id hp
        obtain ⟨an2, ln2, cn2, rfl⟩ := isnat_form hq1
        obtain ⟨ad2, ld2, cd2, rfl⟩ := isnat_form hq2
        clear hq1 hq2
        have hlt := hH.out.2.2.2.2.1
        have R2 := Lib.hid (hp.low (show w.heap.size + 1 + 1 + 1 + 1 ≤ _ from hlt))
        have R1 := Lib.hid (R1.out.step hb)
        have AZ := Lib.hid (AZ.out.step hb)
        go_simp
        refine hK.out _ _ ?_ (fun hHeld => ?_)
        · exact Lib.hid (hH.out.step hb)
        clear hK K hH hb hp hlt
        try simp only [Act.put, List.getElem_toArray, List.getElem_cons_succ, List.getElem_cons_zero, List.setIfInBounds_toArray, List.set_cons_zero, List.set_cons_succ]
        refine wpAnyH_ready (rs := [14]) (by kernel_rfl) (by simp) ?_
        refine AllReadyH.cons rfl (fun K hK => ?_) AllReadyH.nil
        have hH := hHeld
        clear hHeld
        go_simp
        (with_reducible refine ((CM3 _ (K0.bel hH.out)).out).mono ?_)
        rintro e wn ⟨v, rfl, hp, hb⟩
        obtain ⟨nu, de, rfl, hq1, hq2, -⟩ := id hp
        obtain ⟨an3, ln3, cn3, rfl⟩ := isnat_form hq1
        obtain ⟨ad3, ld3, cd3, rfl⟩ := isnat_form hq2
        clear hq1 hq2
        have hlt := hH.out.2.2.2.2.1
        have R3 := Lib.hid (hp.low (show w.heap.size + 1 + 1 + 1 + 1 ≤ _ from hlt))
        have R1 := Lib.hid (R1.out.step hb)
        have R2 := Lib.hid (R2.out.step hb)
        have AZ := Lib.hid (AZ.out.step hb)
        go_simp
        refine hK.out _ _ ?_ (fun hHeld => ?_)
        · exact Lib.hid (hH.out.step hb)
        clear hK K hH hb hp hlt
        try simp only [Act.put, List.getElem_toArray, List.getElem_cons_succ, List.getElem_cons_zero, List.setIfInBounds_toArray, List.set_cons_zero, List.set_cons_succ]
        refine wpAnyH_ready (rs := [19]) (by kernel_rfl) (by simp) ?_
        refine AllReadyH.cons rfl (fun K hK => ?_) AllReadyH.nil
        have hH := hHeld
        clear hHeld
        go_simp
        (with_reducible refine ((CM4 _ (K0.bel hH.out)).out).mono ?_)
        rintro e wn ⟨v, rfl, hp, hb⟩
        obtain ⟨nu, de, rfl, hq1, hq2, -⟩ := id hp
        obtain ⟨an4, ln4, cn4, rfl⟩ := isnat_form hq1
        obtain ⟨ad4, ld4, cd4, rfl⟩ := isnat_form hq2
        clear hq1 hq2
        have hlt := hH.out.2.2.2.2.1
        have R4 := Lib.hid (hp.low (show w.heap.size + 1 + 1 + 1 + 1 ≤ _ from hlt))
        have R1 := Lib.hid (R1.out.step hb)
        have R2 := Lib.hid (R2.out.step hb)
        have R3 := Lib.hid (R3.out.step hb)
        have AZ := Lib.hid (AZ.out.step hb)
        go_simp
        refine hK.out _ _ ?_ (fun hHeld => ?_)
        · exact Lib.hid (hH.out.step hb)
        clear hK K hH hb hp hlt
        try simp only [Act.put, List.getElem_toArray, List.getElem_cons_succ, List.getElem_cons_zero, List.setIfInBounds_toArray, List.set_cons_zero, List.set_cons_succ]
        refine wpAnyH_take (i := 20) (v := ?_) rfl (by kernel_rfl) (by kernel_rfl) (by kernel_rfl) (fun _ _ _ h => h) (Or.inl ⟨by rfl, ?_⟩) (by assumption) ?_
        rotate_left 1
        · (intro wq hSw; clear hSw; go_simp; (try with_reducible rfl))
        try simp only [Act.put, List.getElem_toArray, List.getElem_cons_succ, List.getElem_cons_zero, List.setIfInBounds_toArray, List.set_cons_zero, List.set_cons_succ]
        refine wpAnyH_ready (rs := [22]) (by kernel_rfl) (by simp) ?_
        refine AllReadyH.cons rfl (fun K hK => ?_) AllReadyH.nil
        have hH := hHeld
        clear hHeld
        rw [if_pos (by rfl)]
        refine wp_store_mid 126 _ _ rfl _ 0 #[.string l, .string m, .int .i64 (Fr.sgnQ (Fr.rat l.data.toList) * Fr.sgnQ (Fr.rat m.data.toList)), .slice an1 ln1 cn1, .slice ad1 ld1 cd1, .string l, .string k, .int .i64 (Fr.sgnQ (Fr.rat l.data.toList) * Fr.sgnQ (Fr.rat k.data.toList)), .slice an2 ln2 cn2, .slice ad2 ld2 cd2, .string h, .string m, .int .i64 (Fr.sgnQ (Fr.rat h.data.toList) * Fr.sgnQ (Fr.rat m.data.toList)), .slice an3 ln3 cn3, .slice ad3 ld3 cd3, .string h, .string k, .int .i64 (Fr.sgnQ (Fr.rat h.data.toList) * Fr.sgnQ (Fr.rat k.data.toList)), .slice an4 ln4 cn4, .slice ad4 ld4 cd4] rfl rfl AZ.out.there (by kernel_rfl) (by simp [Value.oneCell']) ?_
        refine hK.out _ _ ?_ (fun hHeld => ?_)
        · exact Lib.hid (hH.out.far GB _)
        clear hK K hHeld
        try simp only [Act.put, List.getElem_toArray, List.setIfInBounds_toArray]
        refine wpAnyH_done (by kernel_rfl) ?_ _
        refine NoPanic.normal ?_
        go_wp2_with fail
        go_meet
        exact ⟨_, rfl, Lib.hid (four_mk hH.out AZ.out GB R1.out R2.out R3.out R4.out)⟩
    · refine AllReadyH.cons rfl (fun K hK => ?_) AllReadyH.nil
      have hH := hHeld
      clear hHeld
      go_simp
      have AZ := Lib.hid (free20_new Wd #[.string ⟨#[]⟩, .string ⟨#[]⟩, .int .i64 0, .slice none 0 0, .slice none 0 0, .string ⟨#[]⟩, .string ⟨#[]⟩, .int .i64 0, .slice none 0 0, .slice none 0 0, .string ⟨#[]⟩, .string ⟨#[]⟩, .int .i64 0, .slice none 0 0, .slice none 0 0, .string ⟨#[]⟩, .string ⟨#[]⟩, .int .i64 0, .slice none 0 0, .slice none 0 0] rfl 126)
      have GB : w.heap.size + 1 + 1 + 1 < Wd.heap.size := hH.out.2.2.2.2.1
      refine hK.out _ _ ?_ (fun hHeld => ?_)
      · exact Lib.hid (hH.out.step ((Below.refl _ _).alloc (Nat.le_refl _) (.cells #[.string ⟨#[]⟩, .string ⟨#[]⟩, .int .i64 0, .slice none 0 0, .slice none 0 0, .string ⟨#[]⟩, .string ⟨#[]⟩, .int .i64 0, .slice none 0 0, .slice none 0 0, .string ⟨#[]⟩, .string ⟨#[]⟩, .int .i64 0, .slice none 0 0, .slice none 0 0, .string ⟨#[]⟩, .string ⟨#[]⟩, .int .i64 0, .slice none 0 0, .slice none 0 0] 126)))
      clear hK K hH
      try simp only [Act.put, List.getElem_toArray, List.getElem_cons_succ, List.getElem_cons_zero, List.setIfInBounds_toArray, List.set_cons_zero, List.set_cons_succ]
      refine wpAnyH_ready (rs := [4]) (by kernel_rfl) (by simp) ?_
      refine AllReadyH.cons rfl (fun K hK => ?_) AllReadyH.nil
      have hH := hHeld
      clear hHeld
      go_simp
      (with_reducible refine ((CM1 _ (K0.bel hH.out)).out).mono ?_)
      rintro e wn ⟨v, rfl, hp, hb⟩
      obtain ⟨nu, de, rfl, hq1, hq2, -⟩ := id hp
      obtain ⟨an1, ln1, cn1, rfl⟩ := isnat_form hq1
      obtain ⟨ad1, ld1, cd1, rfl⟩ := isnat_form hq2
      clear hq1 hq2
      have hlt := hH.out.2.2.2.2.1
      have R1 := Lib.hid (hp.low (show w.heap.size + 1 + 1 + 1 + 1 ≤ _ from hlt))
      have AZ := Lib.hid (AZ.out.step hb)
      go_simp
      refine hK.out _ _ ?_ (fun hHeld => ?_)
      · exact Lib.hid (hH.out.step hb)
      clear hK K hH hb hp hlt
      try simp only [Act.put, List.getElem_toArray, List.getElem_cons_succ, List.getElem_cons_zero, List.setIfInBounds_toArray, List.set_cons_zero, List.set_cons_succ]
      refine wpAnyH_ready (rs := [9]) (by kernel_rfl) (by simp) ?_
      refine AllReadyH.cons rfl (fun K hK => ?_) AllReadyH.nil
      have hH := hHeld
      clear hHeld
      go_simp
      (with_reducible refine ((CM2 _ (K0.bel hH.out)).out).mono ?_)
      rintro e wn ⟨v, rfl, hp, hb⟩
      obtain ⟨nu, de, rfl, hq1, hq2, -⟩ := id hp
      obtain ⟨an2, ln2, cn2, rfl⟩ := isnat_form hq1
      obtain ⟨ad2, ld2, cd2, rfl⟩ := isnat_form hq2
      clear hq1 hq2
      have hlt := hH.out.2.2.2.2.1
      have R2 := Lib.hid (hp.low (show w.heap.size + 1 + 1 + 1 + 1 ≤ _ from hlt))
      have R1 := Lib.hid (R1.out.step hb)
      have AZ := Lib.hid (AZ.out.step hb)
      go_simp
      refine hK.out _ _ ?_ (fun hHeld => ?_)
      · exact Lib.hid (hH.out.step hb)
      clear hK K hH hb hp hlt
      try simp only [Act.put, List.getElem_toArray, List.getElem_cons_succ, List.getElem_cons_zero, List.setIfInBounds_toArray, List.set_cons_zero, List.set_cons_succ]
      refine wpAnyH_ready (rs := [14]) (by kernel_rfl) (by simp) ?_
      refine AllReadyH.cons rfl (fun K hK => ?_) AllReadyH.nil
      have hH := hHeld
      clear hHeld
      go_simp
      (with_reducible refine ((CM3 _ (K0.bel hH.out)).out).mono ?_)
      rintro e wn ⟨v, rfl, hp, hb⟩
      obtain ⟨nu, de, rfl, hq1, hq2, -⟩ := id hp
      obtain ⟨an3, ln3, cn3, rfl⟩ := isnat_form hq1
      obtain ⟨ad3, ld3, cd3, rfl⟩ := isnat_form hq2
      clear hq1 hq2
      have hlt := hH.out.2.2.2.2.1
      have R3 := Lib.hid (hp.low (show w.heap.size + 1 + 1 + 1 + 1 ≤ _ from hlt))
      have R1 := Lib.hid (R1.out.step hb)
      have R2 := Lib.hid (R2.out.step hb)
      have AZ := Lib.hid (AZ.out.step hb)
      go_simp
      refine hK.out _ _ ?_ (fun hHeld => ?_)
      · exact Lib.hid (hH.out.step hb)
      clear hK K hH hb hp hlt
      try simp only [Act.put, List.getElem_toArray, List.getElem_cons_succ, List.getElem_cons_zero, List.setIfInBounds_toArray, List.set_cons_zero, List.set_cons_succ]
      refine wpAnyH_ready (rs := [19]) (by kernel_rfl) (by simp) ?_
      refine AllReadyH.cons rfl (fun K hK => ?_) AllReadyH.nil
      have hH := hHeld
      clear hHeld
      go_simp
      (with_reducible refine ((CM4 _ (K0.bel hH.out)).out).mono ?_)
      rintro e wn ⟨v, rfl, hp, hb⟩
      obtain ⟨nu, de, rfl, hq1, hq2, -⟩ := id hp
      obtain ⟨an4, ln4, cn4, rfl⟩ := isnat_form hq1
      obtain ⟨ad4, ld4, cd4, rfl⟩ := isnat_form hq2
      clear hq1 hq2
      have hlt := hH.out.2.2.2.2.1
      have R4 := Lib.hid (hp.low (show w.heap.size + 1 + 1 + 1 + 1 ≤ _ from hlt))
      have R1 := Lib.hid (R1.out.step hb)
      have R2 := Lib.hid (R2.out.step hb)
      have R3 := Lib.hid (R3.out.step hb)
      have AZ := Lib.hid (AZ.out.step hb)
      go_simp
      refine hK.out _ _ ?_ (fun hHeld => ?_)
      · exact Lib.hid (hH.out.step hb)
      clear hK K hH hb hp hlt
      try simp only [Act.put, List.getElem_toArray, List.getElem_cons_succ, List.getElem_cons_zero, List.setIfInBounds_toArray, List.set_cons_zero, List.set_cons_succ]
      refine wpAnyH_take (i := 20) (v := ?_) rfl (by kernel_rfl) (by kernel_rfl) (by kernel_rfl) (fun _ _ _ h => h) (Or.inl ⟨by rfl, ?_⟩) (by assumption) ?_
      rotate_left 1
      · (intro wq hSw; clear hSw; go_simp; (try with_reducible rfl))
      try simp only [Act.put, List.getElem_toArray, List.getElem_cons_succ, List.getElem_cons_zero, List.setIfInBounds_toArray, List.set_cons_zero, List.set_cons_succ]
      refine wpAnyH_ready (rs := [22]) (by kernel_rfl) (by simp) ?_
      refine AllReadyH.cons rfl (fun K hK => ?_) AllReadyH.nil
      have hH := hHeld
      clear hHeld
      rw [if_pos (by rfl)]
      refine wp_store_mid 126 _ _ rfl _ 0 #[.string l, .string m, .int .i64 (Fr.sgnQ (Fr.rat l.data.toList) * Fr.sgnQ (Fr.rat m.data.toList)), .slice an1 ln1 cn1, .slice ad1 ld1 cd1, .string l, .string k, .int .i64 (Fr.sgnQ (Fr.rat l.data.toList) * Fr.sgnQ (Fr.rat k.data.toList)), .slice an2 ln2 cn2, .slice ad2 ld2 cd2, .string h, .string m, .int .i64 (Fr.sgnQ (Fr.rat h.data.toList) * Fr.sgnQ (Fr.rat m.data.toList)), .slice an3 ln3 cn3, .slice ad3 ld3 cd3, .string h, .string k, .int .i64 (Fr.sgnQ (Fr.rat h.data.toList) * Fr.sgnQ (Fr.rat k.data.toList)), .slice an4 ln4 cn4, .slice ad4 ld4 cd4] rfl rfl AZ.out.there (by kernel_rfl) (by simp [Value.oneCell']) ?_
      refine hK.out _ _ ?_ (fun hHeld => ?_)
      · exact Lib.hid (hH.out.far GB _)
      clear hK K hHeld
      try simp only [Act.put, List.getElem_toArray, List.setIfInBounds_toArray]
      refine wpAnyH_done (by kernel_rfl) ?_ _
      refine NoPanic.normal ?_
      go_wp2_with fail
      go_meet
      exact ⟨_, rfl, Lib.hid (four_mk hH.out AZ.out GB R1.out R2.out R3.out R4.out)⟩
  case rest =>
    obtain ⟨G, rfl, HF⟩ := hcut
    obtain ⟨hK, hG1, hG2, a1, b1, c1, a2, b2, c2, hP, hR⟩ := HF.out
    have hck : ∀ i, i < 4 → Fr.chk (cA l h i).data.toList = 0 ∧ Fr.chk (cB m k i).data.toList = 0 := by
      intro i hi
      have h4 : i = 0 ∨ i = 1 ∨ i = 2 ∨ i = 3 := by omega
      rcases h4 with rfl | rfl | rfl | rfl
      · exact ⟨kl, km⟩
      · exact ⟨kl, kk⟩
      · exact ⟨kh, km⟩
      · exact ⟨kh, kk⟩
    obtain ⟨S, hS⟩ : ∃ S : Nat → Int, S = fun i => sAB (cA l h i) (cB m k i) := ⟨_, rfl⟩
    have hP2 : ∀ i, i < 4 → PrB (w.heap.size + 1 + 1 + 1 + 1) wc (.agg #[.string (cA l h i), .string (cB m k i), .int .i64 (S i), .slice (a1 i) (b1 i) (c1 i), .slice (a2 i) (b2 i) (c2 i)]) (cA l h i) (cB m k i) := by
      intro i hi
      rw [hS]
      exact hP i hi
    have hR2 : wc.rangeAt G 0 [.string (cA l h 0), .string (cB m k 0), .int .i64 (S 0), .slice (a1 0) (b1 0) (c1 0), .slice (a2 0) (b2 0) (c2 0), .string (cA l h 1), .string (cB m k 1), .int .i64 (S 1), .slice (a1 1) (b1 1) (c1 1), .slice (a2 1) (b2 1) (c2 1), .string (cA l h 2), .string (cB m k 2), .int .i64 (S 2), .slice (a1 2) (b1 2) (c1 2), .slice (a2 2) (b2 2) (c2 2), .string (cA l h 3), .string (cB m k 3), .int .i64 (S 3), .slice (a1 3) (b1 3) (c1 3), .slice (a2 3) (b2 3) (c2 3)] := by
      rw [hS]
      exact hR
    have hq : ∀ i, cQ l h m k i = Fr.rat (cA l h i).data.toList * Fr.rat (cB m k i).data.toList := fun i => rfl
    have HKK := Lib.hid hK
    have HP := Lib.hid hP2
    have HR := Lib.hid hR2
    have HCK := Lib.hid hck
    have HQ := Lib.hid hq
    clear hP hR hS hP2 hR2 hck hq HF hK CM1 CM2 CM3 CM4 KK kl kh km kk hl hh hm hk
    generalize hQf : cQ l h m k = Qf at *
    generalize hA : cA l h = A at *
    generalize hB : cB m k = B at *
    have HQe := Lib.hid hQf
    have HAe := Lib.hid hA
    have HBe := Lib.hid hB
    clear hQf hA hB
    have HX := Lib.hid (fun i hi => idx4 A B S a1 b1 c1 a2 b2 c2 i hi)
    obtain ⟨-, q0, q1, q2, q3, q4, f0, f1, f2, f3, f4⟩ := HKK.out.2.2.2.1
    obtain ⟨-, r0, r1, r2, r3, r4, g0, g1, g2, g3, g4⟩ := HKK.out.2.2.2.2
    have x0 : wc.cell? ⟨G, 0, none⟩ = some (.string (A 0)) := HR.out 0 _ rfl
    have x1 : wc.cell? ⟨G, 1, none⟩ = some (.string (B 0)) := HR.out 1 _ rfl
    have x2 : wc.cell? ⟨G, 2, none⟩ = some (.int .i64 (S 0)) := HR.out 2 _ rfl
    have x3 : wc.cell? ⟨G, 3, none⟩ = some (.slice (a1 0) (b1 0) (c1 0)) := HR.out 3 _ rfl
    have x4 : wc.cell? ⟨G, 4, none⟩ = some (.slice (a2 0) (b2 0) (c2 0)) := HR.out 4 _ rfl
    go_wp2
    go_region
    clear q0 q1 q2 q3 q4 f0 f1 f2 f3 f4 r0 r1 r2 r3 r4 g0 g1 g2 g3 g4 x0 x1 x2 x3 x4
    obtain ⟨k1, -, -, k4, k5⟩ := HKK.out
    obtain ⟨Wm, hWm⟩ : ∃ Wm, Wm = (((((wc.setCell ⟨w.heap.size + 1 + 1, 0, none⟩ (.string (A 0))).setCell ⟨w.heap.size + 1 + 1, 1, none⟩ (.string (B 0))).setCell ⟨w.heap.size + 1 + 1, 2, none⟩ (.int .i64 (S 0))).setCell ⟨w.heap.size + 1 + 1, 3, none⟩ (.slice (a1 0) (b1 0) (c1 0))).setCell ⟨w.heap.size + 1 + 1, 4, none⟩ (.slice (a2 0) (b2 0) (c2 0))) := ⟨_, rfl⟩
    have m1 : Below w.heap.size w Wm := by rw [hWm]; exact below_set5 (k := w.heap.size + 1 + 1) k1 (by omega) (.string (A 0)) (.string (B 0)) (.int .i64 (S 0)) (.slice (a1 0) (b1 0) (c1 0)) (.slice (a2 0) (b2 0) (c2 0))
    have m2 : Prod Wm (w.heap.size + 1 + 1) (A 0) (B 0) (S 0) (.slice (a1 0) (b1 0) (c1 0)) (.slice (a2 0) (b2 0) (c2 0)) := by rw [hWm]; exact k4.set5 (A 0) (B 0) (S 0) (.slice (a1 0) (b1 0) (c1 0)) (.slice (a2 0) (b2 0) (c2 0))
    have m3 : Prod Wm (w.heap.size + 1 + 1 + 1) ⟨#[]⟩ ⟨#[]⟩ 0 (.slice none 0 0) (.slice none 0 0) := by rw [hWm]; exact k5.apart5 (k := w.heap.size + 1 + 1) (by omega) (.string (A 0)) (.string (B 0)) (.int .i64 (S 0)) (.slice (a1 0) (b1 0) (c1 0)) (.slice (a2 0) (b2 0) (c2 0))
    have m4 : ∀ i, i < 4 → PrB (w.heap.size + 1 + 1 + 1 + 1) Wm (.agg #[.string (A i), .string (B i), .int .i64 (S i), .slice (a1 i) (b1 i) (c1 i), .slice (a2 i) (b2 i) (c2 i)]) (A i) (B i) := by rw [hWm]; exact fun i hi => (HP.out i hi).put5 (k := w.heap.size + 1 + 1) (by omega) (.string (A 0)) (.string (B 0)) (.int .i64 (S 0)) (.slice (a1 0) (b1 0) (c1 0)) (.slice (a2 0) (b2 0) (c2 0))
    have m5 : Wm.rangeAt G 0 [.string (A 0), .string (B 0), .int .i64 (S 0), .slice (a1 0) (b1 0) (c1 0), .slice (a2 0) (b2 0) (c2 0), .string (A 1), .string (B 1), .int .i64 (S 1), .slice (a1 1) (b1 1) (c1 1), .slice (a2 1) (b2 1) (c2 1), .string (A 2), .string (B 2), .int .i64 (S 2), .slice (a1 2) (b1 2) (c1 2), .slice (a2 2) (b2 2) (c2 2), .string (A 3), .string (B 3), .int .i64 (S 3), .slice (a1 3) (b1 3) (c1 3), .slice (a2 3) (b2 3) (c2 3)] := by rw [hWm]; exact range5 (k := w.heap.size + 1 + 1) HR.out (by omega) (.string (A 0)) (.string (B 0)) (.int .i64 (S 0)) (.slice (a1 0) (b1 0) (c1 0)) (.slice (a2 0) (b2 0) (c2 0))
    rw [← hWm]
    clear hWm k1 k4 k5
    obtain ⟨W2, hW2⟩ : ∃ W2, W2 = (((((Wm.setCell ⟨w.heap.size + 1 + 1 + 1, 0, none⟩ (.string (A 0))).setCell ⟨w.heap.size + 1 + 1 + 1, 1, none⟩ (.string (B 0))).setCell ⟨w.heap.size + 1 + 1 + 1, 2, none⟩ (.int .i64 (S 0))).setCell ⟨w.heap.size + 1 + 1 + 1, 3, none⟩ (.slice (a1 0) (b1 0) (c1 0))).setCell ⟨w.heap.size + 1 + 1 + 1, 4, none⟩ (.slice (a2 0) (b2 0) (c2 0))) := ⟨_, rfl⟩
    have n1 : Below w.heap.size w W2 := by rw [hW2]; exact below_set5 (k := w.heap.size + 1 + 1 + 1) m1 (by omega) (.string (A 0)) (.string (B 0)) (.int .i64 (S 0)) (.slice (a1 0) (b1 0) (c1 0)) (.slice (a2 0) (b2 0) (c2 0))
    have n2 : Prod W2 (w.heap.size + 1 + 1) (A 0) (B 0) (S 0) (.slice (a1 0) (b1 0) (c1 0)) (.slice (a2 0) (b2 0) (c2 0)) := by rw [hW2]; exact m2.apart5 (k := w.heap.size + 1 + 1 + 1) (by omega) (.string (A 0)) (.string (B 0)) (.int .i64 (S 0)) (.slice (a1 0) (b1 0) (c1 0)) (.slice (a2 0) (b2 0) (c2 0))
    have n3 : Prod W2 (w.heap.size + 1 + 1 + 1) (A 0) (B 0) (S 0) (.slice (a1 0) (b1 0) (c1 0)) (.slice (a2 0) (b2 0) (c2 0)) := by rw [hW2]; exact m3.set5 (A 0) (B 0) (S 0) (.slice (a1 0) (b1 0) (c1 0)) (.slice (a2 0) (b2 0) (c2 0))
    have n4 : ∀ i, i < 4 → PrB (w.heap.size + 1 + 1 + 1 + 1) W2 (.agg #[.string (A i), .string (B i), .int .i64 (S i), .slice (a1 i) (b1 i) (c1 i), .slice (a2 i) (b2 i) (c2 i)]) (A i) (B i) := by rw [hW2]; exact fun i hi => (m4 i hi).put5 (k := w.heap.size + 1 + 1 + 1) (by omega) (.string (A 0)) (.string (B 0)) (.int .i64 (S 0)) (.slice (a1 0) (b1 0) (c1 0)) (.slice (a2 0) (b2 0) (c2 0))
    have hR3 : W2.rangeAt G 0 [.string (A 0), .string (B 0), .int .i64 (S 0), .slice (a1 0) (b1 0) (c1 0), .slice (a2 0) (b2 0) (c2 0), .string (A 1), .string (B 1), .int .i64 (S 1), .slice (a1 1) (b1 1) (c1 1), .slice (a2 1) (b2 1) (c2 1), .string (A 2), .string (B 2), .int .i64 (S 2), .slice (a1 2) (b1 2) (c1 2), .slice (a2 2) (b2 2) (c2 2), .string (A 3), .string (B 3), .int .i64 (S 3), .slice (a1 3) (b1 3) (c1 3), .slice (a2 3) (b2 3) (c2 3)] := by rw [hW2]; exact range5 (k := w.heap.size + 1 + 1 + 1) m5 (by omega) (.string (A 0)) (.string (B 0)) (.int .i64 (S 0)) (.slice (a1 0) (b1 0) (c1 0)) (.slice (a2 0) (b2 0) (c2 0))
    have HL := Lib.hid (show LS w W2 A B S a1 b1 c1 a2 b2 c2 0 0 from ⟨n1, n2, n3, n4⟩)
    rw [← hW2]
    clear hW2 HR HP HKK m1 m2 m3 m4 m5 n1 n2 n3 n4
    have hR4 : W2.drew.rangeAt G 0 [.string (A 0), .string (B 0), .int .i64 (S 0), .slice (a1 0) (b1 0) (c1 0), .slice (a2 0) (b2 0) (c2 0), .string (A 1), .string (B 1), .int .i64 (S 1), .slice (a1 1) (b1 1) (c1 1), .slice (a2 1) (b2 1) (c2 1), .string (A 2), .string (B 2), .int .i64 (S 2), .slice (a1 2) (b1 2) (c1 2), .slice (a2 2) (b2 2) (c2 2), .string (A 3), .string (B 3), .int .i64 (S 3), .slice (a1 3) (b1 3) (c1 3), .slice (a2 3) (b2 3) (c2 3)] := hR3
    clear hR3
    go_wp2_with (refine wpList_load_mid rfl 126 _ rfl G 0 rfl [.string (A 0), .string (B 0), .int .i64 (S 0), .slice (a1 0) (b1 0) (c1 0), .slice (a2 0) (b2 0) (c2 0), .string (A 1), .string (B 1), .int .i64 (S 1), .slice (a1 1) (b1 1) (c1 1), .slice (a2 1) (b2 1) (c2 1), .string (A 2), .string (B 2), .int .i64 (S 2), .slice (a1 2) (b1 2) (c1 2), .slice (a2 2) (b2 2) (c2 2), .string (A 3), .string (B 3), .int .i64 (S 3), .slice (a1 3) (b1 3) (c1 3), .slice (a2 3) (b2 3) (c2 3)] _ hR4 Tryz.underlying126 rfl (by kernel_rfl) ?_)
    clear hR4
    go_loopw [35] (fun u35 wr => ∃ i lo hi : Nat, i ≤ 4 ∧ lo < 4 ∧ hi < 4 ∧ u35 = .int .i64 (i : Int) ∧ Hid (LS w wr A B S a1 b1 c1 a2 b2 c2 lo hi ∧ lo = loI Qf i ∧ hi = hiI Qf i)) (fun u35 _ => 4 - (intOf u35).toNat)
    case atStart => exact ⟨0, 0, 0, by omega, by omega, by omega, rfl, Lib.hid ⟨ls_drew HL.out, rfl, rfl⟩⟩
    case round =>
      clear HL
      obtain ⟨i, lo, hi, hi4, hlo, hhi, rfl, HS⟩ := hrel
      by_cases hil : i < 4
      · have zi : (i : Int) < 4 := by omega
        have hx := HX.out i hil
        have hpb2 := HS.out.1.2.1.1
        have hpb3 := HS.out.1.2.2.1.1
        obtain ⟨d1, q0, q1, q2, q3, q4, f0, f1, f2, f3, f4⟩ := HS.out.1.2.1
        obtain ⟨d2, r0, r1, r2, r3, r4, g0, g1, g2, g3, g4⟩ := HS.out.1.2.2.1
        go_wp2_with fail
        clear d1 q0 q1 q2 q3 q4 f0 f1 f2 f3 f4 d2 r0 r1 r2 r3 r4 g0 g1 g2 g3 g4 hx
        have HP0 := Lib.hid (prod_new wr (A i) (B i) (S i) (.slice (a1 i) (b1 i) (c1 i)) (.slice (a2 i) (b2 i) (c2 i)) 94)
        have HL0 := Lib.hid (HS.out.1.step ((Below.refl wr.heap.size wr).alloc (Nat.le_refl _) (.cells #[.string (A i), .string (B i), .int .i64 (S i), .slice (a1 i) (b1 i) (c1 i), .slice (a2 i) (b2 i) (c2 i)] 94)))
        obtain ⟨W1, hW1⟩ : ∃ W1, W1 = wr.alloc (.cells #[.string (A i), .string (B i), .int .i64 (S i), .slice (a1 i) (b1 i) (c1 i), .slice (a2 i) (b2 i) (c2 i)] 94) := ⟨_, rfl⟩
        rw [← hW1] at HP0 HL0 ⊢
        clear hW1
        have HS2 := Lib.hid HS.out.2
        clear HS
        have CO1 := Lib.hid (show Calls Tryz.prog 103 #[(.agg #[.string (A i), .string (B i), .int .i64 (S i), .slice (a1 i) (b1 i) (c1 i), .slice (a2 i) (b2 i) (c2 i)]), (.agg #[.string (A lo), .string (B lo), .int .i64 (S lo), .slice (a1 lo) (b1 lo) (c1 lo), .slice (a2 lo) (b2 lo) (c2 lo)])] W1 fun e w' => e = .returned (.int .i64 (Fr.cmpQ (Qf i) (Qf lo))) ∧ Below W1.heap.size W1 w' by
            rw [HQ.out i, HQ.out lo]
            exact pOrder_any _ _ _ _ _ _ _ (HL0.out.2.2.2 i hil).prv (HL0.out.2.2.2 lo hlo).prv (HCK.out i hil).1 (HCK.out i hil).2 (HCK.out lo hlo).1 (HCK.out lo hlo).2)
        refine (CO1.out).mono ?_
        rintro e w1 ⟨rfl, hb1⟩
        have HL1 := Lib.hid (HL0.out.step hb1)
        have HP1 := Lib.hid (HP0.out.step hb1)
        clear hb1 CO1 HL0 HP0
        obtain ⟨d1, q0, q1, q2, q3, q4, f0, f1, f2, f3, f4⟩ := HL1.out.2.1
        obtain ⟨d3, r0, r1, r2, r3, r4, -, -, -, -, -⟩ := HL1.out.2.2.1
        obtain ⟨d2, p0, p1, p2, p3, p4, -, -, -, -, -⟩ := HP1.out
        have hne2 : wr.heap.size ≠ w.heap.size + 1 + 1 := by omega
        have hne3 : wr.heap.size ≠ w.heap.size + 1 + 1 + 1 := by omega
        by_cases n1 : Fr.cmpQ (Qf i) (Qf lo) < 0
        · have HC1 := Lib.hid n1
          generalize Fr.cmpQ (Qf i) (Qf lo) = z1 at n1
          go_wp2_with fail
          clear d1 q0 q1 q2 q3 q4 f0 f1 f2 f3 f4 d2 d3 p0 p1 p2 p3 p4 r0 r1 r2 r3 r4
          obtain ⟨X, hX⟩ : ∃ X, X = (((((w1.setCell ⟨w.heap.size + 1 + 1, 0, none⟩ (.string (A i))).setCell ⟨w.heap.size + 1 + 1, 1, none⟩ (.string (B i))).setCell ⟨w.heap.size + 1 + 1, 2, none⟩ (.int .i64 (S i))).setCell ⟨w.heap.size + 1 + 1, 3, none⟩ (.slice (a1 i) (b1 i) (c1 i))).setCell ⟨w.heap.size + 1 + 1, 4, none⟩ (.slice (a2 i) (b2 i) (c2 i))) := ⟨_, rfl⟩
          have HLX := Lib.hid (HL1.out.setLo i)
          have HPX := Lib.hid (HP1.out.apart5 (k := w.heap.size + 1 + 1) (by omega) (.string (A i)) (.string (B i)) (.int .i64 (S i)) (.slice (a1 i) (b1 i) (c1 i)) (.slice (a2 i) (b2 i) (c2 i)))
          rw [← hX] at HLX HPX ⊢
          clear hX HL1 HP1
          have CO2 := Lib.hid (show Calls Tryz.prog 103 #[(.agg #[.string (A i), .string (B i), .int .i64 (S i), .slice (a1 i) (b1 i) (c1 i), .slice (a2 i) (b2 i) (c2 i)]), (.agg #[.string (A hi), .string (B hi), .int .i64 (S hi), .slice (a1 hi) (b1 hi) (c1 hi), .slice (a2 hi) (b2 hi) (c2 hi)])] X fun e w' => e = .returned (.int .i64 (Fr.cmpQ (Qf i) (Qf hi))) ∧ Below X.heap.size X w' by
            rw [HQ.out i, HQ.out hi]
            exact pOrder_any _ _ _ _ _ _ _ (HLX.out.2.2.2 i hil).prv (HLX.out.2.2.2 hi hhi).prv (HCK.out i hil).1 (HCK.out i hil).2 (HCK.out hi hhi).1 (HCK.out hi hhi).2)
          refine (CO2.out).mono ?_
          rintro e w2 ⟨rfl, hb2⟩
          have HL2 := Lib.hid (HLX.out.step hb2)
          have HP2 := Lib.hid (HPX.out.step hb2)
          clear hb2 CO2 HLX HPX
          obtain ⟨d1, q0, q1, q2, q3, q4, f0, f1, f2, f3, f4⟩ := HL2.out.2.2.1
          obtain ⟨d2, p0, p1, p2, p3, p4, -, -, -, -, -⟩ := HP2.out
          by_cases n2 : 0 < Fr.cmpQ (Qf i) (Qf hi)
          · have HC2 := Lib.hid n2
            generalize Fr.cmpQ (Qf i) (Qf hi) = z2 at n2
            have HE := Lib.hid (And.intro (HL2.out.setHi i) (And.intro (show i = loI Qf (i + 1) from (show i = (if Fr.cmpQ (Qf i) (Qf (loI Qf i)) < 0 then i else loI Qf i) by rw [← HS2.out.1]; exact (if_pos HC1.out).symm)) (show i = hiI Qf (i + 1) from (show i = (if 0 < Fr.cmpQ (Qf i) (Qf (hiI Qf i)) then i else hiI Qf i) by rw [← HS2.out.2]; exact (if_pos HC2.out).symm))))
            clear HC1 HC2 HS2 HL2 HP2 HX HQ HCK
            go_wp2
            exact ⟨⟨i + 1, i, i, by omega, by omega, by omega, by first | rfl | go_num, HE⟩, by simp [intOf]; omega⟩
          · have HC2 := Lib.hid n2
            generalize Fr.cmpQ (Qf i) (Qf hi) = z2 at n2
            have HE := Lib.hid (And.intro (HL2.out) (And.intro (show i = loI Qf (i + 1) from (show i = (if Fr.cmpQ (Qf i) (Qf (loI Qf i)) < 0 then i else loI Qf i) by rw [← HS2.out.1]; exact (if_pos HC1.out).symm)) (show hi = hiI Qf (i + 1) from (show hi = (if 0 < Fr.cmpQ (Qf i) (Qf (hiI Qf i)) then i else hiI Qf i) by rw [← HS2.out.2]; exact (if_neg (by have := HC2.out; omega)).symm))))
            clear HC1 HC2 HS2 HL2 HP2 HX HQ HCK
            go_wp2
            exact ⟨⟨i + 1, i, hi, by omega, by omega, by omega, by first | rfl | go_num, HE⟩, by simp [intOf]; omega⟩
        · have HC1 := Lib.hid n1
          generalize Fr.cmpQ (Qf i) (Qf lo) = z1 at n1
          go_wp2_with fail
          clear d1 q0 q1 q2 q3 q4 f0 f1 f2 f3 f4 d2 d3 p0 p1 p2 p3 p4 r0 r1 r2 r3 r4
          obtain ⟨X, hX⟩ : ∃ X, X = w1 := ⟨_, rfl⟩
          have HLX := HL1
          have HPX := HP1
          rw [← hX] at HLX HPX ⊢
          clear hX HL1 HP1
          have CO2 := Lib.hid (show Calls Tryz.prog 103 #[(.agg #[.string (A i), .string (B i), .int .i64 (S i), .slice (a1 i) (b1 i) (c1 i), .slice (a2 i) (b2 i) (c2 i)]), (.agg #[.string (A hi), .string (B hi), .int .i64 (S hi), .slice (a1 hi) (b1 hi) (c1 hi), .slice (a2 hi) (b2 hi) (c2 hi)])] X fun e w' => e = .returned (.int .i64 (Fr.cmpQ (Qf i) (Qf hi))) ∧ Below X.heap.size X w' by
            rw [HQ.out i, HQ.out hi]
            exact pOrder_any _ _ _ _ _ _ _ (HLX.out.2.2.2 i hil).prv (HLX.out.2.2.2 hi hhi).prv (HCK.out i hil).1 (HCK.out i hil).2 (HCK.out hi hhi).1 (HCK.out hi hhi).2)
          refine (CO2.out).mono ?_
          rintro e w2 ⟨rfl, hb2⟩
          have HL2 := Lib.hid (HLX.out.step hb2)
          have HP2 := Lib.hid (HPX.out.step hb2)
          clear hb2 CO2 HLX HPX
          obtain ⟨d1, q0, q1, q2, q3, q4, f0, f1, f2, f3, f4⟩ := HL2.out.2.2.1
          obtain ⟨d2, p0, p1, p2, p3, p4, -, -, -, -, -⟩ := HP2.out
          by_cases n2 : 0 < Fr.cmpQ (Qf i) (Qf hi)
          · have HC2 := Lib.hid n2
            generalize Fr.cmpQ (Qf i) (Qf hi) = z2 at n2
            have HE := Lib.hid (And.intro (HL2.out.setHi i) (And.intro (show lo = loI Qf (i + 1) from (show lo = (if Fr.cmpQ (Qf i) (Qf (loI Qf i)) < 0 then i else loI Qf i) by rw [← HS2.out.1]; exact (if_neg (by have := HC1.out; omega)).symm)) (show i = hiI Qf (i + 1) from (show i = (if 0 < Fr.cmpQ (Qf i) (Qf (hiI Qf i)) then i else hiI Qf i) by rw [← HS2.out.2]; exact (if_pos HC2.out).symm))))
            clear HC1 HC2 HS2 HL2 HP2 HX HQ HCK
            go_wp2
            exact ⟨⟨i + 1, lo, i, by omega, by omega, by omega, by first | rfl | go_num, HE⟩, by simp [intOf]; omega⟩
          · have HC2 := Lib.hid n2
            generalize Fr.cmpQ (Qf i) (Qf hi) = z2 at n2
            have HE := Lib.hid (And.intro (HL2.out) (And.intro (show lo = loI Qf (i + 1) from (show lo = (if Fr.cmpQ (Qf i) (Qf (loI Qf i)) < 0 then i else loI Qf i) by rw [← HS2.out.1]; exact (if_neg (by have := HC1.out; omega)).symm)) (show hi = hiI Qf (i + 1) from (show hi = (if 0 < Fr.cmpQ (Qf i) (Qf (hiI Qf i)) then i else hiI Qf i) by rw [← HS2.out.2]; exact (if_neg (by have := HC2.out; omega)).symm))))
            clear HC1 HC2 HS2 HL2 HP2 HX HQ HCK
            go_wp2
            exact ⟨⟨i + 1, lo, hi, by omega, by omega, by omega, by first | rfl | go_num, HE⟩, by simp [intOf]; omega⟩
      · obtain rfl : i = 4 := by omega
        obtain ⟨d1, q0, q1, q2, q3, q4, f0, f1, f2, f3, f4⟩ := HS.out.1.2.1
        obtain ⟨d3, r0, r1, r2, r3, r4, g0, g1, g2, g3, g4⟩ := HS.out.1.2.2.1
        go_wp2
        go_region
        clear d1 q0 q1 q2 q3 q4 f0 f1 f2 f3 f4 d3 r0 r1 r2 r3 r4 g0 g1 g2 g3 g4
        have HLa := Lib.hid (HS.out.1.setLo lo)
        obtain ⟨Wa, hWa⟩ : ∃ Wa, Wa = (((((wr.setCell ⟨w.heap.size + 1 + 1, 0, none⟩ (.string (A lo))).setCell ⟨w.heap.size + 1 + 1, 1, none⟩ (.string (B lo))).setCell ⟨w.heap.size + 1 + 1, 2, none⟩ (.int .i64 (S lo))).setCell ⟨w.heap.size + 1 + 1, 3, none⟩ (.slice (a1 lo) (b1 lo) (c1 lo))).setCell ⟨w.heap.size + 1 + 1, 4, none⟩ (.slice (a2 lo) (b2 lo) (c2 lo))) := ⟨_, rfl⟩
        rw [← hWa] at HLa ⊢
        clear hWa
        have HLb := Lib.hid (HLa.out.setHi hi)
        obtain ⟨Wb, hWb⟩ : ∃ Wb, Wb = (((((Wa.setCell ⟨w.heap.size + 1 + 1 + 1, 0, none⟩ (.string (A hi))).setCell ⟨w.heap.size + 1 + 1 + 1, 1, none⟩ (.string (B hi))).setCell ⟨w.heap.size + 1 + 1 + 1, 2, none⟩ (.int .i64 (S hi))).setCell ⟨w.heap.size + 1 + 1 + 1, 3, none⟩ (.slice (a1 hi) (b1 hi) (c1 hi))).setCell ⟨w.heap.size + 1 + 1 + 1, 4, none⟩ (.slice (a2 hi) (b2 hi) (c2 hi))) := ⟨_, rfl⟩
        rw [← hWb] at HLb ⊢
        clear hWb HLa
        have HLc := Lib.hid (ls_drew HLb.out)
        clear HLb
        have HE := Lib.hid HS.out.2
        clear HS
        obtain ⟨d1, q0, q1, q2, q3, q4, -, -, -, -, -⟩ := HLc.out.2.1
        obtain ⟨d3, r0, r1, r2, r3, r4, -, -, -, -, -⟩ := HLc.out.2.2.1
        go_wp2
        refine bodyPost_ret (v := .tuple #[(.agg #[.string (A lo), .string (B lo), .int .i64 (S lo), .slice (a1 lo) (b1 lo) (c1 lo), .slice (a2 lo) (b2 lo) (c2 lo)]), (.agg #[.string (A hi), .string (B hi), .int .i64 (S hi), .slice (a1 hi) (b1 hi) (c1 hi), .slice (a2 hi) (b2 hi) (c2 hi)])]) (by simp [results, Tryz.results71, go_sem, q0, q1, q2, q3, q4, r0, r1, r2, r3, r4]) rfl ?_
        refine ⟨_, _, rfl, ?_, ?_, HLc.out.1⟩
        · rw [HQe.out, HAe.out, HBe.out, ← HE.out.1]; exact (HLc.out.2.2.2 lo hlo).prv
        · rw [HQe.out, HAe.out, HBe.out, ← HE.out.2]; exact (HLc.out.2.2.2 hi hhi).prv
end Go.Proofs.YtldclpdmcopgnaaGreatDoor
