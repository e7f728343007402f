/- What the variables of the library hold; the contracts of Itoa and of Cut at two points. -/
import Derived.WalkSmall
import Derived.Test.YtecfbncfhehdcaaDoorTa
import Derived.Test.YtecfbncfhehdcaaDoorShelf
import Derived.Test.YtecfbncfhehdcaaDoorTp
namespace Go.Proofs.YtecfbncfhehdcaaDoor
open Go.RowKit

/-- What the package variables of the library hold when a call begins. -/
structure St (w : World) : Prop where
  size : 4 ≤ w.heap.size
  maxLen : ∃ m : Int, w.cell? ⟨0, 0, none⟩ = some (.int .i64 m)
  pow10 : Lib.TabIs Tryd.prog w "internal/strconv.uint64pow10" .u64 Lib.pow10Tab
theorem Tryd.pow10_global : Tryd.prog.globalNamed "internal/strconv.uint64pow10" = some 3 := by kernel_rfl
theorem St.below {w w' : World} (h : St w) {B : Nat} (hb : Below B w w') (hB : 4 ≤ B) : St w' := by
  obtain ⟨h1, ⟨m, h2⟩, h3⟩ := h
  exact ⟨Nat.le_trans h1 hb.size, ⟨m, (hb.cell (p := ⟨0, 0, none⟩) (by show 0 < B; omega)).trans h2⟩, var?_below hb Tryd.pow10_global (by omega) h3⟩
theorem St.next {w w' : World} (h : St w) (hb : Below w.heap.size w w') : St w' := h.below hb h.size

theorem below_more (w : World) (q : Nat) (os : Array Obj) : Below w.heap.size w (Go.Sort.grow (w.drewN q) os) :=
  ⟨rfl, rfl, rfl, by simp [Go.Sort.grow], fun i hi => by
    show ((w.drewN q).heap ++ os)[i]? = _
    rw [Array.getElem?_append_left (by show i < w.heap.size; omega)]
    rfl⟩

theorem itoa_any (n : Int) (w : World) (hst : St w) (h0 : 0 ≤ n) (h1 : n ≤ 9223372036854775807) :
    Calls Tryd.prog 102 #[.int .i64 n] w fun e w' => e = .returned (.string ⟨(Fr.render n.toNat).toArray⟩) ∧ Below w.heap.size w w' := by
  have CI := Tryd.strconv_Itoa n (by omega) h1 w hst.pow10
  rw [Fr.itoa_text, Fr.itxt_eq, if_neg (by omega), List.nil_append, show n.natAbs = n.toNat by omega] at CI
  refine CI.mono ?_
  rintro e w1 ⟨rfl, k, os, hw1⟩
  exact ⟨rfl, by rw [hw1]; exact below_more w k os⟩

theorem below_drawn (w : World) (n : Nat) : Below w.heap.size w (w.drewN n) := ⟨rfl, rfl, rfl, Nat.le_refl _, fun _ _ => rfl⟩
def fstB (s : ByteArray) : ByteArray := ⟨(Tm.cut2 s.data.toList).1.toArray⟩
def restB (s : ByteArray) : ByteArray := ⟨((Tm.cut2 s.data.toList).2.getD []).toArray⟩
theorem cut_any (s : ByteArray) (w : World) (hst : St w) (hs : s.size ≤ 1000000) :
    Calls Tryd.prog 84 #[.string s, .string ⟨#[46, 46]⟩] w fun e w' => e = .returned (.tuple #[.string (fstB s), .string (restB s), .bool (Tm.cut2 s.data.toList).2.isSome]) ∧ Below w.heap.size w w' := by
  obtain ⟨m, hm⟩ := hst.maxLen
  have CC := Tryd.strings_Cut s ⟨#[46, 46]⟩ m w (by omega) hm
  have h0 : Lib.cut s.data.toList (ByteArray.mk #[46, 46]).data.toList = _ := Tm.cut_dots s.data.toList
  rw [h0] at CC
  refine CC.mono ?_
  rintro e w1 ⟨rfl, n, rfl⟩
  exact ⟨rfl, below_drawn w n⟩

end Go.Proofs.YtecfbncfhehdcaaDoor

