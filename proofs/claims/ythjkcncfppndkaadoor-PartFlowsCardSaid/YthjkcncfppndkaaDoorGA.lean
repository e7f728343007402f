/- The catalogue of parts: its rows, and what is read of them. -/
import Derived.WalkKit
import Derived.Lib.Hide
import Derived.Deep.QuietTactic
import Derived.BigQuiet
import Derived.Deep.RegionWith
import Derived.Deep.Light
import Derived.Deep.WholeRow
import Derived.Laws.AppendOwnNone
import Derived.Laws.OwnMore
import Derived.Maps.AppendAt
import Derived.Test.YthjkcncfppndkaaDoorProg
namespace Pt
open Go
/-- What kinds do in their positions. -/
inductive Eff | nothing | changeOver | opn | shut | either | both | pass
def Eff.fn : Eff → Nat
  | .nothing => 58
  | .changeOver => 59
  | .opn => 60
  | .shut => 61
  | .either => 62
  | .both => 63
  | .pass => 64
/-- A row of the catalogue. -/
structure Row where
  word : ByteArray
  letter : ByteArray
  p0 : ByteArray
  p1 : ByteArray
  p2 : ByteArray
  p3 : ByteArray
  p4 : ByteArray
  pos : Int
  plus : ByteArray
  minus : ByteArray
  eff : Eff
def cat : Nat → Row
  | 0 => ⟨⟨#[115, 117, 112, 112, 108, 121]⟩, ⟨#[90]⟩, ⟨#[]⟩, ⟨#[49]⟩, ⟨#[]⟩, ⟨#[]⟩, ⟨#[]⟩, 1, ⟨#[]⟩, ⟨#[]⟩, .nothing⟩
  | 1 => ⟨⟨#[99, 121, 108, 105, 110, 100, 101, 114]⟩, ⟨#[65]⟩, ⟨#[]⟩, ⟨#[]⟩, ⟨#[]⟩, ⟨#[]⟩, ⟨#[50, 32, 52]⟩, 1, ⟨#[]⟩, ⟨#[]⟩, .nothing⟩
  | 2 => ⟨⟨#[118, 97, 108, 118, 101, 53, 50]⟩, ⟨#[86]⟩, ⟨#[49]⟩, ⟨#[50, 32, 52]⟩, ⟨#[51, 32, 53]⟩, ⟨#[49, 50, 32, 49, 52]⟩, ⟨#[]⟩, 2, ⟨#[49, 52]⟩, ⟨#[49, 50]⟩, .changeOver⟩
  | 3 => ⟨⟨#[118, 97, 108, 118, 101, 53, 50, 115]⟩, ⟨#[86]⟩, ⟨#[49]⟩, ⟨#[50, 32, 52]⟩, ⟨#[51, 32, 53]⟩, ⟨#[49, 52]⟩, ⟨#[]⟩, 2, ⟨#[49, 52]⟩, ⟨#[]⟩, .changeOver⟩
  | 4 => ⟨⟨#[118, 97, 108, 118, 101, 51, 50]⟩, ⟨#[86]⟩, ⟨#[49]⟩, ⟨#[50]⟩, ⟨#[51]⟩, ⟨#[49, 50]⟩, ⟨#[]⟩, 2, ⟨#[49, 50]⟩, ⟨#[]⟩, .opn⟩
  | 5 => ⟨⟨#[118, 97, 108, 118, 101, 51, 50, 111]⟩, ⟨#[86]⟩, ⟨#[49]⟩, ⟨#[50]⟩, ⟨#[51]⟩, ⟨#[49, 48]⟩, ⟨#[]⟩, 2, ⟨#[49, 48]⟩, ⟨#[]⟩, .shut⟩
  | 6 => ⟨⟨#[108, 105, 109, 105, 116]⟩, ⟨#[83]⟩, ⟨#[49]⟩, ⟨#[50]⟩, ⟨#[51]⟩, ⟨#[]⟩, ⟨#[]⟩, 2, ⟨#[]⟩, ⟨#[]⟩, .opn⟩
  | 7 => ⟨⟨#[98, 117, 116, 116, 111, 110]⟩, ⟨#[83]⟩, ⟨#[49]⟩, ⟨#[50]⟩, ⟨#[51]⟩, ⟨#[]⟩, ⟨#[]⟩, 2, ⟨#[]⟩, ⟨#[]⟩, .opn⟩
  | 8 => ⟨⟨#[115, 104, 117, 116, 116, 108, 101]⟩, ⟨#[86]⟩, ⟨#[49, 32, 49, 49]⟩, ⟨#[50]⟩, ⟨#[]⟩, ⟨#[]⟩, ⟨#[]⟩, 1, ⟨#[]⟩, ⟨#[]⟩, .either⟩
  | 9 => ⟨⟨#[116, 119, 105, 110]⟩, ⟨#[86]⟩, ⟨#[49, 32, 49, 49]⟩, ⟨#[50]⟩, ⟨#[]⟩, ⟨#[]⟩, ⟨#[]⟩, 1, ⟨#[]⟩, ⟨#[]⟩, .both⟩
  | 10 => ⟨⟨#[113, 117, 105, 99, 107]⟩, ⟨#[86]⟩, ⟨#[49]⟩, ⟨#[50]⟩, ⟨#[51]⟩, ⟨#[]⟩, ⟨#[]⟩, 1, ⟨#[]⟩, ⟨#[]⟩, .pass⟩
  | 11 => ⟨⟨#[116, 104, 114, 111, 116, 116, 108, 101]⟩, ⟨#[86]⟩, ⟨#[49]⟩, ⟨#[50]⟩, ⟨#[]⟩, ⟨#[]⟩, ⟨#[]⟩, 1, ⟨#[]⟩, ⟨#[]⟩, .pass⟩
  | 12 => ⟨⟨#[100, 101, 108, 97, 121]⟩, ⟨#[86]⟩, ⟨#[49]⟩, ⟨#[50]⟩, ⟨#[51]⟩, ⟨#[49, 50]⟩, ⟨#[]⟩, 2, ⟨#[49, 50]⟩, ⟨#[]⟩, .opn⟩
  | _ => ⟨⟨#[99, 111, 117, 110, 116, 101, 114]⟩, ⟨#[86]⟩, ⟨#[49]⟩, ⟨#[50]⟩, ⟨#[51]⟩, ⟨#[49, 50]⟩, ⟨#[]⟩, 2, ⟨#[49, 50]⟩, ⟨#[]⟩, .opn⟩
def rowC (r : Row) : Array Value := #[.string r.word, .string r.letter, .string r.p0, .string r.p1, .string r.p2, .string r.p3, .string r.p4, .int .i64 r.pos, .string r.plus, .string r.minus, .func (.func r.eff.fn) #[] #[]]
def rowV (r : Row) : Value := .agg (rowC r)
def catC : Array Value := ((List.range 14).map fun i => (rowC (cat i)).toList).flatten.toArray
end Pt
namespace Go.Proofs.YthjkcncfppndkaaDoor
open Go.RowKit
theorem below_nxt {w0 w w' : World} (h : Below w0.heap.size w0 w) (hb : Below w.heap.size w w') : Below w0.heap.size w0 w' := h.trans (hb.mono h.size)
theorem below_box {w0 w w' : World} {o : Obj} (h : Below w0.heap.size w0 w) (hb : Below (w.alloc o).heap.size (w.alloc o) w') : Below w0.heap.size w0 w' :=
  below_nxt (below_nxt h ((Below.refl _ _).alloc (Nat.le_refl _) o)) hb
theorem below_drewN {B : Nat} (w : World) (n : Nat) : Below B w (w.drewN n) := ⟨rfl, rfl, rfl, Nat.le_refl _, fun _ _ => rfl⟩
theorem store_step {P : Program} (w : World) (t : TypeId) (c X : Array Value) (l : List Value) (hl : l = X.toList) (hi : (P.info? t).map (·.size) = some X.size) (ho : c.size = X.size) (h1 : X.all (·.oneCell') = true) :
    (storeCells ⟨w.heap.size, 0, none⟩ l 0).run P (w.alloc (.cells c t)) = .ok () (w.alloc (.cells X t)) := by
  rw [hl]
  exact run_storeCells_new w t c X hi ho h1
set_option maxHeartbeats 8000000 in
set_option maxRecDepth 100000 in
theorem cat_any (w : World) : Calls Tryd.prog 41 #[] w fun e w' => e = .returned (.agg Pt.catC) ∧ Below w.heap.size w w' := by
  have hz : Hid (Tryd.zeroCells91.size = Pt.catC.size) := Lib.hid (by kernel_rfl)
  have hi : Hid ((Tryd.prog.info? 91).map (·.size) = some Pt.catC.size) := Lib.hid (by kernel_rfl)
  have h1 : Hid (Pt.catC.all (·.oneCell') = true) := Lib.hid (by kernel_rfl)
  go_enter Tryd.func41, Tryd.ntmps41
  go_wp2
  rw [store_step w 91 _ Pt.catC _ (by kernel_rfl) hi.out hz.out h1.out]
  have hb : Below w.heap.size w (w.alloc (.cells Pt.catC 91)) := (Below.refl _ _).alloc (Nat.le_refl _) _
  simp only [Result.andThen]
  rw [Oper.upon_skip]
  go_wp2_with fail
  refine bodyPost_ret (v := .agg Pt.catC) ?_ rfl ⟨rfl, hb⟩
  exact results_cell_row rfl _ _ w.heap.size _ Pt.catC (0, 0) _ rfl (heap_alloc_last w _) Tryd.underlying91 rfl hi.out
end Go.Proofs.YthjkcncfppndkaaDoor
