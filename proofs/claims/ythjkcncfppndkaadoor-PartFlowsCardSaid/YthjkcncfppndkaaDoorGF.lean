/- Fields of package lexer; lists of texts that are the call's own; the ports of a row, sorted. -/
import Derived.Test.YthjkcncfppndkaaDoorGE
import Derived.Test.YthjkcncfppndkaaDoorShelf
import Derived.Lib.SortBridge
import Derived.Sort.EncStr
namespace Pt
def flds (s : ByteArray) : List ByteArray := Go.Lib.goFieldsP (fun c => decide (c = 32)) s
def Row.port (r : Row) : Nat → ByteArray
  | 0 => r.p0
  | 1 => r.p1
  | 2 => r.p2
  | 3 => r.p3
  | _ => r.p4
def pre (r : Row) : Nat → List ByteArray
  | 0 => []
  | i + 1 => pre r i ++ flds (r.port i)
def srt (l : List ByteArray) : List ByteArray := ((l.map (·.data.toList)).mergeSort (fun x y => decide (x ≤ y))).map fun x => ⟨x.toArray⟩
theorem port_small (k i : Nat) : ((cat k).port i).size ≤ 1000 := by
  unfold Row.port
  split <;> (unfold cat; split <;> decide)
theorem pre_few : ∀ k, k < 14 → ∀ i, i < 6 → (pre (cat k) i).length ≤ 100 ∧ (flds ((cat k).port i)).length ≤ 100 := by decide +kernel
theorem pre_pos : ∀ k, k < 14 → 0 < (pre (cat k) 5).length := by decide +kernel
end Pt
namespace Go.Proofs.YthjkcncfppndkaaDoor
open Go.RowKit
theorem fields1_any (x : Nat) (w : World) : Calls Tryd.prog 79 #[.int .i32 (x : Int)] w fun e w' => e = .returned (.bool (decide (x = 32))) ∧ w' = w := by
  have h : ((x : Int) == 32) = decide (x = 32) := by
    by_cases e : x = 32
    · subst e; rfl
    · have : ¬ ((x : Int) = 32) := by omega
      simp [e, this]
  go_enter Tryd.func79, Tryd.ntmps79
  go_wp2
  go_ret
  exact ⟨by rw [← h]; rfl, rfl⟩
/-- A row of texts that is the call's own. -/
def RowS (B : Nat) (w : World) (v : Value) (l : List ByteArray) : Prop := w.ownsRow B 9 1 v l.length (l.map fun s => .string s)
theorem RowS.nil (B : Nat) (w : World) : RowS B w (.slice none 0 0) [] := World.ownsRow_nil _ _ _ _
theorem RowS.below {B : Nat} {w w' : World} {v : Value} {l : List ByteArray} (h : RowS B w v l) {C : Nat} (hb : Below C w w') (hC : w.heap.size ≤ C) : RowS B w' v l := by
  refine ⟨h.1, ?_⟩
  rcases h.2 with h' | ⟨g, cap, cur, h', h1, h2, h3⟩
  · exact .inl h'
  · exact .inr ⟨g, cap, cur, h', h1, by rw [hb.block g (Nat.lt_of_lt_of_le (Array.getElem?_eq_some_iff.1 h2).1 hC)]; exact h2, h3⟩
theorem RowS.step {B : Nat} {w w' : World} {v : Value} {l : List ByteArray} (h : RowS B w v l) (hb : Below w.heap.size w w') : RowS B w' v l := h.below hb (Nat.le_refl _)
theorem RowS.form {B : Nat} {w : World} {v : Value} {l : List ByteArray} (h : RowS B w v l) : ∃ a c, v = .slice a l.length c := by
  rcases h.2 with ⟨rfl, h0⟩ | ⟨g, cap, cur, rfl, -⟩
  · exact ⟨none, 0, by rw [h0]⟩
  · exact ⟨_, _, rfl⟩
theorem info_str : ∃ i : TypeInfo, Tryd.prog.info? 9 = some i ∧ i.zero = some (.string ⟨#[]⟩) ∧ i.size = 1 ∧ i.bytes = 16 := by
  have h : (Tryd.prog.info? 9).map (fun i => (i.zero, i.size, i.bytes)) = some (some (.string ⟨#[]⟩), 1, 16) := by kernel_rfl
  obtain ⟨i, h1, h2⟩ := Option.map_eq_some_iff.1 h
  simp only [Prod.mk.injEq] at h2
  exact ⟨i, h1, h2⟩
theorem fields_any (s : ByteArray) (w : World) (hs : s.size ≤ 1000) : Calls Tryd.prog 68 #[.string s] w fun e w' => ∃ A, e = .returned (.slice (some ⟨A, 0, none⟩) (Pt.flds s).length (Pt.flds s).length) ∧ RowS w.heap.size w' (.slice (some ⟨A, 0, none⟩) (Pt.flds s).length (Pt.flds s).length) (Pt.flds s) ∧ Below w.heap.size w w' := by
  have CF := fun W => Lib.hid (Tryd.strings_FieldsFunc 79 #[] (enters_of Tryd.func79 (by kernel_rfl) rfl) (fun c => decide (c = 32)) s W (by omega) (fun W' x _ => (fields1_any x W').mono (by rintro e w' ⟨rfl, rfl⟩; exact ⟨rfl, 0, rfl⟩)))
  go_enter Tryd.func68, Tryd.ntmps68
  go_wp2_with fail
  refine (CF _).out.mono ?_
  rintro e w1 ⟨A, rfl, -, h2, h3⟩
  have H2 := Lib.hid h2
  have H3 := Lib.hid h3
  clear h2 h3 CF
  change Hid (RowS w.heap.size w1 (.slice (some ⟨A, 0, none⟩) (Pt.flds s).length (Pt.flds s).length) (Pt.flds s)) at H2
  rw [show Lib.goFieldsP (fun c => decide (c = 32)) s = Pt.flds s from rfl]
  go_wp2
  go_ret
  exact ⟨_, rfl, H2.out, H3.out⟩
set_option maxHeartbeats 4000000 in
set_option maxRecDepth 100000 in
theorem portsW_any (r : Pt.Row) (i : Nat) (hi : i < 5) (hs : (r.port i).size ≤ 1000) (w : World) : Calls Tryd.prog 44 #[Pt.rowV r, .int .i64 (i : Int)] w fun e w' => ∃ A, e = .returned (.slice (some ⟨A, 0, none⟩) (Pt.flds (r.port i)).length (Pt.flds (r.port i)).length) ∧ RowS w.heap.size w' (.slice (some ⟨A, 0, none⟩) (Pt.flds (r.port i)).length (Pt.flds (r.port i)).length) (Pt.flds (r.port i)) ∧ Below w.heap.size w w' := by
  have CF := fun W => Lib.hid (fields_any (r.port i) W hs)
  have hsf := st_fn
  clear hs
  have h : i = 0 ∨ i = 1 ∨ i = 2 ∨ i = 3 ∨ i = 4 := by omega
  obtain ⟨r0, r1, r2, r3, r4, r5, r6, r7, r8, r9, r10⟩ := r
  simp only [Pt.rowV, Pt.rowC]
  rcases h with rfl | rfl | rfl | rfl | rfl
  all_goals
    simp only [Pt.Row.port] at CF ⊢
    generalize Pt.Eff.fn r10 = q at *
    have LB := Lib.hid ((Below.refl w.heap.size w).alloc (Nat.le_refl _) (.cells #[.string r0, .string r1, .string r2, .string r3, .string r4, .string r5, .string r6, .int .i64 r7, .string r8, .string r9, .func (.func q) #[] #[]] 83))
    go_enter Tryd.func44, Tryd.ntmps44
    go_wp2_with fail
    refine (CF _).out.mono ?_
    rintro e w1 ⟨A, rfl, h2, h3⟩
    have H2 := Lib.hid h2
    have H3 := Lib.hid (below_nxt LB.out h3)
    clear h2 h3 CF
    go_wp2
    go_ret
    refine ⟨_, rfl, ⟨H2.out.1, ?_⟩, H3.out⟩
    rcases H2.out.2 with h' | ⟨g, cap, cur, h', h1, h2⟩
    · exact .inl h'
    · exact .inr ⟨g, cap, cur, h', by simp at h1; omega, h2⟩
end Go.Proofs.YthjkcncfppndkaaDoor
