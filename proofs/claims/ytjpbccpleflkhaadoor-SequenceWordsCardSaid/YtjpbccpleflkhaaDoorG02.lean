/- Fits and Apply of package stroke. Fits of package stroke. Apply of package stroke. The texts of strokes, of package stroke. -/
import Derived.Test.YtjpbccpleflkhaaDoorG01
import Derived.Laws.Cover3
import Derived.Laws.Cover4
namespace Sk
def sui1 (E : List Bool) (x : Str) : Bool := decide (x.1 < (E.length : Int)) && (E.getD x.1.toNat false != x.2)
/-- Does a step fit ends? -/
def sui (l : List Str) (E : List Bool) : Bool := l.all (sui1 E)
def fitV (l : List Str) (n : Int) (E : List Bool) : Bool × Int := if chkP l n = 0 then (if 6 < E.length then (false, 5) else (sui l E, 0)) else (false, chkP l n)
def put1 (E : List Bool) (x : Str) : List Bool := E.set x.1.toNat x.2
/-- The ends behind strokes. -/
def aft (l : List Str) (E : List Bool) : List Bool := l.foldl put1 E
def appV (l : List Str) (n : Int) (E : List Bool) : List Bool × Int := if chkP l n = 0 then (if 6 < E.length then ([], 5) else (if sui l E then (aft l E, 0) else ([], 14))) else ([], chkP l n)
theorem sui_iff {l : List Str} {E : List Bool} : sui l E = true ↔ ∀ i, i < l.length → sui1 E (l.getD i d0) = true := by
  unfold sui
  rw [List.all_eq_true]
  constructor
  · intro h i hi
    rw [List.getD_eq_getElem?_getD, List.getElem?_eq_getElem hi]
    exact h _ (List.getElem_mem hi)
  · intro h x hx
    obtain ⟨i, hi, rfl⟩ := List.mem_iff_getElem.1 hx
    have := h i hi
    rw [List.getD_eq_getElem?_getD, List.getElem?_eq_getElem hi] at this
    exact this
theorem sui_no {l : List Str} {E : List Bool} {i : Nat} (hi : i < l.length) (h : sui1 E (l.getD i d0) = false) : sui l E = false := by
  cases g : sui l E with
  | false => rfl
  | true => have := sui_iff.1 g i hi; rw [h] at this; cases this
theorem aft_len (l : List Str) (E : List Bool) : (aft l E).length = E.length := by
  unfold aft
  induction l generalizing E with
  | nil => rfl
  | cons x l ih => rw [List.foldl_cons, ih]; simp [put1]
theorem aft_take {l : List Str} {i : Nat} (hi : i < l.length) (E : List Bool) : aft (l.take (i + 1)) E = (aft (l.take i) E).set (l.getD i d0).1.toNat (l.getD i d0).2 := by
  unfold aft
  rw [List.take_succ_eq_append_getElem hi, List.foldl_append, List.getD_eq_getElem?_getD, List.getElem?_eq_getElem hi]
  rfl
end Sk
namespace Go.Proofs.YtjpbccpleflkhaaDoor
open Go.RowKit

/-- A row of ends that is the call's own. -/
def RowB (B : Nat) (e : TypeId) (w : World) (v : Value) (l : List Bool) : Prop := w.ownsRow B e 1 v l.length (l.map fun b => .bool b)
theorem RowB.below {B : Nat} {e : TypeId} {w w' : World} {v : Value} {l : List Bool} (h : RowB B e w v l) {C : Nat} (hb : Below C w w') (hC : w.heap.size ≤ C) : RowB B e w' v l := by
  refine ⟨h.1, ?_⟩
  rcases h.2 with h' | ⟨g, cap, cur, h', h1, h2, h3⟩
  · exact .inl h'
  · exact .inr ⟨g, cap, cur, h', h1, by rw [hb.block g (Nat.lt_of_lt_of_le (Array.getElem?_eq_some_iff.1 h2).1 hC)]; exact h2, h3⟩
theorem RowB.step {B : Nat} {e : TypeId} {w w' : World} {v : Value} {l : List Bool} (h : RowB B e w v l) (hb : Below w.heap.size w w') : RowB B e w' v l := h.below hb (Nat.le_refl _)
theorem RowB.sees {B : Nat} {e : TypeId} {w : World} {v : Value} {l : List Bool} (h : RowB B e w v l) : SeeB w v l := by
  rcases h.2 with ⟨rfl, h0⟩ | ⟨g, cap, cur, rfl, hb, hg, h1, h2, h3, h4⟩
  · have := List.eq_nil_of_length_eq_zero h0
    subst this
    exact SeeB.nil w
  · refine ⟨_, cap, rfl, h1, by unfold maxLen at h2; omega, fun _ => ⟨g, 0, rfl, (Array.getElem?_eq_some_iff.1 hg).1, fun i hi => ?_⟩⟩
    have h5 := World.ownsRow.cellAt h i (by omega)
    rw [Nat.zero_add, h5, List.getElem?_map, List.getElem?_eq_getElem hi, Option.map_some, List.getD_eq_getElem?_getD, List.getElem?_eq_getElem hi]
    rfl
theorem RowB.nil (B : Nat) (e : TypeId) (w : World) : RowB B e w (.slice none 0 0) [] := World.ownsRow_nil _ _ _ _
theorem RowB.form {B : Nat} {e : TypeId} {w : World} {v : Value} {l : List Bool} (h : RowB B e w v l) (hl : 0 < l.length) : ∃ g cap, v = .slice (some ⟨g, 0, none⟩) l.length cap ∧ B ≤ g ∧ g < w.heap.size := by
  have hlt := World.ownsRow.lt h
  rcases h.2 with ⟨rfl, h0⟩ | ⟨g, cap, cur, rfl, _⟩
  · omega
  · exact ⟨g, cap, rfl, (hlt g rfl).1, (hlt g rfl).2⟩
theorem RowB.at {B g cap : Nat} {e : TypeId} {w : World} {l : List Bool} (h : RowB B e w (.slice (some ⟨g, 0, none⟩) l.length cap) l) {i : Nat} (hi : i < l.length) : w.cell? ⟨g, i, none⟩ = some (.bool (l.getD i false)) ∧ w.frozen? ⟨g, i, none⟩ = false := by
  refine ⟨?_, World.ownsRow.frozenAt h i⟩
  have h5 := World.ownsRow.cellAt h i (by omega)
  rw [h5, List.getElem?_map, List.getElem?_eq_getElem hi, Option.map_some, List.getD_eq_getElem?_getD, List.getElem?_eq_getElem hi]
  rfl
theorem RowB.put {B g cap : Nat} {e : TypeId} {w : World} {l : List Bool} (h : RowB B e w (.slice (some ⟨g, 0, none⟩) l.length cap) l) (i : Nat) (b : Bool) : RowB B e (w.setCell ⟨g, i, none⟩ (.bool b)) (.slice (some ⟨g, 0, none⟩) l.length cap) (l.set i b) := by
  have := (World.ownsRow.stored h i (.bool b)).1
  unfold RowB
  rw [List.length_set, List.map_set]
  exact this
theorem info_bool : ∃ i : TypeInfo, Tryd.prog.info? 4 = some i ∧ i.zero = some (.bool false) ∧ i.size = 1 ∧ i.bytes = 1 := by
  have h : (Tryd.prog.info? 4).map (fun i => (i.zero, i.size, i.bytes)) = some (some (.bool false), 1, 1) := by kernel_rfl
  obtain ⟨i, h1, h2⟩ := Option.map_eq_some_iff.1 h
  simp only [Prod.mk.injEq] at h2
  exact ⟨i, h1, h2⟩
/-- 'append' of ends that came in to a slice of the call's own. -/
theorem wpList_append_bools {P : Program} {w : World} {ops : Array Oper} {rest : List Oper} {o : Oper} {a : Act} {Q : Exit → Act → World → Prop} (hgd : o.guard = none) (s x : Operand) (t : TypeId)
    (ho : o.op = .call { callee := .builtin .append, args := #[s, x], argTypes := #[t, t] })
    (e : TypeId) (i : TypeInfo) (ht : P.underlying t = some (.slice e)) (hi : P.info? e = some i) (hz : i.zero = some (.bool false)) (hsize : i.size = 1) (hby : i.bytes = 1)
    (v y : Value) (l m : List Bool) (hs : a.eval s = v) (hx : a.eval x = y) (B : Nat) (hown : RowB B e w v l) (hy : SeeB w y m) (hnil : ∀ n c, y = .slice none n c → c = 0) (hlen : l.length + m.length ≤ 1048576) (hB : B ≤ w.heap.size)
    (h : ∀ v' w', RowB B e w' v' (l ++ m) → Below B w w' → wpList P ops Q rest (a.put o.dst v') w') : wpList P ops Q (o :: rest) a w := by
  obtain ⟨ao, cap, rfl, h1, h2, h3⟩ := hy
  rcases ao with _ | ad
  · obtain rfl := hnil _ _ rfl
    have hm : m = [] := by
      rcases m with _ | ⟨y, m⟩
      · rfl
      · obtain ⟨g, off, h1, _⟩ := h3 (by simp)
        cases h1
    subst hm
    refine wpList_append_own_none hgd s x t ho B e i 1 ht hi v l.length _ hs hown hx ?_
    exact h v w (by rw [List.append_nil]; exact hown) (Below.refl _ _)
  · refine wpList_append_own w hgd s x t ho B e i (.bool false) 1 1 ht hi hz hsize hby rfl (by omega) v l.length _ hs hown ad m.length cap (m.map fun n => .bool n) hx (by simp) ?_ ?_ (by unfold maxLen; omega) (by omega) hB ?_
    · intro j u hj
      rw [List.getElem?_map] at hj
      by_cases hjl : j < m.length
      · rw [List.getElem?_eq_getElem hjl, Option.map_some] at hj
        obtain ⟨b, off, hb, -, h5⟩ := h3 (by omega)
        obtain rfl : ad = ⟨b, off, none⟩ := by simpa using hb
        have h6 := h5 j hjl
        rw [List.getD_eq_getElem?_getD, List.getElem?_eq_getElem hjl, Option.getD_some] at h6
        have hadd : (⟨b, off, none⟩ : Addr).add j = ⟨b, off + j, none⟩ := by unfold Addr.add; split <;> simp_all
        rw [hadd, h6]
        exact hj
      · rw [List.getElem?_eq_none (by omega)] at hj; cases hj
    · exact fun u hu => by obtain ⟨n, _, rfl⟩ := List.mem_map.1 hu; rfl
    · intro v' w' r1 r2 r3
      refine h v' w' ?_ ((Below.refl _ _).grown r2 hB (fun g hg => (World.ownsRow.lt hown g hg).1))
      unfold RowB
      rw [List.length_append, List.map_append]
      exact r1
theorem eql_nilB (a : Option Addr) (n c : Nat) (w : World) : (binOp .eql 49 (.slice a n c) (.slice none 0 0)).run Tryd.prog w = .ok (.bool a.isNone) w := by
  simp only [binOp]
  simp [run_equal_slice_nil w _ _ a n c Tryd.underlying49]
set_option maxHeartbeats 4000000 in
set_option maxRecDepth 100000 in
theorem cloB_any (l : List Bool) (v : Value) (w : World) (hl : l.length ≤ 4096) (hl0 : 0 < l.length) (hs : SeeB w v l) :
    Calls Tryd.prog 67 #[v] w fun e w' => ∃ u, e = .returned u ∧ RowB w.heap.size 4 w' u l ∧ Below w.heap.size w w' := by
  obtain ⟨i0, hi0, hz0, hz1, hz2⟩ := info_bool
  have HS := Lib.hid hs
  obtain ⟨ao, cap, rfl, hcap1, hcap2, hC⟩ := hs
  obtain ⟨g, off, rfl, hg, -⟩ := hC hl0
  have hq := eql_nilB (some ⟨g, off, none⟩) l.length cap
  simp only [Option.isNone_some] at hq
  have HB := Lib.hid (allocB w (.cells #[] 4))
  have hz := HB.out.size
  have HSA := Lib.hid (HS.out.step HB.out)
  have HR := Lib.hid (show RowB w.heap.size 4 (w.alloc (.cells #[] 4)) (.slice (some ⟨w.heap.size, 0, none⟩) 0 0) [] from ⟨rfl, .inr ⟨w.heap.size, 0, #[], rfl, Nat.le_refl _, heap_alloc_new w _, Nat.le_refl _, by decide, rfl, rfl⟩⟩)
  have HN : Hid (∀ n c, (Value.slice (some ⟨g, off, none⟩) l.length cap) = .slice none n c → c = 0) := Lib.hid (fun n c h => by cases h)
  clear hl0
  go_enter Tryd.func67, Tryd.ntmps67
  go_wp2_with (at_builtin; refine wpList_append_bools rfl _ _ 49 rfl 4 i0 Tryd.underlying49 hi0 hz0 hz1 hz2 _ _ [] l rfl rfl w.heap.size HR.out HSA.out HN.out (by simp; omega) hz ?_; intro v5 w5 hr5 hb5; have HR5 := Lib.hid hr5; have HB5 := Lib.hid (HB.out.trans hb5); clear hr5 hb5)
  go_ret
  exact ⟨v5, rfl, by have h := HR5.out; rw [List.nil_append] at h; exact h, HB5.out⟩
end Go.Proofs.YtjpbccpleflkhaaDoor

namespace Sk
theorem sui1_lt {E : List Bool} {k : Nat} {o : Bool} : sui1 E ((k : Int), o) = (decide (k < E.length) && (E.getD k false != o)) := by unfold sui1; simp
end Sk
namespace Go.Proofs.YtjpbccpleflkhaaDoor
open Go.RowKit
def FitP (q : Bool × Int) (w : World) (e : Ending) (w' : World) : Prop := e = .returned (.tuple #[.bool q.1, .int .i64 q.2]) ∧ Below w.heap.size w w'
set_option maxHeartbeats 4000000 in
set_option maxRecDepth 100000 in
theorem sFit_any (v ev : Value) (l : List Sk.Str) (n : Int) (E : List Bool) (w : World) (hs : SeeK w v l) (he : SeeB w ev E) : Calls Tryd.prog 72 #[.agg #[v, .int .i64 n], ev] w (FitP (Sk.fitV l n E) w) := by
  have CC := fun W (h : SeeK W v l) => Lib.hid (sStp_any v l n W h)
  have HS := Lib.hid hs
  have HE := Lib.hid he
  obtain ⟨ao, cap, rfl, hcap1, hcap2, hC⟩ := hs
  obtain ⟨eo, ecap, rfl, hecap1, hecap2, hCE⟩ := he
  have HC := Lib.hid hC
  have HCE := Lib.hid hCE
  obtain ⟨P0, L0, z0⟩ := boxP_new w (.slice ao l.length cap) (.int .i64 n) 70
  have HL := Lib.hid L0
  have HP := Lib.hid P0
  have HSX := Lib.hid (HS.out.step L0)
  clear hC hCE L0 P0 z0
  by_cases h1 : Sk.chkP l n = 0
  · obtain ⟨hR, hn1, hn2⟩ := Sk.chkP_ok h1
    have hv : Sk.fitV l n E = if 6 < E.length then (false, 5) else (Sk.sui l E, 0) := if_pos h1
    rw [h1] at CC
    by_cases h6 : 6 < E.length
    · have hv2 : Sk.fitV l n E = (false, 5) := by rw [hv, if_pos h6]
      rw [hv2]
      have h6' : decide (6 < (E.length : Int)) = true := decide_eq_true (by omega)
      clear hv hv2 h1 h6 hR
      go_enter Tryd.func72, Tryd.ntmps72
      go_wp2_with fail
      refine ((CC _ HSX.out).out).mono ?_
      rintro e w1 ⟨rfl, hb1⟩
      have HB1 := Lib.hid (below_nxt HL.out hb1)
      clear hb1
      go_wp2
      exact bodyPost_ret (v := .tuple #[.bool false, .int .i64 5]) (by simp [results, Tryd.results72, go_sem]) rfl ⟨rfl, HB1.out⟩
    · have hv2 : Sk.fitV l n E = (Sk.sui l E, 0) := by rw [hv, if_neg h6]
      have h6' : decide (6 < (E.length : Int)) = false := decide_eq_false (by omega)
      have HNo := Lib.hid (fun i (hi : i < l.length) (h : Sk.sui1 E (l.getD i Sk.d0) = false) => show Sk.fitV l n E = (false, 0) by rw [hv2, Sk.sui_no hi h])
      have HYes := Lib.hid (fun (h : ∀ i, i < l.length → Sk.sui1 E (l.getD i Sk.d0) = true) => show Sk.fitV l n E = (true, 0) by rw [hv2, Sk.sui_iff.2 h])
      have HAct := Lib.hid hR.act
      have hl6 := hR.le6
      have hE6 : E.length ≤ 6 := by omega
      clear hv hv2 h1 h6 hR
      generalize Sk.fitV l n E = q at *
      go_enter Tryd.func72, Tryd.ntmps72
      go_wp2_with fail
      refine ((CC _ HSX.out).out).mono ?_
      rintro e w1 ⟨rfl, hb1⟩
      have HB1 := Lib.hid (below_nxt HL.out hb1)
      obtain ⟨p0, p1, p2⟩ := HP.out.step hb1
      clear hb1
      go_wp2
      clear p0 p1 p2
      go_loopw [20] (fun s18 wr => ∃ i : Nat, i ≤ l.length ∧ s18 = .int .i64 (i : Int) ∧ Hid (∀ a, a < i → Sk.sui1 E (l.getD a Sk.d0) = true) ∧ Hid (Below w.heap.size w wr)) (fun s18 _ => l.length - (intOf s18).toNat)
      case atStart => exact ⟨0, Nat.zero_le _, rfl, Lib.hid (fun a h => by omega), HB1⟩
      case round =>
        clear HP HL HB1
        obtain ⟨i, hi, rfl, HJ, HBW⟩ := hrel
        by_cases hil : i < l.length
        · obtain ⟨g, off, rfl, hg, c1, c2⟩ := HC.out.at HBW.out hil
          have HNi := Lib.hid (HNo.out i hil)
          have hact := HAct.out i hil
          have HJ2 : Hid (Sk.sui1 E (l.getD i Sk.d0) = true → ∀ a, a < i + 1 → Sk.sui1 E (l.getD a Sk.d0) = true) := Lib.hid (fun h a ha => by
            by_cases e : a = i
            · rw [e]; exact h
            · exact HJ.out a (by omega))
          clear HNo HYes HJ HAct
          generalize l.getD i Sk.d0 = y at *
          obtain ⟨x, o⟩ := y
          simp only at hact c1 c2
          obtain ⟨k, rfl⟩ := Int.eq_ofNat_of_zero_le hact.1
          rw [Sk.sui1_lt] at HNi HJ2
          obtain ⟨P1, L1, z1⟩ := boxP_new wr (.int .i64 (k : Int)) (.bool o) 47
          have HB1 := Lib.hid (below_nxt HBW.out L1)
          obtain ⟨p0, p1, p2⟩ := P1
          clear L1 z1
          by_cases hk : k < E.length
          · obtain ⟨ge, oe, rfl, hge, d1⟩ := HCE.out.at HBW.out hk
            have d2 := (allocB wr (.cells #[.int .i64 (k : Int), .bool o] 47)).cell (p := ⟨ge, oe + k, none⟩) (Nat.lt_of_lt_of_le hge HBW.out.size)
            rw [d1] at d2
            have hd : decide (E.length ≤ k) = false := decide_eq_false (by omega)
            have hkz : (k : Int) < (E.length : Int) := by omega
            rw [decide_eq_true hk, Bool.true_and] at HNi HJ2
            generalize E.getD k false = b at *
            cases hbo : (b != o)
            · have hq := HNi.out hbo
              have hbo' : (b == o) = true := by revert hbo; cases b <;> cases o <;> decide
              subst hq
              clear HNi HJ2 hbo d1
              go_wp2
              go_quiet (fail)
              go_wp2
              exact bodyPost_ret (v := .tuple #[.bool false, .int .i64 0]) (by simp [results, Tryd.results72, go_sem]) rfl ⟨rfl, HB1.out.trans (below_drewN _ _)⟩
            · have HJ3 := Lib.hid (HJ2.out hbo)
              have hbo' : (b == o) = false := by revert hbo; cases b <;> cases o <;> decide
              clear HNi HJ2 hbo d1
              go_wp2
              go_quiet (fail)
              go_wp2
              exact ⟨⟨i + 1, by omega, by first | rfl | go_num, HJ3, Lib.hid (HB1.out.trans (below_drewN _ _))⟩, by simp [intOf]; omega⟩
          · have hq := HNi.out (by rw [decide_eq_false hk]; rfl)
            have hd : decide (E.length ≤ k) = true := decide_eq_true (by omega)
            subst hq
            clear HNi HJ2
            go_wp2
            go_quiet (fail)
            go_wp2
            exact bodyPost_ret (v := .tuple #[.bool false, .int .i64 0]) (by simp [results, Tryd.results72, go_sem]) rfl ⟨rfl, HB1.out.trans (below_drewN _ _)⟩
        · obtain rfl : i = l.length := by omega
          have hq := HYes.out HJ.out
          subst hq
          clear HNo HYes HJ HAct
          go_wp2
          exact bodyPost_ret (v := .tuple #[.bool true, .int .i64 0]) (by simp [results, Tryd.results72, go_sem]) rfl ⟨rfl, HBW.out⟩
  · have hv : Sk.fitV l n E = (false, Sk.chkP l n) := if_neg h1
    rw [hv]
    have h1' : (Sk.chkP l n == 0) = false := by simpa using h1
    clear hv h1
    generalize Sk.chkP l n = q at *
    go_enter Tryd.func72, Tryd.ntmps72
    go_wp2_with fail
    refine ((CC _ HSX.out).out).mono ?_
    rintro e w1 ⟨rfl, hb1⟩
    have HB1 := Lib.hid (below_nxt HL.out hb1)
    clear hb1
    go_wp2
    exact bodyPost_ret (v := .tuple #[.bool false, .int .i64 q]) (by simp [results, Tryd.results72, go_sem]) rfl ⟨rfl, HB1.out⟩
end Go.Proofs.YtjpbccpleflkhaaDoor

namespace Go.Proofs.YtjpbccpleflkhaaDoor
open Go.RowKit
def AppP (q : List Bool × Int) (w : World) (e : Ending) (w' : World) : Prop := ∃ u, e = .returned (.tuple #[u, .int .i64 q.2]) ∧ SeeB w' u q.1 ∧ Below w.heap.size w w' ∧ (∀ n c, u = .slice none n c → c = 0)
set_option maxHeartbeats 4000000 in
set_option maxRecDepth 100000 in
theorem sApp_any (v ev : Value) (l : List Sk.Str) (n : Int) (E : List Bool) (w : World) (hs : SeeK w v l) (he : SeeB w ev E) : Calls Tryd.prog 37 #[.agg #[v, .int .i64 n], ev] w (AppP (Sk.appV l n E) w) := by
  have CF := fun W (h : SeeK W v l) (h2 : SeeB W ev E) => Lib.hid (sFit_any v ev l n E W h h2)
  have HS := Lib.hid hs
  have HE := Lib.hid he
  obtain ⟨ao, cap, rfl, hcap1, hcap2, hC⟩ := hs
  obtain ⟨eo, ecap, rfl, hecap1, hecap2, -⟩ := he
  have HC := Lib.hid hC
  obtain ⟨P0, L0, z0⟩ := boxP_new w (.slice ao l.length cap) (.int .i64 n) 70
  have HL := Lib.hid L0
  have HP := Lib.hid P0
  have HSX := Lib.hid (HS.out.step L0)
  have HEX := Lib.hid (HE.out.step L0)
  clear hC L0 P0 z0
  by_cases h1 : Sk.chkP l n = 0
  · obtain ⟨hR, hn1, hn2⟩ := Sk.chkP_ok h1
    have hf : Sk.fitV l n E = if 6 < E.length then (false, 5) else (Sk.sui l E, 0) := if_pos h1
    have hv : Sk.appV l n E = if 6 < E.length then ([], 5) else (if Sk.sui l E then (Sk.aft l E, 0) else ([], 14)) := if_pos h1
    by_cases h6 : 6 < E.length
    · have hf2 : Sk.fitV l n E = (false, 5) := by rw [hf, if_pos h6]
      have hv2 : Sk.appV l n E = ([], 5) := by rw [hv, if_pos h6]
      rw [hv2]
      rw [hf2] at CF
      clear hv hv2 hf hf2 h1 h6 hR
      go_enter Tryd.func37, Tryd.ntmps37
      go_wp2_with fail
      refine ((CF _ HSX.out HEX.out).out).mono ?_
      rintro e w1 ⟨rfl, hb1⟩
      have HB1 := Lib.hid (below_nxt HL.out hb1)
      clear hb1
      go_wp2
      exact bodyPost_ret (v := .tuple #[.slice none 0 0, .int .i64 5]) (by simp [results, Tryd.results37, go_sem]) rfl ⟨_, rfl, SeeB.nil _, HB1.out, by rintro _ _ ⟨⟩; rfl⟩
    · have hf2 : Sk.fitV l n E = (Sk.sui l E, 0) := by rw [hf, if_neg h6]
      rw [hf2] at CF
      rw [if_neg h6] at hv
      cases hsu : Sk.sui l E <;> rw [hsu] at hv CF
      · rw [if_neg (by decide)] at hv
        rw [hv]
        clear hv hf hf2 h1 h6 hR hsu
        go_enter Tryd.func37, Tryd.ntmps37
        go_wp2_with fail
        refine ((CF _ HSX.out HEX.out).out).mono ?_
        rintro e w1 ⟨rfl, hb1⟩
        have HB1 := Lib.hid (below_nxt HL.out hb1)
        clear hb1
        go_wp2
        exact bodyPost_ret (v := .tuple #[.slice none 0 0, .int .i64 14]) (by simp [results, Tryd.results37, go_sem]) rfl ⟨_, rfl, SeeB.nil _, HB1.out, by rintro _ _ ⟨⟩; rfl⟩
      · rw [if_pos rfl] at hv
        rw [hv]
        have hsui := Sk.sui_iff.1 hsu
        have HAct := Lib.hid (fun i (hi : i < l.length) => show ∃ (k : Nat) (o : Bool), l.getD i Sk.d0 = ((k : Int), o) ∧ k < E.length from by
          obtain ⟨k, hk⟩ := Int.eq_ofNat_of_zero_le (hR.act i hi).1
          refine ⟨k, (l.getD i Sk.d0).2, Prod.ext hk rfl, ?_⟩
          have h := hsui i hi
          unfold Sk.sui1 at h
          rw [Bool.and_eq_true, decide_eq_true_iff] at h
          have := h.1
          omega)
        have hE0 : 0 < E.length := by
          obtain ⟨k, o, -, hk⟩ := HAct.out 0 hR.pos
          omega
        have hE6 : E.length ≤ 6 := by omega
        have hl6 := hR.le6
        have HT := Lib.hid (fun i (hi : i < l.length) => Sk.aft_take hi E)
        have HLn := Lib.hid (fun i => Sk.aft_len (l.take i) E)
        have HAll : Hid (Sk.aft l E = Sk.aft (l.take l.length) E) := Lib.hid (by rw [List.take_length])
        have CCl := fun W (h : SeeB W (.slice eo E.length ecap) E) => Lib.hid (cloB_any E _ W (by omega) hE0 h)
        clear hv hf hf2 h1 h6 hR hsu hsui
        go_enter Tryd.func37, Tryd.ntmps37
        go_wp2_with fail
        refine ((CF _ HSX.out HEX.out).out).mono ?_
        rintro e w1 ⟨rfl, hb1⟩
        have HB1 := Lib.hid (below_nxt HL.out hb1)
        have HP1 := Lib.hid (HP.out.step hb1)
        clear hb1
        go_wp2_with fail
        refine ((CCl _ (HE.out.step HB1.out)).out).mono ?_
        rintro e w2 ⟨u, rfl, hr2, hb2⟩
        have HB2 := Lib.hid (below_nxt HB1.out hb2)
        obtain ⟨p0, p1, p2⟩ := HP1.out.step hb2
        obtain ⟨g, cp, rfl, hg1, hg2⟩ := hr2.form hE0
        have HR2 := Lib.hid hr2
        have hz12 := HB1.out.size
        clear hb2 hr2
        go_wp2
        clear p0 p1 p2
        go_loopw [27] (fun s18 wr => ∃ i : Nat, i ≤ l.length ∧ s18 = .int .i64 (i : Int) ∧ Hid (RowB w1.heap.size 4 wr (.slice (some ⟨g, 0, none⟩) E.length cp) (Sk.aft (l.take i) E)) ∧ Hid (Below w.heap.size w wr)) (fun s18 _ => l.length - (intOf s18).toNat)
        case atStart => exact ⟨0, Nat.zero_le _, rfl, by simpa [Sk.aft] using HR2, HB2⟩
        case round =>
          clear HR2 HB2
          obtain ⟨i, hi, rfl, HRW, HBW⟩ := hrel
          by_cases hil : i < l.length
          · obtain ⟨gs, off, rfl, hgs, c1, c2⟩ := HC.out.at HBW.out hil
            obtain ⟨k, o, hko, hk⟩ := HAct.out i hil
            have HTi := Lib.hid (HT.out i hil)
            have hln := HLn.out i
            clear HT HLn HAct
            rw [hko] at c1 c2 HTi
            generalize Sk.aft (l.take i) E = F at *
            rw [← hln] at hk
            rw [← hln] at HRW
            obtain ⟨d1, d2⟩ := HRW.out.at hk
            have L1 := allocB wr (.cells #[.int .i64 (k : Int), .bool o] 47)
            have hgw : g < wr.heap.size := World.block_lt_of_cell? wr ⟨g, k, none⟩ d1
            have HR1 := Lib.hid ((HRW.out.put k o).step (allocB _ (.cells #[.int .i64 (k : Int), .bool o] 47)))
            have HB1' := Lib.hid (below_nxt (HBW.out.setCell (p := ⟨g, k, none⟩) (by show w.heap.size ≤ g; omega) (.bool o)) (allocB _ (.cells #[.int .i64 (k : Int), .bool o] 47)))
            have e1 := (L1.cell (p := ⟨g, k, none⟩) hgw).trans d1
            have e2 := (L1.frozen (p := ⟨g, k, none⟩) hgw).trans d2
            have hkz : (k : Int) < (E.length : Int) := by omega
            have hT2 : Hid (Sk.aft (l.take (i + 1)) E = F.set k o) := Lib.hid (by rw [HTi.out]; simp)
            clear L1 HRW HBW HTi
            generalize F.getD k false = f at *
            go_wp2
            refine ⟨⟨i + 1, by omega, by first | rfl | go_num, ?_, HB1'⟩, by simp [intOf]; omega⟩
            rw [hT2.out, ← hln]; exact HR1
          · have hii : i = l.length := by omega
            subst hii
            have hln := HLn.out l.length
            have HSe := Lib.hid (show SeeB wr (.slice (some ⟨g, 0, none⟩) E.length cp) (Sk.aft l E) by rw [HAll.out, ← hln]; exact (show RowB w1.heap.size 4 wr (.slice (some ⟨g, 0, none⟩) (Sk.aft (l.take l.length) E).length cp) (Sk.aft (l.take l.length) E) by rw [hln]; exact HRW.out).sees)
            clear HT HLn HAct
            go_wp2
            exact bodyPost_ret (v := .tuple #[.slice (some ⟨g, 0, none⟩) E.length cp, .int .i64 0]) (by simp [results, Tryd.results37, go_sem]) rfl ⟨_, rfl, HSe.out, HBW.out, fun n c h => by cases h⟩
  · have hv : Sk.appV l n E = ([], Sk.chkP l n) := if_neg h1
    have hf : Sk.fitV l n E = (false, Sk.chkP l n) := if_neg h1
    rw [hv]
    rw [hf] at CF
    have h1' : (Sk.chkP l n == 0) = false := by simpa using h1
    clear hv h1 hf
    generalize Sk.chkP l n = q at *
    go_enter Tryd.func37, Tryd.ntmps37
    go_wp2_with fail
    refine ((CF _ HSX.out HEX.out).out).mono ?_
    rintro e w1 ⟨rfl, hb1⟩
    have HB1 := Lib.hid (below_nxt HL.out hb1)
    clear hb1
    go_wp2
    exact bodyPost_ret (v := .tuple #[.slice none 0 0, .int .i64 q]) (by simp [results, Tryd.results37, go_sem]) rfl ⟨_, rfl, SeeB.nil _, HB1.out, by rintro _ _ ⟨⟩; rfl⟩
end Go.Proofs.YtjpbccpleflkhaaDoor

namespace Sk
def sgn (o : Bool) : Int := if o then 43 else 45
/-- The text of a stroke. -/
def strT (x : Str) : List UInt8 := [(65 + x.1.toNat).toUInt8, if x.2 then 43 else 45]
end Sk
namespace Go.Proofs.YtjpbccpleflkhaaDoor
open Go.RowKit
theorem runes_strT (k : Nat) (o : Bool) (hk : k < 6) : runesBytes [65 + (k : Int), Sk.sgn o] = ⟨(Sk.strT ((k : Int), o)).toArray⟩ := by
  rcases (show k = 0 ∨ k = 1 ∨ k = 2 ∨ k = 3 ∨ k = 4 ∨ k = 5 by omega) with rfl | rfl | rfl | rfl | rfl | rfl <;> cases o <;> kernel_rfl
theorem conv_strT (k : Nat) (o : Bool) (hk : k < 6) (W : World) (g : Nat) (h0 : W.cell? ⟨g, 0, none⟩ = some (.int .i32 (65 + (k : Int)))) (h1 : W.cell? ⟨g, 1, none⟩ = some (.int .i32 (Sk.sgn o))) :
    (convert 146 9 (.slice (some ⟨g, 0, none⟩) 2 2)).run Tryd.prog W = .ok (.string ⟨(Sk.strT ((k : Int), o)).toArray⟩) W := by
  have h := run_convert_runes (P := Tryd.prog) W 146 9 21 ⟨g, 0, none⟩ 2 2 [65 + (k : Int), Sk.sgn o] (by simp) Tryd.underlying146 Tryd.underlying21 Tryd.underlying9 (fun j hj => by
    have ap : (⟨g, 0, none⟩ : Addr).add j = ⟨g, j, none⟩ := by unfold Addr.add; split <;> simp_all
    rw [ap]
    rcases (show j = 0 ∨ j = 1 by simp at hj; omega) with rfl | rfl
    · exact h0
    · exact h1)
  rw [h, show ([65 + (k : Int), Sk.sgn o].take 2) = [65 + (k : Int), Sk.sgn o] from rfl, runes_strT k o hk]
set_option maxRecDepth 100000 in
theorem sTx_any (k : Nat) (o : Bool) (hk : k < 6) (w : World) : Calls Tryd.prog 101 #[.agg #[.int .i64 (k : Int), .bool o]] w fun e w' => e = .returned (.string ⟨(Sk.strT ((k : Int), o)).toArray⟩) ∧ Below w.heap.size w w' := by
  have hB0 : ∀ z, Below w.heap.size w ((w.alloc (.cells #[.int .i64 (k : Int), .bool o] 47)).alloc (.cells #[.int .i32 (65 + (k : Int)), z] 21)) := fun z => (allocB _ _).alloc (by simp) _
  have HB := Lib.hid hB0
  have hcv := conv_strT k o hk ((w.alloc (.cells #[.int .i64 (k : Int), .bool o] 47)).alloc (.cells #[.int .i32 (65 + (k : Int)), .int .i32 (Sk.sgn o)] 21)) (w.heap.size + 1) (by simp) (by simp)
  have hk0 : (0 : Int) ≤ (k : Int) := by omega
  have hk6 : (k : Int) < 6 := by omega
  clear hB0 hk
  generalize Sk.strT ((k : Int), o) = st at *
  cases o
  · unfold Sk.sgn at hcv
    simp only [Bool.false_eq_true, if_false] at hcv
    go_enter Tryd.func101, Tryd.ntmps101
    go_wp2
    go_ret
    exact ⟨rfl, HB.out _⟩
  · unfold Sk.sgn at hcv
    simp only [if_true] at hcv
    go_enter Tryd.func101, Tryd.ntmps101
    go_wp2
    go_ret
    exact ⟨rfl, HB.out _⟩
end Go.Proofs.YtjpbccpleflkhaaDoor
