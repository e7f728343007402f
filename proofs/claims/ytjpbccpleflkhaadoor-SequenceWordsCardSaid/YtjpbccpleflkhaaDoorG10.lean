/- Lists of integers; the steps in which an actuator moves, of package sequence. The check of a sequence, as plain facts. Check of package sequence: its call. -/
import Derived.Test.YtjpbccpleflkhaaDoorG08
import Derived.Test.YtjpbccpleflkhaaDoorG09
import Derived.Test.YtjpbccpleflkhaaDoorG05
namespace Sq
open Sk
def mvB (L : List Stp) (a : Int) (k : Nat) : Bool := decide ((hasV (L.getD k t0).1 (L.getD k t0).2 a).1 ≠ 0)
/-- The first i steps in which an actuator moves. -/
def mvI (L : List Stp) (a : Int) (i : Nat) : List Int := ((List.range i).filter (mvB L a)).map fun k : Nat => (k : Int)
theorem mvI_succ (L : List Stp) (a : Int) (i : Nat) : mvI L a (i + 1) = if mvB L a i then mvI L a i ++ [(i : Int)] else mvI L a i := by
  unfold mvI
  rw [List.range_succ, List.filter_append, List.map_append]
  cases h : mvB L a i <;> simp [h]
theorem mvI_len (L : List Stp) (a : Int) (i : Nat) : (mvI L a i).length ≤ i := by
  unfold mvI
  rw [List.length_map]
  have := List.length_filter_le (mvB L a) (List.range i)
  rwa [List.length_range] at this
end Sq
namespace Go.Proofs.YtjpbccpleflkhaaDoor
open Go.RowKit
/-- Where integers lie, if there are any. -/
def CellsI (w : World) (ao : Option Addr) (l : List Int) : Prop :=
  0 < l.length → ∃ g off, ao = some ⟨g, off, none⟩ ∧ g < w.heap.size ∧ ∀ i, i < l.length → w.cell? ⟨g, off + i, none⟩ = some (.int .i64 (l.getD i 0))
/-- A slice value reads as a list of integers, wherever it begins. -/
def SeeI (w : World) (v : Value) (l : List Int) : Prop := ∃ ao cap, v = .slice ao l.length cap ∧ l.length ≤ cap ∧ cap ≤ 9223372036854775807 ∧ CellsI w ao l
theorem CellsI.step {w w' : World} {ao : Option Addr} {l : List Int} (h : CellsI w ao l) (hb : Below w.heap.size w w') : CellsI w' ao l := by
  intro hl
  obtain ⟨g, off, rfl, hg, h4⟩ := h hl
  exact ⟨g, off, rfl, Nat.lt_of_lt_of_le hg hb.size, fun i hi => (hb.cell (p := ⟨g, off + i, none⟩) hg).trans (h4 i hi)⟩
theorem SeeI.step {w w' : World} {v : Value} {l : List Int} (h : SeeI w v l) (hb : Below w.heap.size w w') : SeeI w' v l := by
  obtain ⟨ao, cap, rfl, h1, h2, h3⟩ := h
  exact ⟨ao, cap, rfl, h1, h2, h3.step hb⟩
theorem CellsI.at {w wr : World} {ao : Option Addr} {l : List Int} (h : CellsI w ao l) (hb : Below w.heap.size w wr) {i : Nat} (hi : i < l.length) :
    ∃ g off, ao = some ⟨g, off, none⟩ ∧ g < w.heap.size ∧ wr.cell? ⟨g, off + i, none⟩ = some (.int .i64 (l.getD i 0)) := by
  obtain ⟨g, off, h1, h2, h3⟩ := h (by omega)
  exact ⟨g, off, h1, h2, (hb.cell (p := ⟨g, off + i, none⟩) h2).trans (h3 i hi)⟩
theorem SeeI.nil (w : World) : SeeI w (.slice none 0 0) [] := ⟨none, 0, rfl, Nat.le_refl _, by omega, fun h => by simp at h⟩
/-- A row of integers that is the call's own. -/
def RowI (B : Nat) (e : TypeId) (w : World) (v : Value) (l : List Int) : Prop := w.ownsRow B e 1 v l.length (l.map fun b => .int .i64 b)
theorem RowI.step {B : Nat} {e : TypeId} {w w' : World} {v : Value} {l : List Int} (h : RowI B e w v l) (hb : Below w.heap.size w w') : RowI B e w' v l := by
  refine ⟨h.1, ?_⟩
  rcases h.2 with h' | ⟨g, cap, cur, h', h1, h2, h3⟩
  · exact .inl h'
  · exact .inr ⟨g, cap, cur, h', h1, by rw [hb.block g (Array.getElem?_eq_some_iff.1 h2).1]; exact h2, h3⟩
theorem RowI.nil (B : Nat) (e : TypeId) (w : World) : RowI B e w (.slice none 0 0) [] := World.ownsRow_nil _ _ _ _
theorem RowI.sees {B : Nat} {e : TypeId} {w : World} {v : Value} {l : List Int} (h : RowI B e w v l) : SeeI w v l := by
  rcases h.2 with ⟨rfl, h0⟩ | ⟨g, cap, cur, rfl, hb, hg, h1, h2, h3, h4⟩
  · have := List.eq_nil_of_length_eq_zero h0
    subst this
    exact SeeI.nil w
  · refine ⟨_, cap, rfl, h1, by unfold maxLen at h2; omega, fun _ => ⟨g, 0, rfl, (Array.getElem?_eq_some_iff.1 hg).1, fun i hi => ?_⟩⟩
    have h5 := World.ownsRow.cellAt h i (by omega)
    rw [Nat.zero_add, h5, List.getElem?_map, List.getElem?_eq_getElem hi, Option.map_some, List.getD_eq_getElem?_getD, List.getElem?_eq_getElem hi]
    rfl
theorem RowI.lt {B : Nat} {e : TypeId} {w : World} {v : Value} {l : List Int} (h : RowI B e w v l) : ∀ r, v.ownBlock = some r → B ≤ r ∧ r < w.heap.size := World.ownsRow.lt h
theorem RowI.form {B : Nat} {e : TypeId} {w : World} {v : Value} {l : List Int} (h : RowI B e w v l) : ∃ ao cap, v = .slice ao l.length cap := by
  rcases h.2 with ⟨rfl, h0⟩ | ⟨g, cap, cur, rfl, _⟩
  · exact ⟨none, 0, by rw [h0]⟩
  · exact ⟨_, _, rfl⟩
theorem info_int : ∃ i : TypeInfo, Tryd.prog.info? 3 = some i ∧ i.zero = some (.int .i64 0) ∧ i.size = 1 ∧ i.bytes = 8 := by
  have h : (Tryd.prog.info? 3).map (fun i => (i.zero, i.size, i.bytes)) = some (some (.int .i64 0), 1, 8) := by kernel_rfl
  obtain ⟨i, h1, h2⟩ := Option.map_eq_some_iff.1 h
  simp only [Prod.mk.injEq] at h2
  exact ⟨i, h1, h2⟩
/-- 'append' of one integer, laid in a block of its own. -/
theorem wpList_append_int1 {P : Program} {w : World} {ops : Array Oper} {rest : List Oper} {o : Oper} {a : Act} {Q : Exit → Act → World → Prop} (hgd : o.guard = none) (s x : Operand) (t : TypeId)
    (ho : o.op = .call { callee := .builtin .append, args := #[s, x], argTypes := #[t, t] })
    (e : TypeId) (i : TypeInfo) (ht : P.underlying t = some (.slice e)) (hi : P.info? e = some i) (hz : i.zero = some (.int .i64 0)) (hsize : i.size = 1) (hby : i.bytes = 8)
    (v : Value) (l : List Int) (y : Int) (b : Nat) (hs : a.eval s = v) (hx : a.eval x = .slice (some ⟨b, 0, none⟩) 1 1) (B : Nat) (hown : RowI B e w v l) (hy : w.cell? ⟨b, 0, none⟩ = some (.int .i64 y)) (hlen : l.length ≤ 1048576) (hB : B ≤ w.heap.size)
    (h : ∀ ao' cap' w', RowI B e w' (.slice ao' (l.length + 1) cap') (l ++ [y]) → w.grownBy w' v.ownBlock → wpList P ops Q rest (a.put o.dst (.slice ao' (l.length + 1) cap')) w') : wpList P ops Q (o :: rest) a w := by
  refine wpList_append_own w hgd s x t ho B e i (.int .i64 0) 1 8 ht hi hz hsize hby rfl (by omega) v l.length _ hs hown ⟨b, 0, none⟩ 1 1 [.int .i64 y] hx (by simp) ?_ ?_ (by unfold maxLen; omega) (by omega) hB ?_
  · intro j u hj
    match j, hj with
    | 0, hj =>
      have : u = .int .i64 y := by simpa using hj.symm
      subst this
      simpa [Addr.add] using hy
    | j + 1, hj => simp at hj
  · exact fun u hu => by
      have : u = .int .i64 y := by simpa using hu
      subst this; rfl
  · intro v' w' r1 r2 r3
    obtain ⟨ao', cap', rfl⟩ : ∃ ao' cap', v' = .slice ao' (l.length + 1) cap' := by
      rcases r1.2 with ⟨_, h⟩ | ⟨g, cap, cur, rfl, _⟩
      · omega
      · exact ⟨_, _, rfl⟩
    refine h _ _ _ ?_ r2
    unfold RowI
    rw [List.length_append, List.map_append]
    exact r1
/-- What moves leaves. -/
def MovP (l : List Int) (w : World) (e : Ending) (w' : World) : Prop := ∃ ao cap, e = .returned (.slice ao l.length cap) ∧ SeeI w' (.slice ao l.length cap) l ∧ Below w.heap.size w w'
set_option maxHeartbeats 4000000 in
set_option maxRecDepth 100000 in
theorem sMov_any (n : Int) (v : Value) (L : List Sk.Stp) (a : Int) (w : World) (hs : SeeT w v L) (hl : L.length ≤ 64) : Calls Tryd.prog 62 #[.agg #[.int .i64 n, v], .int .i64 a] w (MovP (Sq.mvI L a L.length) w) := by
  obtain ⟨i0, hi0, hz0, hz1, hz2⟩ := info_int
  have HS := Lib.hid hs
  obtain ⟨ao, cap, rfl, hcap1, hcap2, hC⟩ := hs
  have HC := Lib.hid hC
  obtain ⟨P0, L0, z0⟩ := boxP_new w (.int .i64 n) (.slice ao L.length cap) 32
  have HL := Lib.hid L0
  obtain ⟨p0, p1, p2⟩ := P0
  have HT := Lib.hid (fun i => Sq.mvI_succ L a i)
  have HLn := Lib.hid (fun i => Sq.mvI_len L a i)
  clear hC L0 z0
  go_enter Tryd.func62, Tryd.ntmps62
  go_wp2
  clear p0 p1 p2
  go_loopw [5, 13] (fun s5 s13 wr => ∃ i : Nat, i ≤ L.length ∧ s13 = .int .i64 (i : Int) ∧ Hid (RowI w.heap.size 3 wr s5 (Sq.mvI L a i)) ∧ Hid (Below w.heap.size w wr)) (fun _ s13 _ => L.length - (intOf s13).toNat)
  case atStart => exact ⟨0, Nat.zero_le _, rfl, Lib.hid (RowI.nil _ _ _), HL⟩
  case round =>
    obtain ⟨i, hi, rfl, HR, HB⟩ := hrel
    obtain ⟨ro, rc, hro⟩ := HR.out.form
    have hiz : (L.length : Int) ≤ 64 := by omega
    by_cases hil : i < L.length
    · subst hro
      obtain ⟨g, off, ak, ck, rfl, hg, c1, c2, hk⟩ := HC.out.at HB.out hil
      have HTi := Lib.hid (HT.out i)
      have HLi := Lib.hid (HLn.out i)
      have L1 := allocB wr (.cells #[.slice ak (L.getD i Sk.t0).1.length ck, .int .i64 (L.getD i Sk.t0).2] 70)
      have HB1 := Lib.hid (below_nxt HB.out L1)
      have HR1 := Lib.hid (HR.out.step L1)
      have HK := Lib.hid (hk.step L1)
      have hgr : g < wr.heap.size := Nat.lt_of_lt_of_le hg HB.out.size
      have CH := fun V (h : SeeK V (.slice ak (L.getD i Sk.t0).1.length ck) (L.getD i Sk.t0).1) => Lib.hid (sHas_any _ _ (L.getD i Sk.t0).2 a V h)
      have hmv : Sq.mvB L a i = decide ((Sk.hasV (L.getD i Sk.t0).1 (L.getD i Sk.t0).2 a).1 ≠ 0) := rfl
      clear HT HLn hk L1 HB HR
      generalize L.getD i Sk.t0 = y at *
      obtain ⟨l, k⟩ := y
      simp only at c1 c2 HK HB1 HR1 CH hmv
      generalize Sq.mvI L a i = F at *
      generalize Sk.hasV l k a = hv at *
      obtain ⟨h1, h2⟩ := hv
      simp only at hmv
      unfold HasP at CH
      simp only at CH
      by_cases hh : h1 = 0
      · subst hh
        have HTn := Lib.hid (show Sq.mvI L a (i + 1) = F by rw [HTi.out, hmv]; simp)
        clear hmv HTi
        go_wp2_with fail
        refine ((CH _ HK.out).out).mono ?_
        rintro e w2 ⟨rfl, hb2⟩
        have HB2 := Lib.hid (below_nxt HB1.out hb2)
        have HR2 := Lib.hid (HR1.out.step hb2)
        clear hb2
        go_wp2
        exact ⟨⟨i + 1, by omega, by first | rfl | go_num, by rw [HTn.out]; exact HR2, HB2⟩, by simp [intOf]; omega⟩
      · have hh' : (h1 != 0) = true := by simpa using hh
        have HTn := Lib.hid (show Sq.mvI L a (i + 1) = F ++ [(i : Int)] by rw [HTi.out, hmv, decide_eq_true hh]; rfl)
        clear hmv HTi hh
        go_wp2_with fail
        refine ((CH _ HK.out).out).mono ?_
        rintro e w2 ⟨rfl, hb2⟩
        have HB2 := Lib.hid (below_nxt HB1.out hb2)
        have HR2 := Lib.hid (HR1.out.step hb2)
        clear hb2 c1 c2
        go_wp2_with (at_builtin; refine wpList_append_int1 rfl _ _ 54 rfl 3 i0 Tryd.underlying54 hi0 hz0 hz1 hz2 _ F (i : Int) w2.heap.size rfl rfl w.heap.size (HR2.out.step (allocB _ _)) (by simp) (by have := HLi.out; omega) (Nat.le_trans HB2.out.size (by simp)) ?_; intro a5 p5 w5 hr5 hg5; have HR5 := Lib.hid hr5; have HB5 := Lib.hid ((HB2.out.alloc HB2.out.size (.cells #[.int .i64 (i : Int)] 3)).grown hg5 (Nat.le_trans HB2.out.size (by simp)) (fun r e => (HR2.out.lt r e).1)); clear hr5 hg5)
        exact ⟨⟨i + 1, by omega, by first | rfl | go_num, by rw [HTn.out]; exact HR5, HB5⟩, by simp [intOf]; omega⟩
    · obtain rfl : i = L.length := by omega
      subst hro
      have HSe := Lib.hid HR.out.sees
      go_wp2
      go_ret
      exact ⟨_, _, rfl, HSe.out, HB.out⟩
end Go.Proofs.YtjpbccpleflkhaaDoor

namespace Sq
open Sk
theorem upto_ex (L : List Stp) : ∃ m, Upto L m := by
  have h : ∀ k, k ≤ L.length → (∃ m, m < k ∧ (∀ j, j < m → okS L j = true) ∧ okS L m = false) ∨ (∀ j, j < k → okS L j = true) := by
    intro k
    induction k with
    | zero => intro _; exact .inr (fun j h => by omega)
    | succ k ih =>
      intro hk
      rcases ih (by omega) with ⟨m, h1, h2, h3⟩ | h
      · exact .inl ⟨m, by omega, h2, h3⟩
      · cases ho : okS L k with
        | false => exact .inl ⟨k, by omega, h, ho⟩
        | true => exact .inr (fun j hj => by
            by_cases e : j = k
            · rw [e]; exact ho
            · exact h j (by omega))
  rcases h L.length (Nat.le_refl _) with ⟨m, h1, h2, h3⟩ | h
  · exact ⟨m, by omega, h2, fun _ => h3⟩
  · exact ⟨L.length, Nat.le_refl _, h, fun h => by omega⟩
theorem csV_stE {n : Nat} (hn : n ≤ 6) (L : List Stp) (k : Nat) : csV n (L.getD k t0).1 (L.getD k t0).2 (bh 6 L k) = stE n L k := by
  rw [stE_six hn]; rfl
/-- What the elements that came say, if they are a part of all. -/
theorem pre_idx {m : Nat} {p rest : List Nat} {x : Nat} (h : List.range m = (p ++ [x]) ++ rest) : x = p.length ∧ ∀ j, j < x → j ∈ p := by
  have h1 := range_pre h
  rw [List.length_append, List.length_singleton, List.range_succ] at h1
  obtain ⟨h2, h3⟩ := List.append_inj h1 (by simp)
  have h4 : x = p.length := by simpa using h3
  exact ⟨h4, fun j hj => by rw [h2]; exact List.mem_range.2 (by omega)⟩
theorem has_way {L : List Stp} {k : Nat} (h : chkP (L.getD k t0).1 (L.getD k t0).2 = 0) {a : Nat} (ha : a < 6) : hasV (L.getD k t0).1 (L.getD k t0).2 (a : Int) = (wayV (L.getD k t0).1 (a : Int), 0) := by
  unfold hasV
  rw [if_pos h, if_pos ((chkS_eq _).2 ⟨by omega, by omega⟩)]
theorem mvI_nil {L : List Stp} (h : ∀ k, k < L.length → chkP (L.getD k t0).1 (L.getD k t0).2 = 0) {a : Nat} (ha : a < 6) : (mvI L (a : Int) L.length).length = 0 ↔ mvs L a = false := by
  unfold mvI mvs
  rw [List.length_map, List.length_eq_zero_iff, List.filter_eq_nil_iff]
  constructor
  · intro hh
    rw [List.any_eq_false]
    intro x hx
    obtain ⟨i, hi, rfl⟩ := List.mem_iff_getElem.1 hx
    have h1 := hh i (List.mem_range.2 hi)
    unfold mvB at h1
    rw [has_way (h i hi) ha, List.getD_eq_getElem?_getD, List.getElem?_eq_getElem hi] at h1
    simpa using h1
  · intro hh k hk
    rw [List.any_eq_false] at hh
    have hi := List.mem_range.1 hk
    have h1 := hh _ (List.getElem_mem hi)
    unfold mvB
    rw [has_way (h k hi) ha, List.getD_eq_getElem?_getD, List.getElem?_eq_getElem hi]
    simpa using h1
theorem all_range_of {p : Nat → Bool} {n : Nat} (h : ∀ j, j < n → p j = true) : (List.range n).all p = true := by
  rw [List.all_eq_true]; exact fun j hj => h j (List.mem_range.1 hj)
theorem all_range_no {p : Nat → Bool} {n i : Nat} (hi : i < n) (h : p i = false) : (List.range n).all p = false := by
  rw [List.all_eq_false]; exact ⟨i, List.mem_range.2 hi, by rw [h]; decide⟩
theorem chk_rng {n : Int} {L : List Stp} (h : n < 1 ∨ 6 < n) : chk n L = 2 := by unfold chk; rw [if_neg (by omega)]
theorem chk_emp {n : Int} {L : List Stp} (h : 1 ≤ n ∧ n ≤ 6) (hl : L.length = 0) : chk n L = 13 := by unfold chk; rw [if_pos h, if_pos hl]
theorem chk_many {n : Int} {L : List Stp} (h : 1 ≤ n ∧ n ≤ 6) (hl : 64 < L.length) : chk n L = 5 := by unfold chk; rw [if_pos h, if_neg (by omega), if_pos hl]
theorem chk_step {n : Nat} {L : List Stp} (h : 1 ≤ n ∧ n ≤ 6) (h0 : 0 < L.length) (hl : L.length ≤ 64) {k : Nat} (hk : k < L.length) (h1 : ∀ j, j < k → stE n L j = 0) (h2 : stE n L k ≠ 0) : chk (n : Int) L = stE n L k := by
  unfold chk
  rw [if_pos (by omega), if_neg (by omega), if_neg (by omega), Int.toNat_natCast]
  unfold chk2
  have e := fe_stop h1 h2 hk
  rw [e, if_neg h2]
theorem chk_last {n : Nat} {L : List Stp} (h : 1 ≤ n ∧ n ≤ 6) (h0 : 0 < L.length) (hl : L.length ≤ 64) (h1 : ∀ j, j < L.length → stE n L j = 0) : chk (n : Int) L = if bh 6 L L.length ≠ List.replicate 6 false then 9 else (if (List.range n).all (mvs L) then 0 else 13) := by
  unfold chk
  rw [if_pos (by omega), if_neg (by omega), if_neg (by omega), Int.toNat_natCast]
  unfold chk2
  rw [fe_all h1, if_pos rfl]
  unfold chk3
  rw [← any_six (by omega) h.2 h1, any_eq 6 _ (bh_len 6 L L.length)]
  by_cases he : bh 6 L L.length = List.replicate 6 false
  · have e1 : decide (bh 6 L L.length ≠ List.replicate 6 false) = false := decide_eq_false (fun h => h he)
    rw [e1]
    have e2 : ¬ (bh 6 L L.length ≠ List.replicate 6 false) := fun h => h he
    rw [if_neg e2]; rfl
  · rw [decide_eq_true he, if_pos rfl, if_pos he]
end Sq

namespace Go.Proofs.YtjpbccpleflkhaaDoor
open Go.RowKit Go.Shelf
attribute [local go_sem] Oper.semAt_some
/-- The ends that were seen last. -/
def lastE (L : List Sk.Stp) (pre : List (Sq.Ix L)) : List Bool := match pre.getLast? with
  | none => List.replicate 6 false
  | some x => Sq.bh 6 L x.1
theorem lastE_snoc (L : List Sk.Stp) (pre : List (Sq.Ix L)) (x : Sq.Ix L) : lastE L (pre ++ [x]) = Sq.bh 6 L x.1 := by unfold lastE; rw [List.getLast?_append]; rfl
/-- Between two rounds of Check. -/
def CkI (n : Nat) (v : Value) (L : List Sk.Stp) (w : World) (pre : List (Sq.Ix L)) (W : World) : Prop :=
  (∀ x ∈ pre, x.1 < L.length ∧ Sq.stE n L x.1 = 0) ∧ BoxP W w.heap.size (.int .i64 (n : Int)) v ∧ BoxW W (w.heap.size + 1) (.int .i64 0) ∧ BoxE W (w.heap.size + 2) (lastE L pre) ∧ Below w.heap.size w W
/-- When a round has left. -/
def CkX (n : Nat) (v : Value) (L : List Sk.Stp) (w : World) (c : Code) (pre : List (Sq.Ix L)) (W : World) : Prop :=
  ∃ p x, pre = p ++ [x] ∧ (∀ y ∈ p, y.1 < L.length ∧ Sq.stE n L y.1 = 0) ∧ Below w.heap.size w W ∧
    ((c = .exit 0 ∧ x.1 = L.length ∧ BoxP W w.heap.size (.int .i64 (n : Int)) v ∧ BoxW W (w.heap.size + 1) (.int .i64 0) ∧ BoxE W (w.heap.size + 2) (Sq.bh 6 L L.length)) ∨
     (c = .ret ∧ x.1 < L.length ∧ Sq.stE n L x.1 ≠ 0 ∧ BoxW W (w.heap.size + 1) (.int .i64 (Sq.stE n L x.1))))
theorem BoxP.blk {W W' : World} {g : Nat} {a b : Value} (h : BoxP W g a b) (hb : W'.heap[g]? = W.heap[g]?) : BoxP W' g a b :=
  ⟨by
    obtain ⟨o, e⟩ : ∃ o, W.heap[g]? = some o := ⟨_, Array.getElem?_eq_getElem h.1⟩
    rw [e] at hb; exact (Array.getElem?_eq_some_iff.1 hb).1, (World.cell?_of_block (w := W) hb).trans h.2.1, (World.cell?_of_block (w := W) hb).trans h.2.2⟩
theorem BoxW.blk {W W' : World} {g : Nat} {a : Value} (h : BoxW W g a) (hb : W'.heap[g]? = W.heap[g]?) : BoxW W' g a :=
  ⟨by
    obtain ⟨o, e⟩ : ∃ o, W.heap[g]? = some o := ⟨_, Array.getElem?_eq_getElem h.1⟩
    rw [e] at hb; exact (Array.getElem?_eq_some_iff.1 hb).1, (World.cell?_of_block (w := W) hb).trans h.2.1, by
      have := h.2.2; unfold World.frozen? at this ⊢; simp only [hb]; exact this⟩
theorem CkI.abR {n : Nat} {v : Value} {L : List Sk.Stp} {w : World} : AbR (w.heap.size + 4) (CkI n v L w) := fun pre W W' row ⟨h1, h2, h3, h4, h5⟩ hg hr => by
  have hk : ∀ b, b < w.heap.size + 4 → b < W.heap.size → W'.heap[b]? = W.heap[b]? := fun b hb hz => hg.block b hz (fun e => by have := hr b e.symm; omega)
  exact ⟨h1, h2.blk (hk _ (by omega) h2.1), h3.blk (hk _ (by omega) h3.1), h4.block (hk _ (by omega) h4.1), h5.grown hg h5.size (fun r e => by have := hr r e; omega)⟩
theorem CkX.abR {n : Nat} {v : Value} {L : List Sk.Stp} {w : World} (c : Code) : AbR (w.heap.size + 4) (CkX n v L w c) := fun pre W W' row ⟨p, x, h1, h2, h3, h4⟩ hg hr => by
  have hk : ∀ b, b < w.heap.size + 4 → b < W.heap.size → W'.heap[b]? = W.heap[b]? := fun b hb hz => hg.block b hz (fun e => by have := hr b e.symm; omega)
  refine ⟨p, x, h1, h2, h3.grown hg h3.size (fun r e => by have := hr r e; omega), ?_⟩
  rcases h4 with ⟨a1, a2, a3, a4, a5⟩ | ⟨a1, a2, a3, a4⟩
  · exact .inl ⟨a1, a2, a3.blk (hk _ (by omega) a3.1), a4.blk (hk _ (by omega) a4.1), a5.block (hk _ (by omega) a5.1)⟩
  · exact .inr ⟨a1, a2, a3, a4.blk (hk _ (by omega) a4.1)⟩
set_option maxHeartbeats 8000000 in
set_option maxRecDepth 100000 in
theorem qChk_any (n : Int) (v : Value) (L : List Sk.Stp) (w : World) (hs : SeeT w v L) : Calls Tryd.prog 21 #[.agg #[.int .i64 n, v]] w fun e w' => e = .returned (.int .i64 (Sq.chk n L)) ∧ Below w.heap.size w w' := by
  have HS := Lib.hid hs
  obtain ⟨ao, cap, rfl, hcap1, hcap2, -⟩ := hs
  by_cases hr : n < 1 ∨ 6 < n
  · rw [Sq.chk_rng hr]
    rcases (show n < 1 ∨ (1 ≤ n ∧ 6 < n) by omega) with h1 | ⟨h1, h2⟩
    all_goals
      clear hr
      go_enter Tryd.func21, Tryd.ntmps21
      go_wp2
      exact bodyPost_ret (v := .int .i64 2) (by simp [results, Tryd.f21, go_sem]) rfl ⟨rfl, below_nxt (allocB _ _) (allocB _ _)⟩
  have hn1 : 1 ≤ n := by omega
  have hn6 : n ≤ 6 := by omega
  clear hr
  by_cases hl0 : L.length = 0
  · rw [Sq.chk_emp ⟨hn1, hn6⟩ hl0]
    have h0 : ((L.length : Int) == 0) = true := by simpa using hl0
    clear hl0
    go_enter Tryd.func21, Tryd.ntmps21
    go_wp2
    exact bodyPost_ret (v := .int .i64 13) (by simp [results, Tryd.f21, go_sem]) rfl ⟨rfl, below_nxt (allocB _ _) (allocB _ _)⟩
  by_cases hl64 : 64 < L.length
  · rw [Sq.chk_many ⟨hn1, hn6⟩ hl64]
    have h0 : ((L.length : Int) == 0) = false := by simpa using hl0
    have h64 : decide (64 < (L.length : Int)) = true := decide_eq_true (by omega)
    clear hl0 hl64
    go_enter Tryd.func21, Tryd.ntmps21
    go_wp2
    exact bodyPost_ret (v := .int .i64 5) (by simp [results, Tryd.f21, go_sem]) rfl ⟨rfl, below_nxt (allocB _ _) (allocB _ _)⟩
  have h0 : ((L.length : Int) == 0) = false := by simpa using hl0
  have h64 : decide (64 < (L.length : Int)) = false := decide_eq_false (by omega)
  obtain ⟨nn, rfl⟩ := Int.eq_ofNat_of_zero_le (show 0 ≤ n by omega)
  obtain ⟨m, hm⟩ := Sq.upto_ex L
  have HM := Lib.hid hm
  have hnn : 1 ≤ nn ∧ nn ≤ 6 := by omega
  refine (callsIn_wide (n := 9)).1 ?_
  refine callsIn_of_wp_marks Tryd.func21 rfl trivial ?_ rfl
  simp only [Tryd.ntmps21, List.size_toArray, List.length_cons, List.length_nil, Nat.reduceAdd, Nat.reduceSub, Array.replicate_succ, Array.replicate_zero, List.push_toArray, List.append_toArray, List.nil_append, List.cons_append]
  have hd1 : decide ((nn : Int) < 1) = false := decide_eq_false (by omega)
  have hd6 : decide (6 < (nn : Int)) = false := decide_eq_false (by omega)
  clear hm
  gi_wp2_with (refine ⟨trivial, ?_⟩; gi_at_call 59; refine (callsIn_wide.2 (sSts_any _ _ _)).mono ?_; rintro e Z ⟨rfl, rfl⟩)
  obtain ⟨W0, hW0⟩ : ∃ W0, ((((w.alloc (.cells #[.int .i64 (nn : Int), .slice ao L.length cap] 32)).alloc (.cells #[.int .i64 0] 24)).alloc (.cells #[.bool false, .bool false, .bool false, .bool false, .bool false, .bool false] 105)).alloc (.cells #[.int .i64 (nn : Int), .slice ao L.length cap] 32)) = W0 := ⟨_, rfl⟩
  have hz0 : W0.heap.size = w.heap.size + 4 := by rw [← hW0]; simp
  have hB0 : Below w.heap.size w W0 := by rw [← hW0]; exact ((((allocB w _).alloc (by simp) _).alloc (by simp; omega) _).alloc (by simp; omega) _)
  have hPa : BoxP W0 w.heap.size (.int .i64 (nn : Int)) (.slice ao L.length cap) := by rw [← hW0]; exact (((boxP_new w _ _ _).1.step (allocB _ _)).step (allocB _ _)).step (allocB _ _)
  have hPb : BoxW W0 (w.heap.size + 1) (.int .i64 0) := by
    have h := boxW_new (w.alloc (.cells #[.int .i64 (nn : Int), .slice ao L.length cap] 32)) (.int .i64 0) 24
    rw [World.size_alloc] at h
    rw [← hW0]; exact (h.step (allocB _ _)).step (allocB _ _)
  have hPc : BoxE W0 (w.heap.size + 2) (List.replicate 6 false) := by
    have h := boxE_new ((w.alloc (.cells #[.int .i64 (nn : Int), .slice ao L.length cap] 32)).alloc (.cells #[.int .i64 0] 24)) false false false false false false 105
    rw [World.size_alloc, World.size_alloc] at h
    rw [← hW0]; exact h.step (allocB _ _)
  have hPd : BoxP W0 (w.heap.size + 3) (.int .i64 (nn : Int)) (.slice ao L.length cap) := by
    have h := (boxP_new (((w.alloc (.cells #[.int .i64 (nn : Int), .slice ao L.length cap] 32)).alloc (.cells #[.int .i64 0] 24)).alloc (.cells #[.bool false, .bool false, .bool false, .bool false, .bool false, .bool false] 105)) (.int .i64 (nn : Int)) (.slice ao L.length cap) 32).1
    rw [World.size_alloc, World.size_alloc, World.size_alloc] at h
    rw [← hW0]; exact h
  have hI0 : CkI nn (.slice ao L.length cap) L w [] W0 := ⟨fun x h => by simp at h, hPa, hPb, hPc, hB0⟩
  rw [hW0]
  clear hW0 hPa hPb hPc
  refine wpIn_rangeO (B := w.heap.size + 4) hz0 rfl (by omega) (gf := 92) (lb := #[.pointer (some ⟨w.heap.size + 1 + 1 + 1, 0, none⟩)]) rfl trivial (enters_of Tryd.func92 (by kernel_rfl) rfl)
    (Below.refl _ _) (states_stops (nn : Int) (.slice ao L.length cap) L m (w.heap.size + 3) w.heap.size (w.heap.size + 4) w W0 HS.out rfl hB0 hz0 (by omega) (by omega) hPd.2.1 hPd.2.2 (by omega) HM.out) (by rintro (h | h | h) <;> omega) (fun _ => rfl)
    (CkI nn (.slice ao L.length cap) L w) (CkX nn (.slice ao L.length cap) L w) CkI.abR CkX.abR hI0
    (fun x a' W => ∃ g, w.heap.size + 8 ≤ g ∧ BoxE W g (Sq.bh 6 L x.1) ∧ a' = { tmps := #[.agg #[.int .i64 (nn : Int), .slice ao L.length cap], .pointer (some ⟨w.heap.size, 0, none⟩), .pointer (some ⟨w.heap.size + 1, 0, none⟩), .pointer (some ⟨w.heap.size + 1 + 1, 0, none⟩), .int .i64 (x.1 : Int), .pointer (some ⟨g, 0, none⟩), undef, undef, .pointer (some ⟨w.heap.size, 0, none⟩), .int .i64 (nn : Int), .bool false, .bool false, .pointer (some ⟨w.heap.size, 0, none⟩), .int .i64 (nn : Int), .bool false, .bool false, .pointer (some ⟨w.heap.size, 1, none⟩), .slice ao L.length cap, .int .i64 (L.length : Int), .bool false, .pointer (some ⟨w.heap.size, 1, none⟩), .slice ao L.length cap, .int .i64 (L.length : Int), .bool false, .agg #[.int .i64 (nn : Int), .slice ao L.length cap], .func (.func 92) #[] #[.pointer (some ⟨w.heap.size + 1 + 1 + 1, 0, none⟩)], .int .i64 (x.1 : Int), Sq.E6 (Sq.bh 6 L x.1), undef, undef, undef, undef, undef, undef, undef, undef, undef, undef, undef, undef, undef, undef, undef, undef, undef, undef, undef, undef, undef, undef, undef, undef, undef, undef, undef, undef, undef, undef, undef, undef], defers := [] }) ?hax ?assign ?body ?done ?stop
  case hax =>
    intro x a' u W W' row ⟨g, hg, hbe, he⟩ hgr hr
    exact ⟨g, hg, hbe.block (hgr.block g hbe.1 (fun e => by have := hr g e.symm; omega)), he⟩
  case assign =>
    intro pre x W K hi hsz hK
    have ez : ∀ T : Array Value, (#[26, 27].zip (Sq.ke L x)).foldl (fun (t : Array Value) (x : Nat × Value) => t.setIfInBounds x.1 x.2) T = (T.setIfInBounds 26 (.int .i64 (x.1 : Int))).setIfInBounds 27 (Sq.E6 (Sq.bh 6 L x.1)) := fun T => by simp [Sq.ke]
    simp only [ez]
    have hk := hK { tmps := #[.agg #[.int .i64 (nn : Int), .slice ao L.length cap], .pointer (some ⟨w.heap.size, 0, none⟩), .pointer (some ⟨w.heap.size + 1, 0, none⟩), .pointer (some ⟨w.heap.size + 1 + 1, 0, none⟩), .int .i64 (x.1 : Int), .pointer (some ⟨W.heap.size, 0, none⟩), undef, undef, .pointer (some ⟨w.heap.size, 0, none⟩), .int .i64 (nn : Int), .bool false, .bool false, .pointer (some ⟨w.heap.size, 0, none⟩), .int .i64 (nn : Int), .bool false, .bool false, .pointer (some ⟨w.heap.size, 1, none⟩), .slice ao L.length cap, .int .i64 (L.length : Int), .bool false, .pointer (some ⟨w.heap.size, 1, none⟩), .slice ao L.length cap, .int .i64 (L.length : Int), .bool false, .agg #[.int .i64 (nn : Int), .slice ao L.length cap], .func (.func 92) #[] #[.pointer (some ⟨w.heap.size + 1 + 1 + 1, 0, none⟩)], .int .i64 (x.1 : Int), Sq.E6 (Sq.bh 6 L x.1), undef, undef, undef, undef, undef, undef, undef, undef, undef, undef, undef, undef, undef, undef, undef, undef, undef, undef, undef, undef, undef, undef, undef, undef, undef, undef, undef, undef, undef, undef, undef, undef], defers := [] }
    have hel := Sq.bh_len 6 L x.1
    unfold Sq.E6 at hk ⊢
    generalize hE : Sq.bh 6 L x.1 = E at *
    have hE6 := six_eq hel
    generalize E.getD 0 false = b0 at *
    generalize E.getD 1 false = b1 at *
    generalize E.getD 2 false = b2 at *
    generalize E.getD 3 false = b3 at *
    generalize E.getD 4 false = b4 at *
    generalize E.getD 5 false = b5 at *
    have HK := Lib.hid hk
    have HE := Lib.hid hE
    have HE6 := Lib.hid hE6
    clear hk hE hE6 hel hK
    gi_wp2
    refine HK.out _ (Rec2.below (allocB _ _) (by omega)) (KpS.below (allocB _ _) (fun b hb => by rcases hb with h | h | h <;> omega)) (by simp; omega) (CkI.abR.alloc _ hi) ⟨W.heap.size, by omega, ?_, rfl⟩
    rw [HE6.out]; exact boxE_new _ _ _ _ _ _ _ _
  case body =>
    rintro pre x a' W hsz ⟨hi1, hi2, hi3, hi4, hi5⟩ ⟨g, hg, hbe, rfl⟩ hlen
    have hkl : x.1 ≤ L.length := x.2
    have HI1 := Lib.hid hi1
    have HI2 := Lib.hid hi2
    have HI3 := Lib.hid hi3
    have HI5 := Lib.hid hi5
    have hel := Sq.bh_len 6 L x.1
    have HX := Lib.hid (fun (h : x.1 = L.length) => show Sq.bh 6 L L.length = Sq.bh 6 L x.1 by rw [h])
    have HCS : Hid (∀ (V : World) (u : Value) (l : List Sk.Str) (k : Int), SeeK V u l → (l, k) = L.getD x.1 Sk.t0 → Calls Tryd.prog 60 #[.agg #[u, .int .i64 k], .int .i64 (nn : Int), Sq.E6 (Sq.bh 6 L x.1)] V fun e w' => e = .returned (.int .i64 (Sq.stE nn L x.1)) ∧ Below V.heap.size V w') := Lib.hid (fun V u l k hu he => by
      have h := sCks_any u l k nn (Sq.bh 6 L x.1) V hu hel (by omega)
      have e1 : l = (L.getD x.1 Sk.t0).1 := by rw [← he]
      have e2 : k = (L.getD x.1 Sk.t0).2 := by rw [← he]
      rw [e1, e2, Sq.csV_stE (by omega)] at h
      rw [e2]; exact h)
    unfold Sq.E6 at HCS ⊢
    generalize hE : Sq.bh 6 L x.1 = E at *
    have hE6 := six_eq hel
    obtain ⟨l0, l1, l2⟩ := hi4
    have hm0 := l1 0 (by omega)
    have hm1 := l1 1 (by omega)
    have hm2 := l1 2 (by omega)
    have hm3 := l1 3 (by omega)
    have hm4 := l1 4 (by omega)
    have hm5 := l1 5 (by omega)
    have hf0 := l2 0
    have hf1 := l2 1
    have hf2 := l2 2
    have hf3 := l2 3
    have hf4 := l2 4
    have hf5 := l2 5
    have HLast : Hid (∃ Eo, BoxE W (w.heap.size + 2) Eo ∧ Eo.length = 6) := Lib.hid ⟨lastE L pre, ⟨l0, l1, l2⟩, by
      unfold lastE
      cases pre.getLast? with
      | none => simp
      | some y => exact Sq.bh_len 6 L y.1⟩
    clear l1 l2
    generalize lastE L pre = Eo at *
    generalize Eo.getD 0 false = o0 at *
    generalize Eo.getD 1 false = o1 at *
    generalize Eo.getD 2 false = o2 at *
    generalize Eo.getD 3 false = o3 at *
    generalize Eo.getD 4 false = o4 at *
    generalize Eo.getD 5 false = o5 at *
    obtain ⟨z0, z1, z2⟩ := hbe
    have e0 := z1 0 (by omega)
    have e1 := z1 1 (by omega)
    have e2 := z1 2 (by omega)
    have e3 := z1 3 (by omega)
    have e4 := z1 4 (by omega)
    have e5 := z1 5 (by omega)
    have HZ1 := Lib.hid z1
    clear z1 z2
    generalize E.getD 0 false = b0 at *
    generalize E.getD 1 false = b1 at *
    generalize E.getD 2 false = b2 at *
    generalize E.getD 3 false = b3 at *
    generalize E.getD 4 false = b4 at *
    generalize E.getD 5 false = b5 at *
    have HE := Lib.hid hE
    have HE6 := Lib.hid hE6
    obtain ⟨p0, p1, p2⟩ := hi2
    obtain ⟨r0, r1, r2⟩ := hi3
    have hgne : g ≠ w.heap.size + 2 := by omega
    clear hi1 hi5 hE hE6 hel
    have HP := Lib.hid (show BoxP W w.heap.size (.int .i64 (nn : Int)) (.slice ao L.length cap) from ⟨p0, p1, p2⟩)
    have HR := Lib.hid (show BoxW W (w.heap.size + 1) (.int .i64 0) from ⟨r0, r1, r2⟩)
    have HH6 : Hid (∀ b, b ≠ w.heap.size + 2 → ((((((W.setCell ⟨w.heap.size + 1 + 1, 0, none⟩ (.bool b0)).setCell ⟨w.heap.size + 1 + 1, 1, none⟩ (.bool b1)).setCell ⟨w.heap.size + 1 + 1, 2, none⟩ (.bool b2)).setCell ⟨w.heap.size + 1 + 1, 3, none⟩ (.bool b3)).setCell ⟨w.heap.size + 1 + 1, 4, none⟩ (.bool b4)).setCell ⟨w.heap.size + 1 + 1, 5, none⟩ (.bool b5)).heap[b]? = W.heap[b]?) := Lib.hid (fun b hb => heap_set6 W (w.heap.size + 2) b0 b1 b2 b3 b4 b5 hb)
    have HB6 : Hid (Below w.heap.size w ((((((W.setCell ⟨w.heap.size + 1 + 1, 0, none⟩ (.bool b0)).setCell ⟨w.heap.size + 1 + 1, 1, none⟩ (.bool b1)).setCell ⟨w.heap.size + 1 + 1, 2, none⟩ (.bool b2)).setCell ⟨w.heap.size + 1 + 1, 3, none⟩ (.bool b3)).setCell ⟨w.heap.size + 1 + 1, 4, none⟩ (.bool b4)).setCell ⟨w.heap.size + 1 + 1, 5, none⟩ (.bool b5))) := Lib.hid (below_set6 HI5.out (g := w.heap.size + 2) (by omega) b0 b1 b2 b3 b4 b5)
    have HE6' : Hid (BoxE ((((((W.setCell ⟨w.heap.size + 1 + 1, 0, none⟩ (.bool b0)).setCell ⟨w.heap.size + 1 + 1, 1, none⟩ (.bool b1)).setCell ⟨w.heap.size + 1 + 1, 2, none⟩ (.bool b2)).setCell ⟨w.heap.size + 1 + 1, 3, none⟩ (.bool b3)).setCell ⟨w.heap.size + 1 + 1, 4, none⟩ (.bool b4)).setCell ⟨w.heap.size + 1 + 1, 5, none⟩ (.bool b5)) (w.heap.size + 2) E) := Lib.hid (by
      obtain ⟨Eo', h1, h2⟩ := HLast.out
      rw [HE6.out]; exact h1.put6 h2 b0 b1 b2 b3 b4 b5)
    have HZ6 : Hid (((((((W.setCell ⟨w.heap.size + 1 + 1, 0, none⟩ (.bool b0)).setCell ⟨w.heap.size + 1 + 1, 1, none⟩ (.bool b1)).setCell ⟨w.heap.size + 1 + 1, 2, none⟩ (.bool b2)).setCell ⟨w.heap.size + 1 + 1, 3, none⟩ (.bool b3)).setCell ⟨w.heap.size + 1 + 1, 4, none⟩ (.bool b4)).setCell ⟨w.heap.size + 1 + 1, 5, none⟩ (.bool b5)).heap.size = W.heap.size) := Lib.hid (size_set6 W (w.heap.size + 2) b0 b1 b2 b3 b4 b5)
    by_cases hk : x.1 = L.length
    · have hkz : ((x.1 : Int) == (L.length : Int)) = true := by rw [hk]; simp
      have HK := Lib.hid hk
      gi_wp2
      exact ⟨⟨HH6.out _ (by omega), HH6.out _ (by omega)⟩, pre, x, rfl, HI1.out, HB6.out, .inl ⟨rfl, HK.out, HP.out.blk (HH6.out _ (by omega)), HR.out.blk (HH6.out _ (by omega)), by rw [HX.out HK.out]; exact HE6'.out⟩⟩
    · have hkz : ((x.1 : Int) == (L.length : Int)) = false := by rw [beq_eq_false_iff_ne]; omega
      have hkl2 : x.1 < L.length := by omega
      have hkl3 : (x.1 : Int) < (L.length : Int) := by omega
      generalize hW6 : ((((((W.setCell ⟨w.heap.size + 1 + 1, 0, none⟩ (.bool b0)).setCell ⟨w.heap.size + 1 + 1, 1, none⟩ (.bool b1)).setCell ⟨w.heap.size + 1 + 1, 2, none⟩ (.bool b2)).setCell ⟨w.heap.size + 1 + 1, 3, none⟩ (.bool b3)).setCell ⟨w.heap.size + 1 + 1, 4, none⟩ (.bool b4)).setCell ⟨w.heap.size + 1 + 1, 5, none⟩ (.bool b5)) = W6 at *
      have HT6 : SeeT W6 (.slice ao L.length cap) L := HS.out.same HB6.out.size (fun r hr => HB6.out.block r hr)
      obtain ⟨ao', cap', hao, -, -, hC⟩ := HT6
      simp only [Value.slice.injEq, true_and] at hao
      obtain ⟨rfl, rfl⟩ := hao
      obtain ⟨gs, off, ak, ck, rfl, hgs, c1, c2, hsk⟩ := hC.at (Below.refl _ _) hkl2
      have HSK := Lib.hid hsk
      have HP6 := Lib.hid (HP.out.blk (HH6.out _ (by omega)))
      have HR6 := Lib.hid (HR.out.blk (HH6.out _ (by omega)))
      obtain ⟨q0, q1, q2⟩ := HP6.out
      have hg6 := HH6.out g hgne
      have d0 := (World.cell?_of_block (a := ⟨g, 0, none⟩) hg6).trans e0
      have d1 := (World.cell?_of_block (a := ⟨g, 1, none⟩) hg6).trans e1
      have d2 := (World.cell?_of_block (a := ⟨g, 2, none⟩) hg6).trans e2
      have d3 := (World.cell?_of_block (a := ⟨g, 3, none⟩) hg6).trans e3
      have d4 := (World.cell?_of_block (a := ⟨g, 4, none⟩) hg6).trans e4
      have d5 := (World.cell?_of_block (a := ⟨g, 5, none⟩) hg6).trans e5
      have hgz6 : g < W6.heap.size := by rw [HZ6.out]; exact z0
      have HRec : Hid (Rec2 (w.heap.size + 4) W W6) := Lib.hid ⟨HH6.out _ (by omega), HH6.out _ (by omega)⟩
      have HEQ : Hid (((L.getD x.1 Sk.t0).1, (L.getD x.1 Sk.t0).2) = L.getD x.1 Sk.t0) := Lib.hid rfl
      have CK := fun V (h : SeeK V (.slice ak (L.getD x.1 Sk.t0).1.length ck) (L.getD x.1 Sk.t0).1) => Lib.hid (HCS.out V _ _ (L.getD x.1 Sk.t0).2 h HEQ.out)
      have HD := Lib.hid (Below.refl W6.heap.size W6).drew
      have HKP : Hid (KpS (PrS w.heap.size (w.heap.size + 3) (w.heap.size + 4)) 70 (w.heap.size + 4) W W6) := Lib.hid ⟨fun b hb => HH6.out b (by rcases hb with h | h | h <;> omega), fun b c hB hb => (HH6.out b (by omega)).trans hb⟩
      clear hC hsk hg6 HCS HEQ hk HX HH6 HLast HI2 HI3 HR HP HZ1
      have HLm := Lib.hid hkl2
      generalize (L.getD x.1 Sk.t0).1 = l at *
      generalize (L.getD x.1 Sk.t0).2 = kk at *
      generalize hse : Sq.stE nn L x.1 = se at *
      have HSE := Lib.hid hse
      clear hse
      have hmx : Tryd.prog.follows .mixedOrders = true := by kernel_rfl
      gi_wp2
      clear hW6 e0 e1 e2 e3 e4 e5 hm0 hm1 hm2 hm3 hm4 hm5 hf0 hf1 hf2 hf3 hf4 hf5 p0 p1 p2 r0 r1 r2 z0 l0
      refine wpIn_mono (Q := fun e a' w2 => e = .normal ∧ a' = { tmps := #[.agg #[.int .i64 (nn : Int), .slice (some ⟨gs, off, none⟩) L.length cap], .pointer (some ⟨w.heap.size, 0, none⟩), .pointer (some ⟨w.heap.size + 1, 0, none⟩), .pointer (some ⟨w.heap.size + 1 + 1, 0, none⟩), .int .i64 (x.1 : Int), .pointer (some ⟨g, 0, none⟩), .int .i64 se, undef, .pointer (some ⟨w.heap.size, 0, none⟩), .int .i64 (nn : Int), .bool false, .bool false, .pointer (some ⟨w.heap.size, 0, none⟩), .int .i64 (nn : Int), .bool false, .bool false, .pointer (some ⟨w.heap.size, 1, none⟩), .slice (some ⟨gs, off, none⟩) L.length cap, .int .i64 (L.length : Int), .bool false, .pointer (some ⟨w.heap.size, 1, none⟩), .slice (some ⟨gs, off, none⟩) L.length cap, .int .i64 (L.length : Int), .bool false, .agg #[.int .i64 (nn : Int), .slice (some ⟨gs, off, none⟩) L.length cap], .func (.func 92) #[] #[.pointer (some ⟨w.heap.size + 1 + 1 + 1, 0, none⟩)], .int .i64 (x.1 : Int), .agg #[.bool b0, .bool b1, .bool b2, .bool b3, .bool b4, .bool b5], .agg #[.bool b0, .bool b1, .bool b2, .bool b3, .bool b4, .bool b5], .int .i64 (x.1 : Int), .pointer (some ⟨w.heap.size, 1, none⟩), .slice (some ⟨gs, off, none⟩) L.length cap, .int .i64 (L.length : Int), .bool false, .pointer (some ⟨w.heap.size, 1, none⟩), .slice (some ⟨gs, off, none⟩) L.length cap, .int .i64 (x.1 : Int), .pointer (some ⟨gs, off + x.1 * 2, none⟩), .agg #[.slice ak l.length ck, .int .i64 kk], .pointer (some ⟨w.heap.size, 0, none⟩), .int .i64 (nn : Int), .agg #[.bool b0, .bool b1, .bool b2, .bool b3, .bool b4, .bool b5], .int .i64 se, undef, undef, undef, undef, undef, undef, undef, undef, undef, undef, undef, undef, undef, undef, undef, undef, undef], defers := [] } ∧ Below W6.heap.size W6 w2) ?_ ?_
      · refine wpIn_region_any (by kernel_rfl) ?_
        change wpAnyIn _ _ _ _ _ _ _ _ _ (World.drew _)
        refine wpAnyIn_round (noDefer_spec (by kernel_rfl)) _ _ _ _ ?_
        refine wpAnyIn_take (i := 0) (v := ?_) rfl rfl (by kernel_rfl) (by kernel_rfl) (by kernel_rfl) (by rintro _ _ _ ⟨h, -⟩; cases h) ⟨Or.inl ⟨by rfl, ?_⟩, fun _ => rfl⟩ ?_
        rotate_left
        · intro w; go_simp; try rfl
        refine wpAnyIn_take (i := 2) (v := ?_) rfl rfl (by kernel_rfl) (by kernel_rfl) (by kernel_rfl) (by rintro _ _ _ ⟨h, -⟩; cases h) ⟨Or.inl ⟨by rfl, ?_⟩, fun _ => rfl⟩ ?_
        rotate_left
        · intro w; go_simp; try rfl
        refine wpAnyIn_take (i := 5) (v := ?_) rfl rfl (by kernel_rfl) (by kernel_rfl) (by kernel_rfl) (by rintro _ _ _ ⟨h, -⟩; cases h) ⟨Or.inl ⟨by rfl, ?_⟩, fun _ => rfl⟩ ?_
        rotate_left
        · intro w; go_simp; try rfl
        refine wpAnyIn_ready (rs := [1, 6, 7]) (by kernel_rfl) (by simp) ?_
        refine AllReadyIn.cons rfl (fun K hK => ?_) ?_
        · go_simp
          first | (refine hK _ _ ?_; clear hK K) | skip
          refine wpAnyIn_take (i := 3) (v := ?_) rfl rfl (by kernel_rfl) (by kernel_rfl) (by kernel_rfl) (by rintro _ _ _ ⟨h, -⟩; cases h) ⟨Or.inl ⟨by rfl, ?_⟩, fun _ => rfl⟩ ?_
          rotate_left
          · intro w; go_simp; try rfl
          refine wpAnyIn_ready (rs := [4, 6, 7]) (by kernel_rfl) (by simp) ?_
          refine AllReadyIn.cons rfl (fun K hK => ?_) ?_
          · go_simp
            first | (refine hK _ _ ?_; clear hK K) | skip
            refine wpAnyIn_ready (rs := [6, 7]) (by kernel_rfl) (by simp) ?_
            refine AllReadyIn.cons rfl (fun K hK => ?_) ?_
            · go_simp
              first | (refine hK _ _ ?_; clear hK K) | skip
              refine wpAnyIn_ready (rs := [7]) (by kernel_rfl) (by simp) ?_
              refine AllReadyIn.cons rfl (fun K hK => ?_) ?_
              · go_simp
                first | (refine hK _ _ ?_; clear hK K) | skip
                refine wpAnyIn_ready (rs := [8]) (by kernel_rfl) (by simp) ?_
                refine AllReadyIn.cons rfl (fun K hK => ?_) ?_
                · go_simp
                  gi_wp2_with (refine ⟨trivial, ?_⟩; gi_at_call 60; refine (callsIn_wide.2 ((CK _ (HSK.out.step HD.out)).out)).mono ?_; rintro e w2 ⟨rfl, hb2⟩; have HB3 := Lib.hid (HD.out.trans (hb2.mono HD.out.size)); clear hb2)
                  first | (refine hK _ _ ?_; clear hK K) | skip
                  refine wpAnyIn_ready (rs := [9]) (by kernel_rfl) (by simp) ?_
                  refine AllReadyIn.cons rfl (fun K hK => ?_) ?_
                  · go_simp
                    first | (refine hK _ _ ?_; clear hK K) | skip
                    refine wpAnyIn_done (by kernel_rfl) ?_ _
                    exact ⟨rfl, rfl, HB3.out⟩
                  exact AllReadyIn.nil
                exact AllReadyIn.nil
              exact AllReadyIn.nil
            refine AllReadyIn.cons rfl (fun K hK => ?_) ?_
            · go_simp
              first | (refine hK _ _ ?_; clear hK K) | skip
              refine wpAnyIn_ready (rs := [6]) (by kernel_rfl) (by simp) ?_
              refine AllReadyIn.cons rfl (fun K hK => ?_) ?_
              · go_simp
                first | (refine hK _ _ ?_; clear hK K) | skip
                refine wpAnyIn_ready (rs := [8]) (by kernel_rfl) (by simp) ?_
                refine AllReadyIn.cons rfl (fun K hK => ?_) ?_
                · go_simp
                  gi_wp2_with (refine ⟨trivial, ?_⟩; gi_at_call 60; refine (callsIn_wide.2 ((CK _ (HSK.out.step HD.out)).out)).mono ?_; rintro e w2 ⟨rfl, hb2⟩; have HB3 := Lib.hid (HD.out.trans (hb2.mono HD.out.size)); clear hb2)
                  first | (refine hK _ _ ?_; clear hK K) | skip
                  refine wpAnyIn_ready (rs := [9]) (by kernel_rfl) (by simp) ?_
                  refine AllReadyIn.cons rfl (fun K hK => ?_) ?_
                  · go_simp
                    first | (refine hK _ _ ?_; clear hK K) | skip
                    refine wpAnyIn_done (by kernel_rfl) ?_ _
                    exact ⟨rfl, rfl, HB3.out⟩
                  exact AllReadyIn.nil
                exact AllReadyIn.nil
              exact AllReadyIn.nil
            exact AllReadyIn.nil
          refine AllReadyIn.cons rfl (fun K hK => ?_) ?_
          · go_simp
            first | (refine hK _ _ ?_; clear hK K) | skip
            refine wpAnyIn_ready (rs := [4, 7]) (by kernel_rfl) (by simp) ?_
            refine AllReadyIn.cons rfl (fun K hK => ?_) ?_
            · go_simp
              first | (refine hK _ _ ?_; clear hK K) | skip
              refine wpAnyIn_ready (rs := [7]) (by kernel_rfl) (by simp) ?_
              refine AllReadyIn.cons rfl (fun K hK => ?_) ?_
              · go_simp
                first | (refine hK _ _ ?_; clear hK K) | skip
                refine wpAnyIn_ready (rs := [8]) (by kernel_rfl) (by simp) ?_
                refine AllReadyIn.cons rfl (fun K hK => ?_) ?_
                · go_simp
                  gi_wp2_with (refine ⟨trivial, ?_⟩; gi_at_call 60; refine (callsIn_wide.2 ((CK _ (HSK.out.step HD.out)).out)).mono ?_; rintro e w2 ⟨rfl, hb2⟩; have HB3 := Lib.hid (HD.out.trans (hb2.mono HD.out.size)); clear hb2)
                  first | (refine hK _ _ ?_; clear hK K) | skip
                  refine wpAnyIn_ready (rs := [9]) (by kernel_rfl) (by simp) ?_
                  refine AllReadyIn.cons rfl (fun K hK => ?_) ?_
                  · go_simp
                    first | (refine hK _ _ ?_; clear hK K) | skip
                    refine wpAnyIn_done (by kernel_rfl) ?_ _
                    exact ⟨rfl, rfl, HB3.out⟩
                  exact AllReadyIn.nil
                exact AllReadyIn.nil
              exact AllReadyIn.nil
            refine AllReadyIn.cons rfl (fun K hK => ?_) ?_
            · go_simp
              first | (refine hK _ _ ?_; clear hK K) | skip
              refine wpAnyIn_ready (rs := [4]) (by kernel_rfl) (by simp) ?_
              refine AllReadyIn.cons rfl (fun K hK => ?_) ?_
              · go_simp
                first | (refine hK _ _ ?_; clear hK K) | skip
                refine wpAnyIn_ready (rs := [8]) (by kernel_rfl) (by simp) ?_
                refine AllReadyIn.cons rfl (fun K hK => ?_) ?_
                · go_simp
                  gi_wp2_with (refine ⟨trivial, ?_⟩; gi_at_call 60; refine (callsIn_wide.2 ((CK _ (HSK.out.step HD.out)).out)).mono ?_; rintro e w2 ⟨rfl, hb2⟩; have HB3 := Lib.hid (HD.out.trans (hb2.mono HD.out.size)); clear hb2)
                  first | (refine hK _ _ ?_; clear hK K) | skip
                  refine wpAnyIn_ready (rs := [9]) (by kernel_rfl) (by simp) ?_
                  refine AllReadyIn.cons rfl (fun K hK => ?_) ?_
                  · go_simp
                    first | (refine hK _ _ ?_; clear hK K) | skip
                    refine wpAnyIn_done (by kernel_rfl) ?_ _
                    exact ⟨rfl, rfl, HB3.out⟩
                  exact AllReadyIn.nil
                exact AllReadyIn.nil
              exact AllReadyIn.nil
            exact AllReadyIn.nil
          refine AllReadyIn.cons rfl (fun K hK => ?_) ?_
          · go_simp
            first | (refine hK _ _ ?_; clear hK K) | skip
            refine wpAnyIn_ready (rs := [4, 6]) (by kernel_rfl) (by simp) ?_
            refine AllReadyIn.cons rfl (fun K hK => ?_) ?_
            · go_simp
              first | (refine hK _ _ ?_; clear hK K) | skip
              refine wpAnyIn_ready (rs := [6]) (by kernel_rfl) (by simp) ?_
              refine AllReadyIn.cons rfl (fun K hK => ?_) ?_
              · go_simp
                first | (refine hK _ _ ?_; clear hK K) | skip
                refine wpAnyIn_ready (rs := [8]) (by kernel_rfl) (by simp) ?_
                refine AllReadyIn.cons rfl (fun K hK => ?_) ?_
                · go_simp
                  gi_wp2_with (refine ⟨trivial, ?_⟩; gi_at_call 60; refine (callsIn_wide.2 ((CK _ (HSK.out.step HD.out)).out)).mono ?_; rintro e w2 ⟨rfl, hb2⟩; have HB3 := Lib.hid (HD.out.trans (hb2.mono HD.out.size)); clear hb2)
                  first | (refine hK _ _ ?_; clear hK K) | skip
                  refine wpAnyIn_ready (rs := [9]) (by kernel_rfl) (by simp) ?_
                  refine AllReadyIn.cons rfl (fun K hK => ?_) ?_
                  · go_simp
                    first | (refine hK _ _ ?_; clear hK K) | skip
                    refine wpAnyIn_done (by kernel_rfl) ?_ _
                    exact ⟨rfl, rfl, HB3.out⟩
                  exact AllReadyIn.nil
                exact AllReadyIn.nil
              exact AllReadyIn.nil
            refine AllReadyIn.cons rfl (fun K hK => ?_) ?_
            · go_simp
              first | (refine hK _ _ ?_; clear hK K) | skip
              refine wpAnyIn_ready (rs := [4]) (by kernel_rfl) (by simp) ?_
              refine AllReadyIn.cons rfl (fun K hK => ?_) ?_
              · go_simp
                first | (refine hK _ _ ?_; clear hK K) | skip
                refine wpAnyIn_ready (rs := [8]) (by kernel_rfl) (by simp) ?_
                refine AllReadyIn.cons rfl (fun K hK => ?_) ?_
                · go_simp
                  gi_wp2_with (refine ⟨trivial, ?_⟩; gi_at_call 60; refine (callsIn_wide.2 ((CK _ (HSK.out.step HD.out)).out)).mono ?_; rintro e w2 ⟨rfl, hb2⟩; have HB3 := Lib.hid (HD.out.trans (hb2.mono HD.out.size)); clear hb2)
                  first | (refine hK _ _ ?_; clear hK K) | skip
                  refine wpAnyIn_ready (rs := [9]) (by kernel_rfl) (by simp) ?_
                  refine AllReadyIn.cons rfl (fun K hK => ?_) ?_
                  · go_simp
                    first | (refine hK _ _ ?_; clear hK K) | skip
                    refine wpAnyIn_done (by kernel_rfl) ?_ _
                    exact ⟨rfl, rfl, HB3.out⟩
                  exact AllReadyIn.nil
                exact AllReadyIn.nil
              exact AllReadyIn.nil
            exact AllReadyIn.nil
          exact AllReadyIn.nil
        refine AllReadyIn.cons rfl (fun K hK => ?_) ?_
        · go_simp
          first | (refine hK _ _ ?_; clear hK K) | skip
          refine wpAnyIn_ready (rs := [1, 7]) (by kernel_rfl) (by simp) ?_
          refine AllReadyIn.cons rfl (fun K hK => ?_) ?_
          · go_simp
            first | (refine hK _ _ ?_; clear hK K) | skip
            refine wpAnyIn_take (i := 3) (v := ?_) rfl rfl (by kernel_rfl) (by kernel_rfl) (by kernel_rfl) (by rintro _ _ _ ⟨h, -⟩; cases h) ⟨Or.inl ⟨by rfl, ?_⟩, fun _ => rfl⟩ ?_
            rotate_left
            · intro w; go_simp; try rfl
            refine wpAnyIn_ready (rs := [4, 7]) (by kernel_rfl) (by simp) ?_
            refine AllReadyIn.cons rfl (fun K hK => ?_) ?_
            · go_simp
              first | (refine hK _ _ ?_; clear hK K) | skip
              refine wpAnyIn_ready (rs := [7]) (by kernel_rfl) (by simp) ?_
              refine AllReadyIn.cons rfl (fun K hK => ?_) ?_
              · go_simp
                first | (refine hK _ _ ?_; clear hK K) | skip
                refine wpAnyIn_ready (rs := [8]) (by kernel_rfl) (by simp) ?_
                refine AllReadyIn.cons rfl (fun K hK => ?_) ?_
                · go_simp
                  gi_wp2_with (refine ⟨trivial, ?_⟩; gi_at_call 60; refine (callsIn_wide.2 ((CK _ (HSK.out.step HD.out)).out)).mono ?_; rintro e w2 ⟨rfl, hb2⟩; have HB3 := Lib.hid (HD.out.trans (hb2.mono HD.out.size)); clear hb2)
                  first | (refine hK _ _ ?_; clear hK K) | skip
                  refine wpAnyIn_ready (rs := [9]) (by kernel_rfl) (by simp) ?_
                  refine AllReadyIn.cons rfl (fun K hK => ?_) ?_
                  · go_simp
                    first | (refine hK _ _ ?_; clear hK K) | skip
                    refine wpAnyIn_done (by kernel_rfl) ?_ _
                    exact ⟨rfl, rfl, HB3.out⟩
                  exact AllReadyIn.nil
                exact AllReadyIn.nil
              exact AllReadyIn.nil
            refine AllReadyIn.cons rfl (fun K hK => ?_) ?_
            · go_simp
              first | (refine hK _ _ ?_; clear hK K) | skip
              refine wpAnyIn_ready (rs := [4]) (by kernel_rfl) (by simp) ?_
              refine AllReadyIn.cons rfl (fun K hK => ?_) ?_
              · go_simp
                first | (refine hK _ _ ?_; clear hK K) | skip
                refine wpAnyIn_ready (rs := [8]) (by kernel_rfl) (by simp) ?_
                refine AllReadyIn.cons rfl (fun K hK => ?_) ?_
                · go_simp
                  gi_wp2_with (refine ⟨trivial, ?_⟩; gi_at_call 60; refine (callsIn_wide.2 ((CK _ (HSK.out.step HD.out)).out)).mono ?_; rintro e w2 ⟨rfl, hb2⟩; have HB3 := Lib.hid (HD.out.trans (hb2.mono HD.out.size)); clear hb2)
                  first | (refine hK _ _ ?_; clear hK K) | skip
                  refine wpAnyIn_ready (rs := [9]) (by kernel_rfl) (by simp) ?_
                  refine AllReadyIn.cons rfl (fun K hK => ?_) ?_
                  · go_simp
                    first | (refine hK _ _ ?_; clear hK K) | skip
                    refine wpAnyIn_done (by kernel_rfl) ?_ _
                    exact ⟨rfl, rfl, HB3.out⟩
                  exact AllReadyIn.nil
                exact AllReadyIn.nil
              exact AllReadyIn.nil
            exact AllReadyIn.nil
          refine AllReadyIn.cons rfl (fun K hK => ?_) ?_
          · go_simp
            first | (refine hK _ _ ?_; clear hK K) | skip
            refine wpAnyIn_ready (rs := [1]) (by kernel_rfl) (by simp) ?_
            refine AllReadyIn.cons rfl (fun K hK => ?_) ?_
            · go_simp
              first | (refine hK _ _ ?_; clear hK K) | skip
              refine wpAnyIn_take (i := 3) (v := ?_) rfl rfl (by kernel_rfl) (by kernel_rfl) (by kernel_rfl) (by rintro _ _ _ ⟨h, -⟩; cases h) ⟨Or.inl ⟨by rfl, ?_⟩, fun _ => rfl⟩ ?_
              rotate_left
              · intro w; go_simp; try rfl
              refine wpAnyIn_ready (rs := [4]) (by kernel_rfl) (by simp) ?_
              refine AllReadyIn.cons rfl (fun K hK => ?_) ?_
              · go_simp
                first | (refine hK _ _ ?_; clear hK K) | skip
                refine wpAnyIn_ready (rs := [8]) (by kernel_rfl) (by simp) ?_
                refine AllReadyIn.cons rfl (fun K hK => ?_) ?_
                · go_simp
                  gi_wp2_with (refine ⟨trivial, ?_⟩; gi_at_call 60; refine (callsIn_wide.2 ((CK _ (HSK.out.step HD.out)).out)).mono ?_; rintro e w2 ⟨rfl, hb2⟩; have HB3 := Lib.hid (HD.out.trans (hb2.mono HD.out.size)); clear hb2)
                  first | (refine hK _ _ ?_; clear hK K) | skip
                  refine wpAnyIn_ready (rs := [9]) (by kernel_rfl) (by simp) ?_
                  refine AllReadyIn.cons rfl (fun K hK => ?_) ?_
                  · go_simp
                    first | (refine hK _ _ ?_; clear hK K) | skip
                    refine wpAnyIn_done (by kernel_rfl) ?_ _
                    exact ⟨rfl, rfl, HB3.out⟩
                  exact AllReadyIn.nil
                exact AllReadyIn.nil
              exact AllReadyIn.nil
            exact AllReadyIn.nil
          exact AllReadyIn.nil
        refine AllReadyIn.cons rfl (fun K hK => ?_) ?_
        · go_simp
          first | (refine hK _ _ ?_; clear hK K) | skip
          refine wpAnyIn_ready (rs := [1, 6]) (by kernel_rfl) (by simp) ?_
          refine AllReadyIn.cons rfl (fun K hK => ?_) ?_
          · go_simp
            first | (refine hK _ _ ?_; clear hK K) | skip
            refine wpAnyIn_take (i := 3) (v := ?_) rfl rfl (by kernel_rfl) (by kernel_rfl) (by kernel_rfl) (by rintro _ _ _ ⟨h, -⟩; cases h) ⟨Or.inl ⟨by rfl, ?_⟩, fun _ => rfl⟩ ?_
            rotate_left
            · intro w; go_simp; try rfl
            refine wpAnyIn_ready (rs := [4, 6]) (by kernel_rfl) (by simp) ?_
            refine AllReadyIn.cons rfl (fun K hK => ?_) ?_
            · go_simp
              first | (refine hK _ _ ?_; clear hK K) | skip
              refine wpAnyIn_ready (rs := [6]) (by kernel_rfl) (by simp) ?_
              refine AllReadyIn.cons rfl (fun K hK => ?_) ?_
              · go_simp
                first | (refine hK _ _ ?_; clear hK K) | skip
                refine wpAnyIn_ready (rs := [8]) (by kernel_rfl) (by simp) ?_
                refine AllReadyIn.cons rfl (fun K hK => ?_) ?_
                · go_simp
                  gi_wp2_with (refine ⟨trivial, ?_⟩; gi_at_call 60; refine (callsIn_wide.2 ((CK _ (HSK.out.step HD.out)).out)).mono ?_; rintro e w2 ⟨rfl, hb2⟩; have HB3 := Lib.hid (HD.out.trans (hb2.mono HD.out.size)); clear hb2)
                  first | (refine hK _ _ ?_; clear hK K) | skip
                  refine wpAnyIn_ready (rs := [9]) (by kernel_rfl) (by simp) ?_
                  refine AllReadyIn.cons rfl (fun K hK => ?_) ?_
                  · go_simp
                    first | (refine hK _ _ ?_; clear hK K) | skip
                    refine wpAnyIn_done (by kernel_rfl) ?_ _
                    exact ⟨rfl, rfl, HB3.out⟩
                  exact AllReadyIn.nil
                exact AllReadyIn.nil
              exact AllReadyIn.nil
            refine AllReadyIn.cons rfl (fun K hK => ?_) ?_
            · go_simp
              first | (refine hK _ _ ?_; clear hK K) | skip
              refine wpAnyIn_ready (rs := [4]) (by kernel_rfl) (by simp) ?_
              refine AllReadyIn.cons rfl (fun K hK => ?_) ?_
              · go_simp
                first | (refine hK _ _ ?_; clear hK K) | skip
                refine wpAnyIn_ready (rs := [8]) (by kernel_rfl) (by simp) ?_
                refine AllReadyIn.cons rfl (fun K hK => ?_) ?_
                · go_simp
                  gi_wp2_with (refine ⟨trivial, ?_⟩; gi_at_call 60; refine (callsIn_wide.2 ((CK _ (HSK.out.step HD.out)).out)).mono ?_; rintro e w2 ⟨rfl, hb2⟩; have HB3 := Lib.hid (HD.out.trans (hb2.mono HD.out.size)); clear hb2)
                  first | (refine hK _ _ ?_; clear hK K) | skip
                  refine wpAnyIn_ready (rs := [9]) (by kernel_rfl) (by simp) ?_
                  refine AllReadyIn.cons rfl (fun K hK => ?_) ?_
                  · go_simp
                    first | (refine hK _ _ ?_; clear hK K) | skip
                    refine wpAnyIn_done (by kernel_rfl) ?_ _
                    exact ⟨rfl, rfl, HB3.out⟩
                  exact AllReadyIn.nil
                exact AllReadyIn.nil
              exact AllReadyIn.nil
            exact AllReadyIn.nil
          refine AllReadyIn.cons rfl (fun K hK => ?_) ?_
          · go_simp
            first | (refine hK _ _ ?_; clear hK K) | skip
            refine wpAnyIn_ready (rs := [1]) (by kernel_rfl) (by simp) ?_
            refine AllReadyIn.cons rfl (fun K hK => ?_) ?_
            · go_simp
              first | (refine hK _ _ ?_; clear hK K) | skip
              refine wpAnyIn_take (i := 3) (v := ?_) rfl rfl (by kernel_rfl) (by kernel_rfl) (by kernel_rfl) (by rintro _ _ _ ⟨h, -⟩; cases h) ⟨Or.inl ⟨by rfl, ?_⟩, fun _ => rfl⟩ ?_
              rotate_left
              · intro w; go_simp; try rfl
              refine wpAnyIn_ready (rs := [4]) (by kernel_rfl) (by simp) ?_
              refine AllReadyIn.cons rfl (fun K hK => ?_) ?_
              · go_simp
                first | (refine hK _ _ ?_; clear hK K) | skip
                refine wpAnyIn_ready (rs := [8]) (by kernel_rfl) (by simp) ?_
                refine AllReadyIn.cons rfl (fun K hK => ?_) ?_
                · go_simp
                  gi_wp2_with (refine ⟨trivial, ?_⟩; gi_at_call 60; refine (callsIn_wide.2 ((CK _ (HSK.out.step HD.out)).out)).mono ?_; rintro e w2 ⟨rfl, hb2⟩; have HB3 := Lib.hid (HD.out.trans (hb2.mono HD.out.size)); clear hb2)
                  first | (refine hK _ _ ?_; clear hK K) | skip
                  refine wpAnyIn_ready (rs := [9]) (by kernel_rfl) (by simp) ?_
                  refine AllReadyIn.cons rfl (fun K hK => ?_) ?_
                  · go_simp
                    first | (refine hK _ _ ?_; clear hK K) | skip
                    refine wpAnyIn_done (by kernel_rfl) ?_ _
                    exact ⟨rfl, rfl, HB3.out⟩
                  exact AllReadyIn.nil
                exact AllReadyIn.nil
              exact AllReadyIn.nil
            exact AllReadyIn.nil
          exact AllReadyIn.nil
        exact AllReadyIn.nil
      · rintro e a2 w2 ⟨rfl, rfl, hb3⟩
        have HB2 := Lib.hid (below_nxt HB6.out hb3)
        have HB3 := Lib.hid hb3
        have HR2 := Lib.hid (HR6.out.step hb3)
        obtain ⟨rr0, rr1, rr2⟩ := HR2.out
        clear hb3
        by_cases hs0 : se = 0
        · subst hs0
          gi_wp2
          refine ⟨HRec.out.trans (Rec2.below HB3.out (by rw [HZ6.out]; omega)), HKP.out.trans (KpS.below HB3.out (fun b hb => by rw [HZ6.out]; rcases hb with h | h | h <;> omega)), ?_, HP6.out.step HB3.out, HR2.out, ?_, HB2.out⟩
          · intro y hy
            rcases List.mem_append.1 hy with hy | hy
            · exact HI1.out y hy
            · rw [List.mem_singleton] at hy
              rw [hy]; exact ⟨HLm.out, HSE.out⟩
          · rw [lastE_snoc, HE.out]; exact HE6'.out.step HB3.out
        · have hs0' : (se != 0) = true := by simpa using hs0
          have HS0 := Lib.hid hs0
          clear hs0
          gi_wp2
          refine ⟨(HRec.out.trans (Rec2.below HB3.out (by rw [HZ6.out]; omega))).trans (Rec2.setCell _ _ ⟨by simp, by simp⟩), pre, x, rfl, HI1.out, HB2.out.setCell (p := ⟨w.heap.size + 1, 0, none⟩) (by simp) _, .inr ⟨rfl, HLm.out, by rw [HSE.out]; exact HS0.out, by rw [HSE.out]; exact HR2.out.set _⟩⟩
  case done =>
    intro xs W hS hI _
    exfalso
    obtain ⟨hI1, -⟩ := hI
    have hmem : m ∈ xs.map (·.1) := by rw [show xs.map (·.1) = List.range (m + 1) from hS]; exact List.mem_range.2 (by omega)
    obtain ⟨x, hx, hxm⟩ := List.mem_map.1 hmem
    obtain ⟨h1, h2⟩ := hI1 x hx
    rw [hxm] at h1 h2
    have h3 := HM.out.2.2 h1
    rw [Sq.okS_of (by omega) h2] at h3
    cases h3
  case stop =>
    rintro c pre W ⟨rest, hrest⟩ ⟨p, x, rfl, hp, hB, hX⟩ hD
    have hrest' : List.range (m + 1) = (p.map (·.1) ++ [x.1]) ++ rest := by rw [hrest, List.map_append]; rfl
    obtain ⟨-, hall⟩ := Sq.pre_idx hrest'
    have hz : ∀ j, j < x.1 → Sq.stE nn L j = 0 := fun j hj => by
      obtain ⟨y, hy, rfl⟩ := List.mem_map.1 (hall j hj)
      exact (hp y hy).2
    rcases hX with ⟨rfl, hx, hP, hR, hE⟩ | ⟨rfl, hx, hne, hR⟩
    · rw [hx] at hz
      have hv := Sq.chk_last hnn (by omega) (by omega) hz
      have HM0 := Lib.hid (fun (a : Nat) (ha : a < 6) => Sq.mvI_nil (fun k hk => (Sq.stE_ok (hz k hk)).1) ha)
      have hel := Sq.bh_len 6 L L.length
      have hE6 := six_eq hel
      obtain ⟨l0, l1, l2⟩ := hE
      have e0 := l1 0 (by omega)
      have e1 := l1 1 (by omega)
      have e2 := l1 2 (by omega)
      have e3 := l1 3 (by omega)
      have e4 := l1 4 (by omega)
      have e5 := l1 5 (by omega)
      generalize Sq.bh 6 L L.length = E at *
      generalize E.getD 0 false = b0 at *
      generalize E.getD 1 false = b1 at *
      generalize E.getD 2 false = b2 at *
      generalize E.getD 3 false = b3 at *
      generalize E.getD 4 false = b4 at *
      generalize E.getD 5 false = b5 at *
      subst hE6
      have hnq := fun V => neqE b0 b1 b2 b3 b4 b5 V
      have hor := six_or b0 b1 b2 b3 b4 b5
      have HB := Lib.hid hB
      have HP := Lib.hid hP
      have HR := Lib.hid hR
      have HV := Lib.hid hv
      have HD0 := Lib.hid (Below.refl W.heap.size W).drew
      have HDD := Lib.hid hD
      have HOR := Lib.hid hor
      obtain ⟨p0, p1, p2⟩ := hP
      obtain ⟨r0, r1, r2⟩ := hR
      clear hv hor hz hall hrest hrest' hp l1 l2 hB hD hel
      have hmx : Tryd.prog.follows .mixedOrders = true := by kernel_rfl
      generalize (b0 || b1 || b2 || b3 || b4 || b5) = nb at *
      gi_wp2
      refine wpIn_mono (Q := fun e a' w2 => match e with
        | .normal => a' = { tmps := #[.agg #[.int .i64 (nn : Int), .slice ao L.length cap], .pointer (some ⟨w.heap.size, 0, none⟩), .pointer (some ⟨w.heap.size + 1, 0, none⟩), .pointer (some ⟨w.heap.size + 1 + 1, 0, none⟩), undef, undef, undef, undef, .pointer (some ⟨w.heap.size, 0, none⟩), .int .i64 (nn : Int), .bool false, .bool false, .pointer (some ⟨w.heap.size, 0, none⟩), .int .i64 (nn : Int), .bool false, .bool false, .pointer (some ⟨w.heap.size, 1, none⟩), .slice ao L.length cap, .int .i64 (L.length : Int), .bool false, .pointer (some ⟨w.heap.size, 1, none⟩), .slice ao L.length cap, .int .i64 (L.length : Int), .bool false, .agg #[.int .i64 (nn : Int), .slice ao L.length cap], .func (.func 92) #[] #[.pointer (some ⟨w.heap.size + 1 + 1 + 1, 0, none⟩)], undef, undef, undef, undef, undef, undef, undef, undef, undef, undef, undef, undef, undef, undef, undef, undef, undef, undef, undef, undef, .agg #[.bool b0, .bool b1, .bool b2, .bool b3, .bool b4, .bool b5], .agg #[.bool false, .bool false, .bool false, .bool false, .bool false, .bool false], .bool nb, undef, undef, undef, undef, undef, undef, undef, undef, undef, undef, undef], defers := { target := .collected (w.heap.size + 4), args := #[] } :: [] } ∧ Below W.heap.size W w2
        | _ => False) ?_ ?_
      · gi_region_with_o (refine ⟨trivial, ?_⟩; gi_at_call 61; refine (callsIn_wide.2 (sAll_any _)).mono ?_; rintro e W2 ⟨rfl, hb2, -⟩; have hb3 := HD0.out.trans (hb2.mono HD0.out.size); have HB2 := Lib.hid hb3; have g0 := (hb3.cell (p := ⟨w.heap.size + 2, 0, none⟩) l0).trans e0; have g1 := (hb3.cell (p := ⟨w.heap.size + 2, 1, none⟩) l0).trans e1; have g2 := (hb3.cell (p := ⟨w.heap.size + 2, 2, none⟩) l0).trans e2; have g3 := (hb3.cell (p := ⟨w.heap.size + 2, 3, none⟩) l0).trans e3; have g4 := (hb3.cell (p := ⟨w.heap.size + 2, 4, none⟩) l0).trans e4; have g5 := (hb3.cell (p := ⟨w.heap.size + 2, 5, none⟩) l0).trans e5; have gz := Nat.lt_of_lt_of_le l0 hb3.size; clear hb2 hb3)
        all_goals exact ⟨rfl, HB2.out⟩
      · intro e a2 W2 he
        cases e <;> first | exact he.elim | skip
        obtain ⟨rfl, hb3⟩ := he
        have HB2 := Lib.hid hb3
        have HP2 := Lib.hid (HP.out.step hb3)
        have HR2 := Lib.hid (HR.out.step hb3)
        have HDW := Lib.hid ((hb3.block (w.heap.size + 4) (Array.getElem?_eq_some_iff.1 HDD.out).1).trans HDD.out)
        have HBB := Lib.hid (below_nxt HB.out hb3)
        clear hb3 e0 e1 e2 e3 e4 e5 p0 p1 p2 r0 r1 r2 l0
        obtain ⟨q0, q1, q2⟩ := HP2.out
        obtain ⟨s0, s1, s2⟩ := HR2.out
        have HS2 : Hid (SeeT W2 (.slice ao L.length cap) L) := Lib.hid (HS.out.step HBB.out)
        have hl6 : L.length ≤ 64 := by omega
        cases nb
        · have hv9 : Sq.chk (nn : Int) L = if (List.range nn).all (Sq.mvs L) then 0 else 13 := by
            rw [HV.out, if_neg (fun h => by have := HOR.out.1 h; cases this)]
          have HV9 := Lib.hid hv9
          clear hv9
          gi_wp2
          gi_loopw [51] (fun s51 wr => ∃ i : Nat, i ≤ nn ∧ s51 = .int .i64 (i : Int) ∧ Hid (∀ j, j < i → Sq.mvs L j = true) ∧ Hid (Below W2.heap.size W2 wr)) (fun s51 _ => nn - (intOf s51).toNat)
          case atStart => exact ⟨0, Nat.zero_le _, rfl, Lib.hid (fun j h => by omega), Lib.hid (Below.refl _ _)⟩
          case round =>
            clear q0 q1 q2 s0 s1 s2
            obtain ⟨i, hi, rfl, HJ, HBr⟩ := hrel
            have HBw := Lib.hid (below_nxt HBB.out HBr.out)
            obtain ⟨q0, q1, q2⟩ := HP2.out.step HBr.out
            have HRr := Lib.hid (HR2.out.step HBr.out)
            obtain ⟨s0, s1, s2⟩ := HRr.out
            have HDr := Lib.hid ((HBr.out.block (w.heap.size + 4) (Array.getElem?_eq_some_iff.1 HDW.out).1).trans HDW.out)
            by_cases hin : i < nn
            · have hinz : (i : Int) < (nn : Int) := by omega
              have CM := fun V (h : SeeT V (.slice ao L.length cap) L) => Lib.hid (sMov_any (nn : Int) (.slice ao L.length cap) L (i : Int) V h hl6)
              have HM1 := Lib.hid (HM0.out i (by omega))
              unfold MovP at CM
              generalize (Sq.mvI L (i : Int) L.length) = F at *
              cases hmv : Sq.mvs L i
              · have hF0 : ((F.length : Int) == 0) = true := by have := HM1.out.2 hmv; simp [this]
                have HC13 : Hid (Sq.chk (nn : Int) L = 13) := Lib.hid (by rw [HV9.out, Sq.all_range_no hin hmv]; rfl)
                clear hmv HM1
                gi_wp2_with (refine ⟨trivial, ?_⟩; gi_at_call 62; refine (callsIn_wide.2 ((CM _ (HS2.out.step HBr.out)).out)).mono ?_; rintro e W3 ⟨ro, rc, rfl, -, hb3⟩; have HB3 := Lib.hid (below_nxt HBw.out hb3); have HR3 := Lib.hid (HRr.out.step hb3); obtain ⟨t0, t1, t2⟩ := HR3.out; have HD3 := Lib.hid ((hb3.block (w.heap.size + 4) (Array.getElem?_eq_some_iff.1 HDr.out).1).trans HDr.out); clear hb3)
                have hR9 := HR3.out.set (.int .i64 13)
                have hD9 : (W3.setCell ⟨w.heap.size + 1, 0, none⟩ (.int .i64 13)).heap[w.heap.size + 4]? = some (.deferred (some [])) := (Below.heap_setCell _ _ _ _ (by show w.heap.size + 4 ≠ w.heap.size + 1; omega)).trans HD3.out
                have hB9 := HB3.out.setCell (p := ⟨w.heap.size + 1, 0, none⟩) (by simp) (.int .i64 13)
                generalize W3.setCell ⟨w.heap.size + 1, 0, none⟩ (.int .i64 13) = W9 at *
                refine ⟨by simp, .inl ⟨_, _, rfl, run_takeDeferred hD9, ?_⟩⟩
                have hg := grownBy_putObj' W9 (w.heap.size + 4) (.deferred none)
                have hr : ∀ r, some (w.heap.size + 4) = some r → ∃ o : Obj, W9.heap[r]? = some o ∧ o.isCells = false := fun r e => by cases e; exact ⟨_, hD9, rfl⟩
                obtain ⟨-, f1, -⟩ := hR9.kept hg hr
                refine ⟨.int .i64 13, ?_, ⟨by rw [HC13.out], hB9.trans (belowK_b (w := w) (Nat.le_refl _) W9 (w.heap.size + 4) _ _ (by omega) hD9 rfl rfl)⟩⟩
                simp [results, Tryd.f21, go_sem, f1]
              · have hF0 : ((F.length : Int) == 0) = false := by
                  rw [beq_eq_false_iff_ne]
                  intro h
                  have := HM1.out.1 (by omega)
                  rw [hmv] at this; cases this
                have HJ2 : Hid (∀ j, j < i + 1 → Sq.mvs L j = true) := Lib.hid (fun j hj => by
                  by_cases e : j = i
                  · rw [e]; exact hmv
                  · exact HJ.out j (by omega))
                clear hmv HM1
                gi_wp2_with (refine ⟨trivial, ?_⟩; gi_at_call 62; refine (callsIn_wide.2 ((CM _ (HS2.out.step HBr.out)).out)).mono ?_; rintro e W3 ⟨ro, rc, rfl, -, hb3⟩; have HB3 := Lib.hid (below_nxt HBr.out hb3); clear hb3)
                exact ⟨⟨i + 1, by omega, by first | rfl | go_num, HJ2, HB3⟩, by simp [intOf]; omega⟩
            · have hinz : (i : Int) = (nn : Int) := by omega
              have HC0 : Hid (Sq.chk (nn : Int) L = 0) := Lib.hid (by rw [HV9.out, Sq.all_range_of (fun j hj => HJ.out j (by omega))]; rfl)
              gi_wp2
              have hR9 := HRr.out.set (.int .i64 0)
              have hD9 : (wr.setCell ⟨w.heap.size + 1, 0, none⟩ (.int .i64 0)).heap[w.heap.size + 4]? = some (.deferred (some [])) := (Below.heap_setCell _ _ _ _ (by show w.heap.size + 4 ≠ w.heap.size + 1; omega)).trans HDr.out
              have hB9 := HBw.out.setCell (p := ⟨w.heap.size + 1, 0, none⟩) (by simp) (.int .i64 0)
              generalize wr.setCell ⟨w.heap.size + 1, 0, none⟩ (.int .i64 0) = W9 at *
              refine ⟨by simp, .inl ⟨_, _, rfl, run_takeDeferred hD9, ?_⟩⟩
              have hg := grownBy_putObj' W9 (w.heap.size + 4) (.deferred none)
              have hr : ∀ r, some (w.heap.size + 4) = some r → ∃ o : Obj, W9.heap[r]? = some o ∧ o.isCells = false := fun r e => by cases e; exact ⟨_, hD9, rfl⟩
              obtain ⟨-, f1, -⟩ := hR9.kept hg hr
              refine ⟨.int .i64 0, ?_, ⟨by rw [HC0.out], hB9.trans (belowK_b (w := w) (Nat.le_refl _) W9 (w.heap.size + 4) _ _ (by omega) hD9 rfl rfl)⟩⟩
              simp [results, Tryd.f21, go_sem, f1]
        · have HC9 : Hid (Sq.chk (nn : Int) L = 9) := Lib.hid (by rw [HV.out, if_pos (HOR.out.2 rfl)])
          gi_wp2
          have hR9 := HR2.out.set (.int .i64 9)
          have hD9 : (W2.setCell ⟨w.heap.size + 1, 0, none⟩ (.int .i64 9)).heap[w.heap.size + 4]? = some (.deferred (some [])) := (Below.heap_setCell _ _ _ _ (by show w.heap.size + 4 ≠ w.heap.size + 1; omega)).trans HDW.out
          have hB9 := HBB.out.setCell (p := ⟨w.heap.size + 1, 0, none⟩) (by simp) (.int .i64 9)
          generalize W2.setCell ⟨w.heap.size + 1, 0, none⟩ (.int .i64 9) = W9 at *
          refine ⟨by simp, .inl ⟨_, _, rfl, run_takeDeferred hD9, ?_⟩⟩
          have hg := grownBy_putObj' W9 (w.heap.size + 4) (.deferred none)
          have hr : ∀ r, some (w.heap.size + 4) = some r → ∃ o : Obj, W9.heap[r]? = some o ∧ o.isCells = false := fun r e => by cases e; exact ⟨_, hD9, rfl⟩
          obtain ⟨-, f1, -⟩ := hR9.kept hg hr
          refine ⟨.int .i64 9, ?_, ⟨by rw [HC9.out], hB9.trans (belowK_b (w := w) (Nat.le_refl _) W9 (w.heap.size + 4) _ _ (by omega) hD9 rfl rfl)⟩⟩
          simp [results, Tryd.f21, go_sem, f1]
    · have hv := Sq.chk_step hnn (by omega) (by omega) hx hz hne
      gi_wp2
      refine ⟨by simp, .inl ⟨_, _, rfl, run_takeDeferred hD, ?_⟩⟩
      have hg := grownBy_putObj' W (w.heap.size + 4) (.deferred none)
      have hr : ∀ r, some (w.heap.size + 4) = some r → ∃ o : Obj, W.heap[r]? = some o ∧ o.isCells = false := fun r e => by cases e; exact ⟨_, hD, rfl⟩
      obtain ⟨-, f1, -⟩ := hR.kept hg hr
      refine ⟨.int .i64 (Sq.stE nn L x.1), ?_, ⟨by rw [hv], hB.trans (belowK_b (w := w) (Nat.le_refl _) W (w.heap.size + 4) _ _ (by omega) hD rfl rfl)⟩⟩
      simp [results, Tryd.f21, go_sem, f1]
end Go.Proofs.YtjpbccpleflkhaaDoor
