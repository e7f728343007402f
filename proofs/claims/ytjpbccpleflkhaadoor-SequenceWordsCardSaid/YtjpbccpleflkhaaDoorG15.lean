/- slices.Contains at strokes; hasAll of package sequence. hasAll of package sequence. Words of a sequence: plain facts; 'append' of several strokes. Word of package sequence. Words of package sequence. Accepts of package sequence. -/
import Derived.Test.YtjpbccpleflkhaaDoorG14
import Derived.Test.YtjpbccpleflkhaaDoorG06
import Derived.Test.YtjpbccpleflkhaaDoorG05
import Derived.BigQuiet
namespace Sq
open Sk
theorem mem_at {l : List Str} {i : Nat} (hi : i < l.length) {a b : Int} {o p : Bool} (h : l.getD i d0 = (b, p)) (he : (a == b && o == p) = true) : (a, o) ∈ l := by
  rw [Bool.and_eq_true, beq_iff_eq, beq_iff_eq] at he
  rw [he.1, he.2, ← h, List.getD_eq_getElem?_getD, List.getElem?_eq_getElem hi]
  exact List.getElem_mem hi
theorem mem_no {l : List Str} {a : Int} {o : Bool} (h : ∀ i, i < l.length → (a == (l.getD i d0).1 && o == (l.getD i d0).2) = false) : (a, o) ∉ l := fun hm => by
  obtain ⟨i, hi, he⟩ := List.mem_iff_getElem.1 hm
  have h1 := h i hi
  rw [List.getD_eq_getElem?_getD, List.getElem?_eq_getElem hi] at h1
  have h2 : (a == (l[i]).1 && o == (l[i]).2) = false := h1
  rw [he] at h2
  simp at h2
end Sq
namespace Go.Proofs.YtjpbccpleflkhaaDoor
open Go.RowKit Go.Shelf
attribute [local go_sem] Oper.semAt_some
set_option maxHeartbeats 4000000 in
set_option maxRecDepth 100000 in
theorem idxS_any (v : Value) (l : List Sk.Str) (a : Int) (o : Bool) (w : World) (hs : SeeK w v l) : Calls Tryd.prog 108 #[v, .agg #[.int .i64 a, .bool o]] w fun e w' => ∃ r : Int, e = .returned (.int .i64 r) ∧ decide (0 ≤ r) = decide ((a, o) ∈ l) ∧ Below w.heap.size w w' := by
  obtain ⟨ao, cap, rfl, hcap1, hcap2, hC⟩ := hs
  have HC := Lib.hid hC
  clear hC
  have HAt := Lib.hid (fun i (hi : i < l.length) b p (h : l.getD i Sk.d0 = (b, p)) he => decide_eq_true (Sq.mem_at hi (a := a) (o := o) h he))
  have HNo := Lib.hid (fun h => decide_eq_false (Sq.mem_no (l := l) (a := a) (o := o) h))
  generalize decide ((a, o) ∈ l) = q at *
  obtain ⟨P0, L0, z0⟩ := boxP_new w (.int .i64 a) (.bool o) 47
  have HL0 := Lib.hid L0
  have HP0 := Lib.hid P0
  clear P0 L0 z0
  go_enter Tryd.func108, Tryd.ntmps108
  go_wp2
  go_loopw [8] (fun s8 wr => ∃ i : Nat, i ≤ l.length ∧ s8 = .int .i64 (i : Int) ∧ Hid (∀ j, j < i → (a == (l.getD j Sk.d0).1 && o == (l.getD j Sk.d0).2) = false) ∧ Hid (BoxP wr w.heap.size (.int .i64 a) (.bool o)) ∧ Hid (Below w.heap.size w wr)) (fun s8 _ => l.length - (intOf s8).toNat)
  case atStart => exact ⟨0, Nat.zero_le _, rfl, Lib.hid (fun j h => by omega), HP0, HL0⟩
  case round =>
    obtain ⟨i, hi, rfl, HJ, HP, HBW⟩ := hrel
    obtain ⟨p0, p1, p2⟩ := HP.out
    have hwi : IntKind.i64.wrap (i : Int) = (i : Int) := IntWalk.i64_in _ (by omega)
    by_cases hil : i < l.length
    · obtain ⟨g, off, rfl, hg, c1, c2⟩ := HC.out.at HBW.out hil
      have hgr : g < wr.heap.size := Nat.lt_of_lt_of_le hg HBW.out.size
      have HAi := Lib.hid (HAt.out i hil)
      have HJ2 : Hid ((a == (l.getD i Sk.d0).1 && o == (l.getD i Sk.d0).2) = false → ∀ j, j < i + 1 → (a == (l.getD j Sk.d0).1 && o == (l.getD j Sk.d0).2) = false) := Lib.hid (fun h j hj => by
        by_cases e : j = i
        · rw [e]; exact h
        · exact HJ.out j (by omega))
      clear HAt HNo HJ HP0 HL0
      generalize l.getD i Sk.d0 = y at *
      obtain ⟨b, p⟩ := y
      simp only at c1 c2 HJ2
      have hns := eqlS a b o p
      have HAj := Lib.hid (HAi.out b p rfl)
      clear HAi
      generalize (a == b && o == p) = t at *
      cases t
      · have HJ3 := Lib.hid (HJ2.out rfl)
        clear HJ2 HAj
        go_wp2
        go_quiet (fail)
        go_wp2
        exact ⟨⟨i + 1, by omega, by first | rfl | go_num, HJ3, Lib.hid (HP.out.step (below_drewN _ _)), Lib.hid (HBW.out.trans (below_drewN _ _))⟩, by simp [intOf]; omega⟩
      · have HQ := Lib.hid (HAj.out rfl)
        clear HJ2 HAj
        go_wp2
        go_quiet (fail)
        go_wp2
        go_ret
        exact ⟨_, rfl, by rw [HQ.out]; exact decide_eq_true (by omega), HBW.out.trans (below_drewN _ _)⟩
    · obtain rfl : i = l.length := by omega
      have HQ := Lib.hid (HNo.out HJ.out)
      go_wp2
      go_ret
      exact ⟨_, rfl, by rw [HQ.out]; rfl, HBW.out⟩
set_option maxHeartbeats 4000000 in
set_option maxRecDepth 100000 in
theorem conS_any (v : Value) (l : List Sk.Str) (a : Int) (o : Bool) (w : World) (hs : SeeK w v l) : Calls Tryd.prog 96 #[v, .agg #[.int .i64 a, .bool o]] w fun e w' => e = .returned (.bool (decide ((a, o) ∈ l))) ∧ Below w.heap.size w w' := by
  have HS := Lib.hid hs
  obtain ⟨ao, cap, rfl, -⟩ := hs
  have CI := fun V (h : SeeK V (.slice ao l.length cap) l) => Lib.hid (idxS_any (.slice ao l.length cap) l a o V h)
  generalize decide ((a, o) ∈ l) = q at *
  obtain ⟨P0, L0, z0⟩ := boxP_new w (.int .i64 a) (.bool o) 47
  have HL0 := Lib.hid L0
  obtain ⟨p0, p1, p2⟩ := P0
  clear L0 z0
  go_enter Tryd.func96, Tryd.ntmps96
  go_wp2_with fail
  refine ((CI _ (HS.out.step HL0.out)).out).mono ?_
  rintro e w1 ⟨r, rfl, hr, hb1⟩
  have HB1 := Lib.hid (below_nxt HL0.out hb1)
  have HR := Lib.hid hr
  clear hb1 p0 p1 p2 hr
  go_wp2
  go_ret
  exact ⟨(by rw [← HR.out]; rfl), HB1.out⟩
end Go.Proofs.YtjpbccpleflkhaaDoor

namespace Sq
open Sk
/-- Are all strokes of a step in a part? -/
def hal (P l : List Str) : Bool := l.all fun x => decide (x ∈ P)
theorem hal_no {P l : List Str} {i : Nat} (hi : i < l.length) {b : Int} {p : Bool} (h : l.getD i d0 = (b, p)) (hn : decide ((b, p) ∈ P) = false) : hal P l = false := by
  unfold hal
  rw [List.all_eq_false]
  refine ⟨(b, p), ?_, by rw [hn]; decide⟩
  rw [← h, List.getD_eq_getElem?_getD, List.getElem?_eq_getElem hi]
  exact List.getElem_mem hi
theorem hal_yes {P l : List Str} (h : ∀ i, i < l.length → decide (((l.getD i d0).1, (l.getD i d0).2) ∈ P) = true) : hal P l = true := by
  unfold hal
  rw [List.all_eq_true]
  intro x hx
  obtain ⟨i, hi, rfl⟩ := List.mem_iff_getElem.1 hx
  have := h i hi
  rw [List.getD_eq_getElem?_getD, List.getElem?_eq_getElem hi] at this
  exact this
end Sq
namespace Go.Proofs.YtjpbccpleflkhaaDoor
open Go.RowKit Go.Shelf
attribute [local go_sem] Oper.semAt_some
set_option maxHeartbeats 4000000 in
set_option maxRecDepth 100000 in
theorem sHal_any (u v : Value) (P l : List Sk.Str) (w : World) (hu : SeeK w u P) (hs : SeeK w v l) : Calls Tryd.prog 70 #[u, v] w fun e w' => e = .returned (.bool (Sq.hal P l)) ∧ Below w.heap.size w w' := by
  have HU := Lib.hid hu
  obtain ⟨bo, bcap, rfl, -⟩ := hu
  obtain ⟨ao, cap, rfl, hcap1, hcap2, hC⟩ := hs
  have HC := Lib.hid hC
  clear hC
  have HAt := Lib.hid (fun i (hi : i < l.length) b p (h : l.getD i Sk.d0 = (b, p)) hn => Sq.hal_no hi (P := P) h hn)
  have HNo := Lib.hid (fun h => Sq.hal_yes (P := P) (l := l) h)
  generalize Sq.hal P l = q at *
  go_enter Tryd.func70, Tryd.ntmps70
  go_wp2
  go_loopw [9] (fun s9 wr => ∃ i : Nat, i ≤ l.length ∧ s9 = .int .i64 (i : Int) ∧ Hid (∀ j, j < i → decide (((l.getD j Sk.d0).1, (l.getD j Sk.d0).2) ∈ P) = true) ∧ Hid (Below w.heap.size w wr)) (fun s9 _ => l.length - (intOf s9).toNat)
  case atStart => exact ⟨0, Nat.zero_le _, rfl, Lib.hid (fun j h => by omega), Lib.hid (Below.refl _ _)⟩
  case round =>
    obtain ⟨i, hi, rfl, HJ, HBW⟩ := hrel
    have hwi : IntKind.i64.wrap (i : Int) = (i : Int) := IntWalk.i64_in _ (by omega)
    by_cases hil : i < l.length
    · obtain ⟨g, off, rfl, hg, c1, c2⟩ := HC.out.at HBW.out hil
      have hgr : g < wr.heap.size := Nat.lt_of_lt_of_le hg HBW.out.size
      have HAi := Lib.hid (HAt.out i hil)
      have HJ2 : Hid (decide (((l.getD i Sk.d0).1, (l.getD i Sk.d0).2) ∈ P) = true → ∀ j, j < i + 1 → decide (((l.getD j Sk.d0).1, (l.getD j Sk.d0).2) ∈ P) = true) := Lib.hid (fun h j hj => by
        by_cases e : j = i
        · rw [e]; exact h
        · exact HJ.out j (by omega))
      clear HAt HNo HJ
      generalize l.getD i Sk.d0 = y at *
      obtain ⟨b, p⟩ := y
      simp only at c1 c2 HJ2
      have HAj := Lib.hid (HAi.out b p rfl)
      clear HAi
      have L1 := allocB wr (.cells #[.int .i64 b, .bool p] 47)
      have HB1 := Lib.hid (below_nxt HBW.out L1)
      have CI := fun V (h : SeeK V (.slice bo P.length bcap) P) => Lib.hid (conS_any (.slice bo P.length bcap) P b p V h)
      clear L1
      generalize decide ((b, p) ∈ P) = t at *
      cases t
      · have HQ := Lib.hid (HAj.out rfl)
        clear HJ2 HAj
        go_wp2_with fail
        refine ((CI _ (HU.out.step HB1.out)).out).mono ?_
        rintro e w2 ⟨rfl, hb2⟩
        have HB2 := Lib.hid (below_nxt HB1.out hb2)
        clear hb2 c1 c2
        go_wp2
        go_ret
        exact ⟨(by rw [HQ.out]; rfl), HB2.out⟩
      · have HJ3 := Lib.hid (HJ2.out rfl)
        clear HJ2 HAj
        go_wp2_with fail
        refine ((CI _ (HU.out.step HB1.out)).out).mono ?_
        rintro e w2 ⟨rfl, hb2⟩
        have HB2 := Lib.hid (below_nxt HB1.out hb2)
        clear hb2 c1 c2
        go_wp2
        exact ⟨⟨i + 1, by omega, by first | rfl | go_num, HJ3, HB2⟩, by simp [intOf]; omega⟩
    · obtain rfl : i = l.length := by omega
      have HQ := Lib.hid (HNo.out HJ.out)
      go_wp2
      go_ret
      exact ⟨(by rw [HQ.out]; rfl), HBW.out⟩
end Go.Proofs.YtjpbccpleflkhaaDoor

namespace Sq
open Sk
/-- The first word of the first i steps. -/
def wdI (L : List Stp) (i : Nat) : List Str := (L.take i).flatMap fun x => x.1
theorem wdI_zero (L : List Stp) : wdI L 0 = [] := rfl
theorem getD_at {L : List Stp} {i : Nat} (h : i < L.length) : L.getD i t0 = L[i] := by rw [List.getD_eq_getElem?_getD, List.getElem?_eq_getElem h]; rfl
theorem wdI_succ {L : List Stp} {i : Nat} (h : i < L.length) : wdI L (i + 1) = wdI L i ++ (L.getD i t0).1 := by
  unfold wdI
  rw [List.take_succ_eq_append_getElem h, List.flatMap_append, getD_at h]
  simp
theorem wdI_len {n : Int} {L : List Stp} (h : Rt n L) : ∀ {i : Nat}, i ≤ L.length → (wdI L i).length ≤ 6 * i
  | 0, _ => by rw [wdI_zero]; simp
  | i + 1, hi => by
    have h1 := (chkP_ok (stE_ok (h.stp i (by omega))).1).1.le6
    have h2 := wdI_len h (i := i) (by omega)
    rw [wdI_succ (by omega), List.length_append]; omega
/-- What Word answers. -/
def wrdV (n : Int) (L : List Stp) : List Str × Int := if chk n L = 0 then (wdI L L.length, 0) else ([], chk n L)
def fac : Nat → Nat
  | 0 => 1
  | k + 1 => fac k * (k + 1)
theorem fac_pos : ∀ k, 0 < fac k
  | 0 => by decide
  | k + 1 => Nat.mul_pos (fac_pos k) (by omega)
theorem fac_mono {k : Nat} : ∀ {m : Nat}, k ≤ m → fac k ≤ fac m
  | 0, h => by rw [show k = 0 by omega]; exact Nat.le_refl _
  | m + 1, h => by
    by_cases e : k = m + 1
    · rw [e]; exact Nat.le_refl _
    · exact Nat.le_trans (fac_mono (show k ≤ m by omega)) (Nat.le_mul_of_pos_right _ (by omega))
/-- How many words the first i steps have. -/
def wsI (L : List Stp) (i : Nat) : Nat := (L.take i).foldl (fun n x => n * fac x.1.length) 1
theorem wsI_zero (L : List Stp) : wsI L 0 = 1 := rfl
theorem wsI_succ {L : List Stp} {i : Nat} (h : i < L.length) : wsI L (i + 1) = wsI L i * fac (L.getD i t0).1.length := by
  unfold wsI
  rw [List.take_succ_eq_append_getElem h, List.foldl_append, getD_at h]
  rfl
theorem wsI_pos (L : List Stp) : ∀ {i : Nat}, i ≤ L.length → 0 < wsI L i
  | 0, _ => by rw [wsI_zero]; omega
  | i + 1, h => by rw [wsI_succ (by omega)]; exact Nat.mul_pos (wsI_pos L (by omega)) (fac_pos _)
theorem wsI_mono {L : List Stp} {i : Nat} : ∀ {m : Nat}, i ≤ m → m ≤ L.length → wsI L i ≤ wsI L m
  | 0, h, _ => by rw [show i = 0 by omega]; exact Nat.le_refl _
  | m + 1, h, hm => by
    by_cases e : i = m + 1
    · rw [e]; exact Nat.le_refl _
    · rw [wsI_succ (by omega)]
      exact Nat.le_trans (wsI_mono (show i ≤ m by omega) (by omega)) (Nat.le_mul_of_pos_right _ (fac_pos _))
theorem wsI_part {L : List Stp} {i k : Nat} (h : i < L.length) (hk : k ≤ (L.getD i t0).1.length) : wsI L i * fac k ≤ wsI L L.length := by
  refine Nat.le_trans (Nat.mul_le_mul_left _ (fac_mono hk)) ?_
  rw [← wsI_succ h]
  exact wsI_mono (by omega) (Nat.le_refl _)
/-- What Words answers. -/
def wsV (n : Int) (L : List Stp) : Int × Int := if chk n L = 0 then (if wsI L L.length ≤ 1048576 then ((wsI L L.length : Int), 0) else (0, 12)) else (0, chk n L)
/-- Is a word one of those of the steps? -/
def acc : List Stp → List Str → Bool
  | [], P => decide (P.length = 0)
  | x :: L, P => if x.1.length ≤ P.length ∧ hal (P.take x.1.length) x.1 = true then acc L (P.drop x.1.length) else false
theorem acc_at {L : List Stp} {i : Nat} (h : i < L.length) (P : List Str) : acc (L.drop i) P = if (L.getD i t0).1.length ≤ P.length ∧ hal (P.take (L.getD i t0).1.length) (L.getD i t0).1 = true then acc (L.drop (i + 1)) (P.drop (L.getD i t0).1.length) else false := by
  rw [List.drop_eq_getElem_cons h, getD_at h]; rfl
theorem acc_end (L : List Stp) (P : List Str) : acc (L.drop L.length) P = decide (P.length = 0) := by rw [List.drop_length]; rfl
/-- What Accepts answers. -/
def accV (n : Int) (L : List Stp) (P : List Str) : Bool × Int := if chk n L = 0 then (acc L P, 0) else (false, chk n L)
end Sq
namespace Go.Proofs.YtjpbccpleflkhaaDoor
open Go.RowKit Go.Shelf
/-- 'append' of strokes to a slice of the call's own. -/
theorem wpList_append_strs {P : Program} {w : World} {ops : Array Oper} {rest : List Oper} {o : Oper} {a : Act} {Q : Exit → Act → World → Prop} (hgd : o.guard = none) (s x : Operand) (t : TypeId)
    (ho : o.op = .call { callee := .builtin .append, args := #[s, x], argTypes := #[t, t] })
    (e : TypeId) (i : TypeInfo) (ht : P.underlying t = some (.slice e)) (hi : P.info? e = some i) (hz : i.zero = some (.agg #[.int .i64 0, .bool false])) (hsize : i.size = 2) (hby : i.bytes = 16)
    (v u : Value) (l m : List Sk.Str) (hs : a.eval s = v) (hx : a.eval x = u) (B : Nat) (hown : RowK B e w v l) (hu : SeeK w u m) (hm : 0 < m.length)
    (hlen : l.length + m.length ≤ 1048576) (hB : B ≤ w.heap.size)
    (h : ∀ ao' cap' w', RowK B e w' (.slice ao' (l ++ m).length cap') (l ++ m) → w.grownBy w' v.ownBlock → wpList P ops Q rest (a.put o.dst (.slice ao' (l ++ m).length cap')) w') : wpList P ops Q (o :: rest) a w := by
  obtain ⟨ao, cap, rfl, hc1, hc2, hC⟩ := hu
  obtain ⟨g, off, rfl, hg, hcells⟩ := hC hm
  refine wpList_append_own w hgd s x t ho B e i (.agg #[.int .i64 0, .bool false]) 2 16 ht hi hz hsize hby rfl (by omega) v l.length _ hs hown ⟨g, off, none⟩ m.length cap (m.flatMap Sk.encS) hx (by rw [Sk.flat_len]) ?_ ?_ (by unfold maxLen; omega) (by omega) hB ?_
  · intro j u hj
    have hj2 : j < m.length * 2 := by have := (List.getElem?_eq_some_iff.1 hj).1; rwa [Sk.flat_len] at this
    have hadd : (⟨g, off, none⟩ : Addr).add j = ⟨g, off + j, none⟩ := by unfold Addr.add; split <;> simp_all
    rw [hadd]
    obtain ⟨c0, c1⟩ := hcells (j / 2) (by omega)
    rcases Nat.mod_two_eq_zero_or_one j with e | e
    · have := Sk.flat_get m (j / 2) 0 (by omega) (by omega)
      rw [show j / 2 * 2 + 0 = j by omega, hj] at this
      have hu : u = .int .i64 (m.getD (j / 2) Sk.d0).1 := by simpa [Sk.encS] using this
      rw [hu, show off + j = off + j / 2 * 2 by omega]; exact c0
    · have := Sk.flat_get m (j / 2) 1 (by omega) (by omega)
      rw [show j / 2 * 2 + 1 = j by omega, hj] at this
      have hu : u = .bool (m.getD (j / 2) Sk.d0).2 := by simpa [Sk.encS] using this
      rw [hu, show off + j = off + j / 2 * 2 + 1 by omega]; exact c1
  · intro u hu
    obtain ⟨y, -, hy⟩ := List.mem_flatMap.1 hu
    simp only [Sk.encS, List.mem_cons, List.not_mem_nil, or_false] at hy
    rcases hy with rfl | rfl <;> rfl
  · intro v' w' r1 r2 r3
    have hr : RowK B e w' v' (l ++ m) := by
      unfold RowK
      rw [List.length_append, List.flatMap_append]
      exact r1
    obtain ⟨ao', cap', rfl⟩ := hr.form
    exact h _ _ _ hr r2
/-- What Word leaves. -/
def WrdP (q : List Sk.Str × Int) (w : World) (e : Ending) (w' : World) : Prop := ∃ ao cap, e = .returned (.tuple #[.slice ao q.1.length cap, .int .i64 q.2]) ∧ SeeK w' (.slice ao q.1.length cap) q.1 ∧ Below w.heap.size w w'
end Go.Proofs.YtjpbccpleflkhaaDoor

namespace Go.Proofs.YtjpbccpleflkhaaDoor
open Go.RowKit Go.Shelf
attribute [local go_sem] Oper.semAt_some
set_option maxHeartbeats 8000000 in
set_option maxRecDepth 100000 in
theorem qWrd_any (n : Int) (v : Value) (L : List Sk.Stp) (w : World) (hs : SeeT w v L) : Calls Tryd.prog 17 #[.agg #[.int .i64 n, v]] w (WrdP (Sq.wrdV n L) w) := by
  obtain ⟨i0, hi0, hz0, hz1, hz2⟩ := info_str2
  have HS := Lib.hid hs
  obtain ⟨ao, cap, rfl, hcap1, hcap2, hC⟩ := hs
  have HC := Lib.hid hC
  have CC := fun V (h : SeeT V (.slice ao L.length cap) L) => Lib.hid (qChk_any n (.slice ao L.length cap) L V h)
  obtain ⟨P0, L0, z0⟩ := boxP_new w (.int .i64 n) (.slice ao L.length cap) 32
  have HL0 := Lib.hid L0
  have HP0 := Lib.hid P0
  clear hC
  by_cases hc : Sq.chk n L = 0
  · rw [hc] at CC
    have hR := Sq.chk_ok hc
    have hl64 := hR.l64
    have hv : Sq.wrdV n L = (Sq.wdI L L.length, 0) := by unfold Sq.wrdV; rw [if_pos hc]
    have HVE := Lib.hid hv
    have HLn := Lib.hid (fun i (h : i ≤ L.length) => Sq.wdI_len hR h)
    have HT := Lib.hid (fun i (h : i < L.length) => Sq.wdI_succ h)
    have HRL := Lib.hid (fun k (h : k < L.length) => (Sk.chkP_ok (Sq.stE_ok (hR.stp k h)).1).1)
    clear hc hR hv
    obtain ⟨p0, p1, p2⟩ := P0
    clear L0 z0
    go_enter Tryd.func17, Tryd.ntmps17
    go_wp2_with fail
    refine ((CC _ (HS.out.step HL0.out)).out).mono ?_
    rintro e w1 ⟨rfl, hb1⟩
    have HB1 := Lib.hid (below_nxt HL0.out hb1)
    have HP1 := Lib.hid (HP0.out.step hb1)
    obtain ⟨q0, q1, q2⟩ := HP1.out
    clear hb1 p0 p1 p2
    go_wp2
    clear q0 q1 q2
    go_loopw [5, 16] (fun s5 s16 wr => ∃ i : Nat, i ≤ L.length ∧ s16 = .int .i64 (i : Int) ∧ Hid (RowK w.heap.size 47 wr s5 (Sq.wdI L i)) ∧ Hid (Below w.heap.size w wr)) (fun _ s16 _ => L.length - (intOf s16).toNat)
    case atStart => exact ⟨0, Nat.zero_le _, rfl, Lib.hid (RowK.nil _ _ _), HB1⟩
    case round =>
      obtain ⟨i, hi, rfl, HR, HB⟩ := hrel
      obtain ⟨ro, rc, hro⟩ := HR.out.form
      have hiz : (L.length : Int) ≤ 64 := by omega
      by_cases hil : i < L.length
      · subst hro
        obtain ⟨g, off, ak, ck, rfl, hg, c1, c2, hk⟩ := HC.out.at HB.out hil
        have HTi := Lib.hid (HT.out i hil)
        have HLi := Lib.hid (HLn.out i hi)
        have HRi := Lib.hid (HRL.out i hil)
        have L1 := allocB wr (.cells #[.slice ak (L.getD i Sk.t0).1.length ck, .int .i64 (L.getD i Sk.t0).2] 70)
        have HB1 := Lib.hid (below_nxt HB.out L1)
        have HR1 := Lib.hid (HR.out.step L1)
        have HK := Lib.hid (hk.step L1)
        have hgr : g < wr.heap.size := Nat.lt_of_lt_of_le hg HB.out.size
        clear HT HLn hk L1 HB HR HRL
        generalize L.getD i Sk.t0 = y at *
        obtain ⟨l, k⟩ := y
        simp only at c1 c2 HK HB1 HR1 HTi HRi
        generalize Sq.wdI L i = F at *
        go_wp2_with (at_builtin; refine wpList_append_strs rfl _ _ 34 rfl 47 i0 Tryd.underlying34 hi0 hz0 hz1 hz2 _ _ F l rfl rfl w.heap.size HR1.out HK.out HRi.out.pos (by have := HRi.out.le6; have := HLi.out; omega) HB1.out.size ?_; intro a5 p5 w5 hr5 hg5; have HR5 := Lib.hid hr5; have HB5 := Lib.hid (HB1.out.grown hg5 HB1.out.size (fun r e => (World.ownsRow.lt HR1.out r e).1)); clear hr5 hg5)
        have HR6 := Lib.hid (by have h := HR5.out; rw [List.length_append] at h; exact h)
        exact ⟨⟨i + 1, by omega, by first | rfl | go_num, by rw [HTi.out]; exact HR6, HB5⟩, by simp [intOf]; omega⟩
      · obtain rfl : i = L.length := by omega
        subst hro
        have HSe := Lib.hid HR.out.sees
        go_wp2
        exact bodyPost_ret (v := .tuple #[.slice ro (Sq.wdI L L.length).length rc, .int .i64 0]) (by simp [results, Tryd.f17, go_sem]) rfl ⟨ro, rc, by rw [HVE.out], by rw [HVE.out]; exact HSe.out, HB.out⟩
  · have hv : Sq.wrdV n L = ([], Sq.chk n L) := by unfold Sq.wrdV; rw [if_neg hc]
    rw [hv]
    have hct : (Sq.chk n L != 0) = true := by simpa using hc
    clear hv hc
    generalize Sq.chk n L = c at *
    obtain ⟨p0, p1, p2⟩ := P0
    clear L0 z0
    go_enter Tryd.func17, Tryd.ntmps17
    go_wp2_with fail
    refine ((CC _ (HS.out.step HL0.out)).out).mono ?_
    rintro e w1 ⟨rfl, hb1⟩
    have HB1 := Lib.hid (below_nxt HL0.out hb1)
    clear hb1 p0 p1 p2
    go_wp2
    exact bodyPost_ret (v := .tuple #[.slice none 0 0, .int .i64 c]) (by simp [results, Tryd.f17, go_sem]) rfl ⟨none, 0, rfl, SeeK.nil _, HB1.out⟩
end Go.Proofs.YtjpbccpleflkhaaDoor

namespace Go.Proofs.YtjpbccpleflkhaaDoor
open Go.RowKit Go.Shelf
attribute [local go_sem] Oper.semAt_some
set_option maxHeartbeats 8000000 in
set_option maxRecDepth 100000 in
theorem qWds_any (n : Int) (v : Value) (L : List Sk.Stp) (w : World) (hs : SeeT w v L) : Calls Tryd.prog 19 #[.agg #[.int .i64 n, v]] w fun e w' => e = .returned (.tuple #[.int .i64 (Sq.wsV n L).1, .int .i64 (Sq.wsV n L).2]) ∧ Below w.heap.size w w' := by
  have HS := Lib.hid hs
  obtain ⟨ao, cap, rfl, hcap1, hcap2, hC⟩ := hs
  have HC := Lib.hid hC
  have CC := fun V (h : SeeT V (.slice ao L.length cap) L) => Lib.hid (qChk_any n (.slice ao L.length cap) L V h)
  obtain ⟨P0, L0, z0⟩ := boxP_new w (.int .i64 n) (.slice ao L.length cap) 32
  have HL0 := Lib.hid L0
  have HP0 := Lib.hid P0
  clear hC
  by_cases hc : Sq.chk n L = 0
  · rw [hc] at CC
    have hR := Sq.chk_ok hc
    have hl64 := hR.l64
    have HV1 := Lib.hid (show Sq.wsI L L.length ≤ 1048576 → Sq.wsV n L = ((Sq.wsI L L.length : Int), 0) from fun h => by unfold Sq.wsV; rw [if_pos hc, if_pos h])
    have HV2 := Lib.hid (show 1048576 < Sq.wsI L L.length → Sq.wsV n L = (0, 12) from fun h => by unfold Sq.wsV; rw [if_pos hc, if_neg (by omega)])
    have HT := Lib.hid (fun i (h : i < L.length) => Sq.wsI_succ h)
    have HPart := Lib.hid (fun i k (h : i < L.length) (hk : k ≤ (L.getD i Sk.t0).1.length) => Sq.wsI_part h hk)
    have HRL := Lib.hid (fun k (h : k < L.length) => (Sk.chkP_ok (Sq.stE_ok (hR.stp k h)).1).1)
    clear hc hR
    obtain ⟨p0, p1, p2⟩ := P0
    clear L0 z0
    generalize Sq.wsV n L = V at *
    go_enter Tryd.func19, Tryd.ntmps19
    go_wp2_with fail
    refine ((CC _ (HS.out.step HL0.out)).out).mono ?_
    rintro e w1 ⟨rfl, hb1⟩
    have HB1 := Lib.hid (below_nxt HL0.out hb1)
    have HP1 := Lib.hid (HP0.out.step hb1)
    obtain ⟨q0, q1, q2⟩ := HP1.out
    clear hb1 p0 p1 p2
    go_wp2
    clear q0 q1 q2
    go_loopw [5, 17] (fun s5 s17 wr => ∃ i : Nat, i ≤ L.length ∧ s17 = .int .i64 (i : Int) ∧ s5 = .int .i64 (Sq.wsI L i : Int) ∧ Sq.wsI L i ≤ 1048576 ∧ Hid (Below w.heap.size w wr)) (fun _ s17 _ => L.length - (intOf s17).toNat)
    case atStart => exact ⟨0, Nat.zero_le _, rfl, rfl, by rw [Sq.wsI_zero]; omega, HB1⟩
    case round =>
      obtain ⟨i, hi, rfl, rfl, hle, HB⟩ := hrel
      have hiz : (L.length : Int) ≤ 64 := by omega
      by_cases hil : i < L.length
      · obtain ⟨g, off, ak, ck, rfl, hg, c1, c2, hk⟩ := HC.out.at HB.out hil
        have HTi := Lib.hid (HT.out i hil)
        have HPi := Lib.hid (fun k => HPart.out i k hil)
        have HRi := Lib.hid (HRL.out i hil)
        have L1 := allocB wr (.cells #[.slice ak (L.getD i Sk.t0).1.length ck, .int .i64 (L.getD i Sk.t0).2] 70)
        have HB1 := Lib.hid (below_nxt HB.out L1)
        have hgr : g < wr.heap.size := Nat.lt_of_lt_of_le hg HB.out.size
        clear HT hk L1 HB HRL HPart
        generalize L.getD i Sk.t0 = y at *
        obtain ⟨l, k⟩ := y
        simp only at c1 c2 HB1 HTi HRi HPi
        have hl6 := HRi.out.le6
        generalize Sq.wsI L i = F at *
        go_wp2
        go_loopw [5, 24] (fun s5 s24 wr => ∃ j : Nat, j ≤ l.length ∧ s24 = .int .i64 (j : Int) ∧ s5 = .int .i64 ((F * Sq.fac j : Nat) : Int) ∧ F * Sq.fac j ≤ 1048576 ∧ Hid (Below w.heap.size w wr)) (fun _ s24 _ => l.length - (intOf s24).toNat)
        case atStart => exact ⟨0, Nat.zero_le _, rfl, by simp [Sq.fac], by simp [Sq.fac]; exact hle, HB1⟩
        case round =>
          obtain ⟨j, hj, rfl, rfl, hlj, HBj⟩ := hrel
          by_cases hjl : j < l.length
          · have hm : (F * Sq.fac j) * (j + 1) ≤ 1048576 * 7 := Nat.mul_le_mul hlj (by omega)
            have he : F * Sq.fac (j + 1) = (F * Sq.fac j) * (j + 1) := by show F * (Sq.fac j * (j + 1)) = _; rw [Nat.mul_assoc]
            have HE := Lib.hid he
            have HPj := Lib.hid (HPi.out (j + 1) (by omega))
            clear he
            have hw1 : IntKind.i64.wrap ((j : Int) + 1) = (j : Int) + 1 := IntWalk.i64_in _ (by omega)
            have hw2 : IntKind.i64.wrap (((F * Sq.fac j : Nat) : Int) * ((j : Int) + 1)) = (((F * Sq.fac j) * (j + 1) : Nat) : Int) := by
              rw [show ((F * Sq.fac j : Nat) : Int) * ((j : Int) + 1) = (((F * Sq.fac j) * (j + 1) : Nat) : Int) by push_cast; rfl]
              exact IntWalk.i64_in _ (by omega)
            rw [← HE.out] at hw2 hm
            generalize hXX : F * Sq.fac (j + 1) = X at *
            generalize F * Sq.fac j = Y at *
            by_cases hx : X ≤ 1048576
            · go_wp2
              exact ⟨⟨j + 1, by omega, by first | rfl | go_num, by rw [hXX, HE.out], by rw [hXX]; exact hx, HBj⟩, by simp [intOf]; omega⟩
            · have HVV := Lib.hid (HV2.out (by have := HPj.out; omega))
              go_wp2
              exact bodyPost_ret (v := .tuple #[.int .i64 0, .int .i64 12]) (by simp [results, Tryd.f19, go_sem]) rfl ⟨by rw [HVV.out], HBj.out⟩
          · obtain rfl : j = l.length := by omega
            go_wp2
            exact ⟨⟨i + 1, by omega, by first | rfl | go_num, by rw [HTi.out], by rw [HTi.out]; exact hlj, HBj⟩, by simp [intOf]; omega⟩
      · obtain rfl : i = L.length := by omega
        have HVV := Lib.hid (HV1.out hle)
        go_wp2
        exact bodyPost_ret (v := .tuple #[.int .i64 (Sq.wsI L L.length : Int), .int .i64 0]) (by simp [results, Tryd.f19, go_sem]) rfl ⟨by rw [HVV.out], HB.out⟩
  · have hv : Sq.wsV n L = (0, Sq.chk n L) := by unfold Sq.wsV; rw [if_neg hc]
    rw [hv]
    have hct : (Sq.chk n L != 0) = true := by simpa using hc
    clear hv hc
    generalize Sq.chk n L = c at *
    obtain ⟨p0, p1, p2⟩ := P0
    clear L0 z0
    go_enter Tryd.func19, Tryd.ntmps19
    go_wp2_with fail
    refine ((CC _ (HS.out.step HL0.out)).out).mono ?_
    rintro e w1 ⟨rfl, hb1⟩
    have HB1 := Lib.hid (below_nxt HL0.out hb1)
    clear hb1 p0 p1 p2
    go_wp2
    exact bodyPost_ret (v := .tuple #[.int .i64 0, .int .i64 c]) (by simp [results, Tryd.f19, go_sem]) rfl ⟨rfl, HB1.out⟩
end Go.Proofs.YtjpbccpleflkhaaDoor

namespace Go.Proofs.YtjpbccpleflkhaaDoor
open Go.RowKit Go.Shelf
attribute [local go_sem] Oper.semAt_some
theorem SeeK.take {w : World} {ao : Option Addr} {cap : Nat} {P : List Sk.Str} (h : SeeK w (.slice ao P.length cap) P) {n : Nat} (hn : n ≤ P.length) : SeeK w (.slice ao n cap) (P.take n) := by
  obtain ⟨a, c, e, h1, h2, h3⟩ := h
  have hl : (P.take n).length = n := by rw [List.length_take]; omega
  obtain ⟨rfl, rfl⟩ : a = ao ∧ c = cap := by simp at e; exact ⟨e.1.symm, e.2.symm⟩
  refine ⟨a, c, by rw [hl], by omega, h2, fun hp => ?_⟩
  obtain ⟨g, off, hg, hb, hc⟩ := h3 (by omega)
  refine ⟨g, off, hg, hb, fun i hi => ?_⟩
  have hi' : i < n := by omega
  have := hc i (by omega)
  rwa [show (P.take n).getD i Sk.d0 = P.getD i Sk.d0 by rw [List.getD_eq_getElem?_getD, List.getD_eq_getElem?_getD, List.getElem?_take_of_lt hi']]
theorem SeeK.dropAt {w : World} {g off : Nat} {cap : Nat} {P : List Sk.Str} (h : SeeK w (.slice (some ⟨g, off, none⟩) P.length cap) P) {n : Nat} (hn : n ≤ P.length) : SeeK w (.slice (if cap = n then some ⟨g, off, none⟩ else some ⟨g, off + n * 2, none⟩) (P.length - n) (cap - n)) (P.drop n) := by
  obtain ⟨a, c, e, h1, h2, h3⟩ := h
  have hl : (P.drop n).length = P.length - n := List.length_drop ..
  obtain ⟨rfl, rfl⟩ : a = some ⟨g, off, none⟩ ∧ c = cap := by simp at e; exact ⟨e.1.symm, e.2.symm⟩
  by_cases hcn : c = n
  · rw [if_pos hcn]
    exact ⟨_, c - n, by rw [hl], by omega, by omega, fun hp => by omega⟩
  rw [if_neg hcn]
  refine ⟨_, c - n, by rw [hl], by omega, by omega, fun hp => ?_⟩
  obtain ⟨g', off', hg, hb, hc⟩ := h3 (by omega)
  obtain ⟨rfl, rfl⟩ : g' = g ∧ off' = off := by simp at hg; exact ⟨hg.1.symm, hg.2.symm⟩
  refine ⟨_, _, rfl, hb, fun i hi => ?_⟩
  have := hc (n + i) (by omega)
  rw [show (P.drop n).getD i Sk.d0 = P.getD (n + i) Sk.d0 by rw [List.getD_eq_getElem?_getD, List.getD_eq_getElem?_getD, List.getElem?_drop]]
  rw [show off' + n * 2 + i * 2 = off' + (n + i) * 2 by omega]
  exact this
set_option maxHeartbeats 8000000 in
set_option maxRecDepth 100000 in
theorem qAcc_any (n : Int) (v u : Value) (L : List Sk.Stp) (P : List Sk.Str) (w : World) (hs : SeeT w v L) (hu : SeeK w u P) : Calls Tryd.prog 34 #[.agg #[.int .i64 n, v], u] w fun e w' => e = .returned (.tuple #[.bool (Sq.accV n L P).1, .int .i64 (Sq.accV n L P).2]) ∧ Below w.heap.size w w' := by
  have HS := Lib.hid hs
  have HU := Lib.hid hu
  obtain ⟨uo, ucap, rfl, -⟩ := hu
  obtain ⟨ao, cap, rfl, hcap1, hcap2, hC⟩ := hs
  have HC := Lib.hid hC
  have CC := fun V (h : SeeT V (.slice ao L.length cap) L) => Lib.hid (qChk_any n (.slice ao L.length cap) L V h)
  obtain ⟨P0, L0, z0⟩ := boxP_new w (.int .i64 n) (.slice ao L.length cap) 32
  have HL0 := Lib.hid L0
  have HP0 := Lib.hid P0
  clear hC
  by_cases hc : Sq.chk n L = 0
  · rw [hc] at CC
    have hR := Sq.chk_ok hc
    have hl64 := hR.l64
    have hv : Sq.accV n L P = (Sq.acc (L.drop 0) P, 0) := by unfold Sq.accV; rw [if_pos hc]; rfl
    rw [hv]
    have HT := Lib.hid (fun i (h : i < L.length) P => Sq.acc_at h P)
    have HE := Lib.hid (fun P => Sq.acc_end L P)
    have HRL := Lib.hid (fun k (h : k < L.length) => (Sk.chkP_ok (Sq.stE_ok (hR.stp k h)).1).1)
    clear hc hR hv
    obtain ⟨p0, p1, p2⟩ := P0
    clear L0 z0
    go_enter Tryd.func34, Tryd.ntmps34
    go_wp2_with fail
    refine ((CC _ (HS.out.step HL0.out)).out).mono ?_
    rintro e w1 ⟨rfl, hb1⟩
    have HB1 := Lib.hid (below_nxt HL0.out hb1)
    have HP1 := Lib.hid (HP0.out.step hb1)
    obtain ⟨q0, q1, q2⟩ := HP1.out
    clear hb1 p0 p1 p2
    go_wp2
    clear q0 q1 q2
    go_loopw [1, 18] (fun s1 s18 wr => ∃ i : Nat, i ≤ L.length ∧ s18 = .int .i64 (i : Int) ∧ ∃ uo ucap Q, s1 = .slice uo Q.length ucap ∧ Hid (SeeK w (.slice uo Q.length ucap) Q) ∧ Hid (Sq.acc (L.drop 0) P = Sq.acc (L.drop i) Q) ∧ Hid (Below w.heap.size w wr)) (fun _ s18 _ => L.length - (intOf s18).toNat)
    case atStart => exact ⟨0, Nat.zero_le _, rfl, uo, ucap, P, rfl, HU, Lib.hid rfl, HB1⟩
    case round =>
      obtain ⟨i, hi, rfl, bo, bcap, Q, rfl, HQ, HA, HB⟩ := hrel
      have hiz : (L.length : Int) ≤ 64 := by omega
      by_cases hil : i < L.length
      · obtain ⟨g, off, ak, ck, rfl, hg, c1, c2, hk⟩ := HC.out.at HB.out hil
        have HTi := Lib.hid (HT.out i hil Q)
        have HRi := Lib.hid (HRL.out i hil)
        have L1 := allocB wr (.cells #[.slice ak (L.getD i Sk.t0).1.length ck, .int .i64 (L.getD i Sk.t0).2] 70)
        have HB1 := Lib.hid (below_nxt HB.out L1)
        have HK := Lib.hid (hk.step L1)
        have hgr : g < wr.heap.size := Nat.lt_of_lt_of_le hg HB.out.size
        clear HT hk L1 HB HRL
        generalize L.getD i Sk.t0 = y at *
        obtain ⟨l, k⟩ := y
        simp only at c1 c2 HK HB1 HTi HRi
        have hl6 := HRi.out.le6
        have hlp := HRi.out.pos
        have hqc : Q.length ≤ bcap ∧ bcap ≤ 9223372036854775807 := by obtain ⟨_, _, e, h1, h2, -⟩ := HQ.out; simp at e; obtain ⟨-, rfl⟩ := e; exact ⟨h1, h2⟩
        by_cases hn : l.length ≤ Q.length
        · obtain ⟨g', off', rfl, hg'⟩ : ∃ g' off', bo = some ⟨g', off', none⟩ ∧ g' < w.heap.size := by
            obtain ⟨_, _, e, -, -, h3⟩ := HQ.out
            obtain ⟨g', off', e2, h4, -⟩ := h3 (by omega)
            simp at e
            exact ⟨g', off', by rw [e.1, e2], h4⟩
          have HQT := Lib.hid (HQ.out.take hn)
          have HQD := Lib.hid (HQ.out.dropAt hn)
          have hnz : ¬ (Q.length : Int) < (l.length : Int) := by omega
          have hlb : l.length ≤ bcap := by omega
          have hgz : decide ((Q.length : Int) < (l.length : Int)) = false := decide_eq_false hnz
          have CH := fun V (h1 : SeeK V (.slice (some ⟨g', off', none⟩) l.length bcap) (Q.take l.length)) (h2 : SeeK V (.slice ak l.length ck) l) => Lib.hid (sHal_any _ _ _ _ V h1 h2)
          have hlz : IntKind.i64.wrap (l.length : Int) = (l.length : Int) := IntWalk.i64_in _ (by omega)
          cases hq : Sq.hal (Q.take l.length) l
          · rw [hq] at CH
            have hres : Sq.acc (L.drop 0) P = false := by rw [HA.out, HTi.out, if_neg (by rw [hq]; simp)]
            have HRes := Lib.hid hres
            clear hres HTi HA hq HE HQD
            have hd := (Below.refl (wr.alloc (.cells #[.slice ak l.length ck, .int .i64 k] 70)).heap.size (wr.alloc (.cells #[.slice ak l.length ck, .int .i64 k] 70))).drew
            have HBd := Lib.hid (below_nxt HB1.out hd)
            have QT := Lib.hid (HQT.out.step HBd.out)
            have KT := Lib.hid (HK.out.step hd)
            have P1 := (hd.cell (p := ⟨wr.heap.size, 0, none⟩) (by simp)).trans (show (wr.alloc (.cells #[.slice ak l.length ck, .int .i64 k] 70)).cell? ⟨wr.heap.size, 0, none⟩ = some (.slice ak l.length ck) by simp)
            have hz0 : wr.heap.size < (wr.alloc (.cells #[.slice ak l.length ck, .int .i64 k] 70)).drew.heap.size := by simp
            clear hd HK HB1
            go_wp2_with fail
            go_wp2
            refine wp_region_noPanic ?_
            refine wp_region_held_drew (S := fun W => W.cell? ⟨wr.heap.size, 0, none⟩ = some (.slice ak l.length ck)) (by kernel_rfl) ?_ (fun hHeld => ?_)
            · exact P1
            refine wpAnyH_take (i := 0) (v := ?_) rfl (by kernel_rfl) (by kernel_rfl) (by kernel_rfl) (fun _ _ _ h => h) (Or.inl ⟨by rfl, ?_⟩) (by assumption) ?_
            rotate_left 1
            · (intro w hSw; (try dsimp only at hSw); go_simp; (try with_reducible rfl))
            try simp only [Act.put, List.getElem_toArray, List.getElem_cons_zero, List.setIfInBounds_toArray, List.set_cons_zero, List.set_cons_succ]
            refine wpAnyH_take (i := 1) (v := ?_) rfl (by kernel_rfl) (by kernel_rfl) (by kernel_rfl) (fun _ _ _ h => h) (Or.inl ⟨by rfl, ?_⟩) (by assumption) ?_
            rotate_left 1
            · (intro w hSw; (try dsimp only at hSw); go_simp; (try with_reducible rfl))
            try simp only [Act.put, List.getElem_toArray, List.getElem_cons_succ, List.getElem_cons_zero, List.setIfInBounds_toArray, List.set_cons_zero, List.set_cons_succ]
            refine wpAnyH_take (i := 2) (v := ?_) rfl (by kernel_rfl) (by kernel_rfl) (by kernel_rfl) (fun _ _ _ h => h) (Or.inl ⟨by rfl, ?_⟩) (by assumption) ?_
            rotate_left 1
            · (intro w hSw; (try dsimp only at hSw); go_simp; (try with_reducible rfl))
            try simp only [Act.put, List.getElem_toArray, List.getElem_cons_succ, List.getElem_cons_zero, List.setIfInBounds_toArray, List.set_cons_zero, List.set_cons_succ]
            refine wpAnyH_take (i := 3) (v := .bool false) rfl (by kernel_rfl) (by kernel_rfl) (by kernel_rfl) (fun _ _ _ h => h) (Or.inl ⟨by rfl, ?_⟩) (by assumption) ?_
            skip
            · (intro w hSw; (try dsimp only at hSw); go_simp)
            try simp only [Act.put, List.getElem_toArray, List.getElem_cons_succ, List.getElem_cons_zero, List.setIfInBounds_toArray, List.set_cons_zero, List.set_cons_succ]
            refine wpAnyH_take (i := 4) (v := ?_) rfl (by kernel_rfl) (by kernel_rfl) (by kernel_rfl) (fun _ _ _ h => h) (Or.inl ⟨by rfl, ?_⟩) (by assumption) ?_
            rotate_left 1
            · (intro w hSw; (try dsimp only at hSw); go_simp; (try with_reducible rfl))
            try simp only [Act.put, List.getElem_toArray, List.getElem_cons_succ, List.getElem_cons_zero, List.setIfInBounds_toArray, List.set_cons_zero, List.set_cons_succ]
            refine wpAnyH_take (i := 5) (v := ?_) rfl (by kernel_rfl) (by kernel_rfl) (by kernel_rfl) (fun _ _ _ h => h) (Or.inl ⟨by rfl, ?_⟩) (by assumption) ?_
            rotate_left 1
            · (intro w hSw; (try dsimp only at hSw); go_simp; (try with_reducible rfl))
            try simp only [Act.put, List.getElem_toArray, List.getElem_cons_succ, List.getElem_cons_zero, List.setIfInBounds_toArray, List.set_cons_zero, List.set_cons_succ]
            refine wpAnyH_take (i := 6) (v := ?_) rfl (by kernel_rfl) (by kernel_rfl) (by kernel_rfl) (fun _ _ _ h => h) (Or.inl ⟨by rfl, ?_⟩) (by assumption) ?_
            rotate_left 1
            · (intro w hSw; (try dsimp only at hSw); go_simp; (try with_reducible rfl))
            try simp only [Act.put, List.getElem_toArray, List.getElem_cons_succ, List.getElem_cons_zero, List.setIfInBounds_toArray, List.set_cons_zero, List.set_cons_succ]
            refine wpAnyH_take (i := 7) (v := .slice (some ⟨g', off', none⟩) l.length bcap) rfl (by kernel_rfl) (by kernel_rfl) (by kernel_rfl) (fun _ _ _ h => h) (Or.inl ⟨by rfl, ?_⟩) (by assumption) ?_
            skip
            · (intro w hSw; (try dsimp only at hSw); go_simp)
            try simp only [Act.put, List.getElem_toArray, List.getElem_cons_succ, List.getElem_cons_zero, List.setIfInBounds_toArray, List.set_cons_zero, List.set_cons_succ]
            refine wpAnyH_take (i := 8) (v := ?_) rfl (by kernel_rfl) (by kernel_rfl) (by kernel_rfl) (fun _ _ _ h => h) (Or.inl ⟨by rfl, ?_⟩) (by assumption) ?_
            rotate_left 1
            · (intro w hSw; (try dsimp only at hSw); go_simp; (try with_reducible rfl))
            try simp only [Act.put, List.getElem_toArray, List.getElem_cons_succ, List.getElem_cons_zero, List.setIfInBounds_toArray, List.set_cons_zero, List.set_cons_succ]
            refine wpAnyH_take (i := 9) (v := ?_) rfl (by kernel_rfl) (by kernel_rfl) (by kernel_rfl) (fun _ _ _ h => h) (Or.inl ⟨by rfl, ?_⟩) (by assumption) ?_
            rotate_left 1
            · (intro w hSw; (try dsimp only at hSw); go_simp; (try with_reducible rfl))
            try simp only [Act.put, List.getElem_toArray, List.getElem_cons_succ, List.getElem_cons_zero, List.setIfInBounds_toArray, List.set_cons_zero, List.set_cons_succ]
            refine wpAnyH_ready (rs := [10]) (by kernel_rfl) (by simp) ?_
            refine AllReadyH.cons rfl (fun K hK => ?_) AllReadyH.nil
            go_simp
            (go_at_call 70; (with_reducible refine ((CH _ QT.out KT.out).out).mono ?_); rintro e wn ⟨rfl, hb⟩; have HBq := Lib.hid (below_nxt HBd.out hb); have P1q := (hb.cell (p := ⟨wr.heap.size, 0, none⟩) hz0).trans P1; clear HBd P1 hb QT KT; have HBd := HBq; have P1 := P1q; clear HBq P1q)
            go_simp
            refine hK.out _ _ ?_ (fun hHeld => ?_)
            · exact P1
            clear hK K
            try simp only [Act.put, List.getElem_toArray, List.getElem_cons_succ, List.getElem_cons_zero, List.setIfInBounds_toArray, List.set_cons_zero, List.set_cons_succ]
            refine wpAnyH_take (i := 11) (v := ?_) rfl (by kernel_rfl) (by kernel_rfl) (by kernel_rfl) (fun _ _ _ h => h) (Or.inl ⟨by rfl, ?_⟩) (by assumption) ?_
            rotate_left 1
            · (intro w hSw; (try dsimp only at hSw); go_simp; (try with_reducible rfl))
            try simp only [Act.put, List.getElem_toArray, List.getElem_cons_succ, List.getElem_cons_zero, List.setIfInBounds_toArray, List.set_cons_zero, List.set_cons_succ]
            refine wpAnyH_take (i := 12) (v := ?_) rfl (by kernel_rfl) (by kernel_rfl) (by kernel_rfl) (fun _ _ _ h => h) (Or.inl ⟨by rfl, ?_⟩) (by assumption) ?_
            rotate_left 1
            · (intro w hSw; (try dsimp only at hSw); go_simp; (try with_reducible rfl))
            try simp only [Act.put, List.getElem_toArray, List.getElem_cons_succ, List.getElem_cons_zero, List.setIfInBounds_toArray, List.set_cons_zero, List.set_cons_succ]
            refine wpAnyH_done (by kernel_rfl) ?_ _
            refine NoPanic.normal ?_
            all_goals (go_wp2; exact bodyPost_ret (v := .tuple #[.bool false, .int .i64 0]) (by simp [results, Tryd.f34, go_sem]) rfl ⟨by rw [HRes.out], HBd.out⟩)
          · rw [hq] at CH
            have HA2 := Lib.hid (show Sq.acc (L.drop 0) P = Sq.acc (L.drop (i + 1)) (Q.drop l.length) by rw [HA.out, HTi.out, if_pos ⟨hn, hq⟩])
            clear HTi HA hq
            have hd := (Below.refl (wr.alloc (.cells #[.slice ak l.length ck, .int .i64 k] 70)).heap.size (wr.alloc (.cells #[.slice ak l.length ck, .int .i64 k] 70))).drew
            have HBd := Lib.hid (below_nxt HB1.out hd)
            have QT := Lib.hid (HQT.out.step HBd.out)
            have KT := Lib.hid (HK.out.step hd)
            have P1 := (hd.cell (p := ⟨wr.heap.size, 0, none⟩) (by simp)).trans (show (wr.alloc (.cells #[.slice ak l.length ck, .int .i64 k] 70)).cell? ⟨wr.heap.size, 0, none⟩ = some (.slice ak l.length ck) by simp)
            have hz0 : wr.heap.size < (wr.alloc (.cells #[.slice ak l.length ck, .int .i64 k] 70)).drew.heap.size := by simp
            clear hd HK HB1
            go_wp2_with fail
            go_wp2
            refine wp_region_noPanic ?_
            refine wp_region_held_drew (S := fun W => W.cell? ⟨wr.heap.size, 0, none⟩ = some (.slice ak l.length ck)) (by kernel_rfl) ?_ (fun hHeld => ?_)
            · exact P1
            refine wpAnyH_take (i := 0) (v := ?_) rfl (by kernel_rfl) (by kernel_rfl) (by kernel_rfl) (fun _ _ _ h => h) (Or.inl ⟨by rfl, ?_⟩) (by assumption) ?_
            rotate_left 1
            · (intro w hSw; (try dsimp only at hSw); go_simp; (try with_reducible rfl))
            try simp only [Act.put, List.getElem_toArray, List.getElem_cons_zero, List.setIfInBounds_toArray, List.set_cons_zero, List.set_cons_succ]
            refine wpAnyH_take (i := 1) (v := ?_) rfl (by kernel_rfl) (by kernel_rfl) (by kernel_rfl) (fun _ _ _ h => h) (Or.inl ⟨by rfl, ?_⟩) (by assumption) ?_
            rotate_left 1
            · (intro w hSw; (try dsimp only at hSw); go_simp; (try with_reducible rfl))
            try simp only [Act.put, List.getElem_toArray, List.getElem_cons_succ, List.getElem_cons_zero, List.setIfInBounds_toArray, List.set_cons_zero, List.set_cons_succ]
            refine wpAnyH_take (i := 2) (v := ?_) rfl (by kernel_rfl) (by kernel_rfl) (by kernel_rfl) (fun _ _ _ h => h) (Or.inl ⟨by rfl, ?_⟩) (by assumption) ?_
            rotate_left 1
            · (intro w hSw; (try dsimp only at hSw); go_simp; (try with_reducible rfl))
            try simp only [Act.put, List.getElem_toArray, List.getElem_cons_succ, List.getElem_cons_zero, List.setIfInBounds_toArray, List.set_cons_zero, List.set_cons_succ]
            refine wpAnyH_take (i := 3) (v := .bool false) rfl (by kernel_rfl) (by kernel_rfl) (by kernel_rfl) (fun _ _ _ h => h) (Or.inl ⟨by rfl, ?_⟩) (by assumption) ?_
            skip
            · (intro w hSw; (try dsimp only at hSw); go_simp)
            try simp only [Act.put, List.getElem_toArray, List.getElem_cons_succ, List.getElem_cons_zero, List.setIfInBounds_toArray, List.set_cons_zero, List.set_cons_succ]
            refine wpAnyH_take (i := 4) (v := ?_) rfl (by kernel_rfl) (by kernel_rfl) (by kernel_rfl) (fun _ _ _ h => h) (Or.inl ⟨by rfl, ?_⟩) (by assumption) ?_
            rotate_left 1
            · (intro w hSw; (try dsimp only at hSw); go_simp; (try with_reducible rfl))
            try simp only [Act.put, List.getElem_toArray, List.getElem_cons_succ, List.getElem_cons_zero, List.setIfInBounds_toArray, List.set_cons_zero, List.set_cons_succ]
            refine wpAnyH_take (i := 5) (v := ?_) rfl (by kernel_rfl) (by kernel_rfl) (by kernel_rfl) (fun _ _ _ h => h) (Or.inl ⟨by rfl, ?_⟩) (by assumption) ?_
            rotate_left 1
            · (intro w hSw; (try dsimp only at hSw); go_simp; (try with_reducible rfl))
            try simp only [Act.put, List.getElem_toArray, List.getElem_cons_succ, List.getElem_cons_zero, List.setIfInBounds_toArray, List.set_cons_zero, List.set_cons_succ]
            refine wpAnyH_take (i := 6) (v := ?_) rfl (by kernel_rfl) (by kernel_rfl) (by kernel_rfl) (fun _ _ _ h => h) (Or.inl ⟨by rfl, ?_⟩) (by assumption) ?_
            rotate_left 1
            · (intro w hSw; (try dsimp only at hSw); go_simp; (try with_reducible rfl))
            try simp only [Act.put, List.getElem_toArray, List.getElem_cons_succ, List.getElem_cons_zero, List.setIfInBounds_toArray, List.set_cons_zero, List.set_cons_succ]
            refine wpAnyH_take (i := 7) (v := .slice (some ⟨g', off', none⟩) l.length bcap) rfl (by kernel_rfl) (by kernel_rfl) (by kernel_rfl) (fun _ _ _ h => h) (Or.inl ⟨by rfl, ?_⟩) (by assumption) ?_
            skip
            · (intro w hSw; (try dsimp only at hSw); go_simp)
            try simp only [Act.put, List.getElem_toArray, List.getElem_cons_succ, List.getElem_cons_zero, List.setIfInBounds_toArray, List.set_cons_zero, List.set_cons_succ]
            refine wpAnyH_take (i := 8) (v := ?_) rfl (by kernel_rfl) (by kernel_rfl) (by kernel_rfl) (fun _ _ _ h => h) (Or.inl ⟨by rfl, ?_⟩) (by assumption) ?_
            rotate_left 1
            · (intro w hSw; (try dsimp only at hSw); go_simp; (try with_reducible rfl))
            try simp only [Act.put, List.getElem_toArray, List.getElem_cons_succ, List.getElem_cons_zero, List.setIfInBounds_toArray, List.set_cons_zero, List.set_cons_succ]
            refine wpAnyH_take (i := 9) (v := ?_) rfl (by kernel_rfl) (by kernel_rfl) (by kernel_rfl) (fun _ _ _ h => h) (Or.inl ⟨by rfl, ?_⟩) (by assumption) ?_
            rotate_left 1
            · (intro w hSw; (try dsimp only at hSw); go_simp; (try with_reducible rfl))
            try simp only [Act.put, List.getElem_toArray, List.getElem_cons_succ, List.getElem_cons_zero, List.setIfInBounds_toArray, List.set_cons_zero, List.set_cons_succ]
            refine wpAnyH_ready (rs := [10]) (by kernel_rfl) (by simp) ?_
            refine AllReadyH.cons rfl (fun K hK => ?_) AllReadyH.nil
            go_simp
            (go_at_call 70; (with_reducible refine ((CH _ QT.out KT.out).out).mono ?_); rintro e wn ⟨rfl, hb⟩; have HBq := Lib.hid (below_nxt HBd.out hb); have P1q := (hb.cell (p := ⟨wr.heap.size, 0, none⟩) hz0).trans P1; clear HBd P1 hb QT KT; have HBd := HBq; have P1 := P1q; clear HBq P1q)
            go_simp
            refine hK.out _ _ ?_ (fun hHeld => ?_)
            · exact P1
            clear hK K
            try simp only [Act.put, List.getElem_toArray, List.getElem_cons_succ, List.getElem_cons_zero, List.setIfInBounds_toArray, List.set_cons_zero, List.set_cons_succ]
            refine wpAnyH_take (i := 11) (v := ?_) rfl (by kernel_rfl) (by kernel_rfl) (by kernel_rfl) (fun _ _ _ h => h) (Or.inl ⟨by rfl, ?_⟩) (by assumption) ?_
            rotate_left 1
            · (intro w hSw; (try dsimp only at hSw); go_simp; (try with_reducible rfl))
            try simp only [Act.put, List.getElem_toArray, List.getElem_cons_succ, List.getElem_cons_zero, List.setIfInBounds_toArray, List.set_cons_zero, List.set_cons_succ]
            refine wpAnyH_take (i := 12) (v := ?_) rfl (by kernel_rfl) (by kernel_rfl) (by kernel_rfl) (fun _ _ _ h => h) (Or.inl ⟨by rfl, ?_⟩) (by assumption) ?_
            rotate_left 1
            · (intro w hSw; (try dsimp only at hSw); go_simp; (try with_reducible rfl))
            try simp only [Act.put, List.getElem_toArray, List.getElem_cons_succ, List.getElem_cons_zero, List.setIfInBounds_toArray, List.set_cons_zero, List.set_cons_succ]
            refine wpAnyH_done (by kernel_rfl) ?_ _
            refine NoPanic.normal ?_
            all_goals (go_wp2; exact ⟨⟨i + 1, by omega, by first | rfl | go_num, _, _, Q.drop l.length, by rw [List.length_drop], by rw [List.length_drop]; exact HQD, HA2, HBd⟩, by simp [intOf]; omega⟩)
        · have hres : Sq.acc (L.drop 0) P = false := by rw [HA.out, HTi.out, if_neg (fun h => hn h.1)]
          have HRes := Lib.hid hres
          have hnz : (Q.length : Int) < (l.length : Int) := by omega
          have hgz : decide ((Q.length : Int) < (l.length : Int)) = true := decide_eq_true hnz
          clear hres HTi HA hn
          go_wp2_with fail
          go_quiet (fail)
          go_wp2
          exact bodyPost_ret (v := .tuple #[.bool false, .int .i64 0]) (by simp [results, Tryd.f34, go_sem]) rfl ⟨by rw [HRes.out], HB1.out.trans (below_drewN _ _)⟩
      · obtain rfl : i = L.length := by omega
        have hend : Sq.acc (L.drop 0) P = decide (Q.length = 0) := by rw [HA.out, HE.out]
        have HEnd := Lib.hid hend
        clear hend HA
        have hdz : ((Q.length : Int) == 0) = decide (Q.length = 0) := by
          by_cases h : Q.length = 0
          · rw [h]; rfl
          · rw [decide_eq_false h, beq_eq_false_iff_ne]; omega
        go_wp2
        exact bodyPost_ret (v := .tuple #[.bool (decide (Q.length = 0)), .int .i64 0]) (by simp [results, Tryd.f34, go_sem]) rfl ⟨by rw [HEnd.out], HB.out⟩
  · have hv : Sq.accV n L P = (false, Sq.chk n L) := by unfold Sq.accV; rw [if_neg hc]
    rw [hv]
    have hct : (Sq.chk n L != 0) = true := by simpa using hc
    clear hv hc
    generalize Sq.chk n L = c at *
    obtain ⟨p0, p1, p2⟩ := P0
    clear L0 z0
    go_enter Tryd.func34, Tryd.ntmps34
    go_wp2_with fail
    refine ((CC _ (HS.out.step HL0.out)).out).mono ?_
    rintro e w1 ⟨rfl, hb1⟩
    have HB1 := Lib.hid (below_nxt HL0.out hb1)
    clear hb1 p0 p1 p2
    go_wp2
    exact bodyPost_ret (v := .tuple #[.bool false, .int .i64 c]) (by simp [results, Tryd.f34, go_sem]) rfl ⟨rfl, HB1.out⟩
end Go.Proofs.YtjpbccpleflkhaaDoor
