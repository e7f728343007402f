/- Words and neighbours that are exchanged: plain facts. slices.Clone at strokes; rows of strokes that are written. -/
import Derived.Test.YtjpbccpleflkhaaDoorG19
import Derived.Test.YtjpbccpleflkhaaDoorG21
import Derived.Test.YtjpbccpleflkhaaDoorG15
namespace Sq
open Sk
theorem acc_len : ∀ {L : List Stp} {P : List Str}, acc L P = true → P.length = (L.flatMap fun x => x.1).length
  | [], P, h => by simpa [acc] using h
  | x :: L, P, h => by
    unfold acc at h
    by_cases g : x.1.length ≤ P.length ∧ hal (P.take x.1.length) x.1 = true
    · rw [if_pos g] at h
      have := acc_len h
      rw [List.length_drop] at this
      rw [List.flatMap_cons, List.length_append]; omega
    · rw [if_neg g] at h; cases h
theorem hal_self (l : List Str) : hal l l = true := by
  unfold hal; rw [List.all_eq_true]; intro x hx; exact decide_eq_true hx
theorem acc_self : ∀ L : List Stp, acc L (L.flatMap fun x => x.1) = true
  | [] => rfl
  | x :: L => by
    unfold acc
    rw [List.flatMap_cons, if_pos ⟨by rw [List.length_append]; omega, by rw [List.take_left]; exact hal_self _⟩, List.drop_left]
    exact acc_self L
theorem acc_short {L : List Stp} {P : List Str} (h : P.length ≠ (L.flatMap fun x => x.1).length) : acc L P = false := by
  cases g : acc L P with
  | false => rfl
  | true => exact absurd (acc_len g) h
/-- Neighbours exchanged. -/
def swp : Nat → List Str → List Str
  | 0, a :: b :: l => b :: a :: l
  | k + 1, a :: l => a :: swp k l
  | _, l => l
theorem swp_len : ∀ (k : Nat) (l : List Str), (swp k l).length = l.length
  | 0, [] => rfl
  | 0, [_] => rfl
  | 0, _ :: _ :: _ => rfl
  | _ + 1, [] => rfl
  | k + 1, a :: l => by show (swp k l).length + 1 = _; rw [swp_len k l]; rfl
theorem swp_mem : ∀ (k : Nat) (l : List Str) (x : Str), x ∈ swp k l ↔ x ∈ l
  | 0, [], _ => Iff.rfl
  | 0, [_], _ => Iff.rfl
  | 0, a :: b :: l, x => by simp only [swp, List.mem_cons]; constructor <;> (rintro (h | h | h) <;> simp [h])
  | _ + 1, [], _ => Iff.rfl
  | k + 1, a :: l, x => by show x ∈ a :: swp k l ↔ _; rw [List.mem_cons, List.mem_cons, swp_mem k l x]
theorem swp_left : ∀ {k : Nat} {l m : List Str}, k + 1 < l.length → swp k (l ++ m) = swp k l ++ m
  | 0, a :: b :: l, m, _ => rfl
  | 0, [], _, h => by simp at h
  | 0, [_], _, h => by simp at h
  | k + 1, [], _, h => by simp at h
  | k + 1, a :: l, m, h => by show a :: swp k (l ++ m) = a :: (swp k l ++ m); rw [swp_left (by simpa using h)]
theorem swp_right : ∀ {k : Nat} {l m : List Str}, l.length ≤ k → swp k (l ++ m) = l ++ swp (k - l.length) m
  | k, [], m, _ => rfl
  | 0, a :: l, m, h => by simp at h
  | k + 1, a :: l, m, h => by
    have := swp_right (k := k) (l := l) (m := m) (by simpa using h)
    show a :: swp k (l ++ m) = a :: (l ++ swp (k + 1 - (l.length + 1)) m)
    rw [this, show k + 1 - (l.length + 1) = k - l.length by omega]
theorem swp_mid : ∀ {k : Nat} {l : List Str} {b : Str} {m : List Str}, k + 1 = l.length → swp k (l ++ b :: m) = (l.take k ++ [b]) ++ l.getD k d0 :: m
  | 0, [a], b, m, _ => rfl
  | 0, [], _, _, h => by simp at h
  | 0, _ :: _ :: _, _, _, h => by simp at h
  | k + 1, [], _, _, h => by simp at h
  | k + 1, a :: l, b, m, h => by
    have := swp_mid (k := k) (l := l) (b := b) (m := m) (by simpa using h)
    show a :: swp k (l ++ b :: m) = a :: ((l.take k ++ [b]) ++ l.getD k d0 :: m)
    rw [this]
/-- Steps whose first strokes are not those of the step before. -/
def Gd : List Stp → Prop
  | [] => True
  | [x] => RtL x.1
  | x :: y :: L => RtL x.1 ∧ y.1.getD 0 d0 ∉ x.1 ∧ Gd (y :: L)
theorem Gd.head {x : Stp} {L : List Stp} (h : Gd (x :: L)) : RtL x.1 := by
  cases L with
  | nil => exact h
  | cons y L => exact h.1
theorem Gd.tail {x : Stp} {L : List Stp} (h : Gd (x :: L)) : Gd L := by
  cases L with
  | nil => trivial
  | cons y L => exact h.2.2
/-- Does a step end behind so many strokes? -/
def brk : List Stp → Nat → Bool
  | [], _ => false
  | x :: L, c => decide (x.1.length = c) || (decide (x.1.length ≤ c) && brk L (c - x.1.length))
theorem brk_zero : ∀ {L : List Stp}, Gd L → brk L 0 = false
  | [], _ => rfl
  | x :: L, h => by
    have := h.head.pos
    unfold brk
    rw [decide_eq_false (by omega), decide_eq_false (by omega)]; rfl
theorem nodup_take {l : List Str} (h : l.Nodup) {k : Nat} (hk : k < l.length) : l.getD k d0 ∉ l.take k := by
  intro hm
  obtain ⟨j, hj, e⟩ := List.mem_iff_getElem.1 hm
  rw [List.length_take] at hj
  rw [List.getElem_take, List.getD_eq_getElem?_getD, List.getElem?_eq_getElem hk] at e
  have hp := List.pairwise_iff_getElem.1 h j k (by omega) hk (by omega)
  exact hp e
theorem acc_swp : ∀ {L : List Stp}, Gd L → ∀ {k : Nat}, k + 1 < (L.flatMap fun x => x.1).length → acc L (swp k (L.flatMap fun x => x.1)) = !brk L (k + 1)
  | [], _, k, hk => by simp at hk
  | x :: L, h, k, hk => by
    rw [List.flatMap_cons, List.length_append] at hk
    rw [List.flatMap_cons]
    unfold acc brk
    have hn := rt_nodup h.head
    by_cases h1 : k + 1 < x.1.length
    · have hz : (swp k x.1).length = x.1.length := swp_len k x.1
      have hh : hal ((swp k x.1 ++ L.flatMap fun x => x.1).take x.1.length) x.1 = true := by
        rw [← hz, List.take_left]
        unfold hal
        rw [List.all_eq_true]
        intro y hy
        exact decide_eq_true ((swp_mem k x.1 y).2 hy)
      rw [swp_left h1, if_pos ⟨by rw [List.length_append]; omega, hh⟩, ← hz, List.drop_left, acc_self, hz, decide_eq_false (by omega), decide_eq_false (by omega)]
      rfl
    · by_cases h2 : k + 1 = x.1.length
      · cases L with
        | nil => simp at hk; omega
        | cons y L =>
          obtain ⟨hx, hy, hg⟩ := h
          have hyp := hg.head.pos
          obtain ⟨b, m, hbm⟩ : ∃ b m, y.1 = b :: m := by
            cases hc : y.1 with
            | nil => rw [hc] at hyp; simp at hyp
            | cons b m => exact ⟨b, m, rfl⟩
          have hb : b ∉ x.1 := by rw [hbm] at hy; exact hy
          have hlt : k < x.1.length := by omega
          rw [List.flatMap_cons, hbm, List.cons_append, swp_mid h2, if_neg, h2, decide_eq_true rfl]
          · rfl
          · rintro ⟨-, hh⟩
            have hl : (x.1.take k ++ [b]).length = x.1.length := by rw [List.length_append, List.length_take]; simp; omega
            rw [← hl, List.take_left] at hh
            unfold hal at hh
            rw [List.all_eq_true] at hh
            have hm : x.1.getD k d0 ∈ x.1 := by
              rw [List.getD_eq_getElem?_getD, List.getElem?_eq_getElem hlt]; exact List.getElem_mem hlt
            have := of_decide_eq_true (hh _ hm)
            rcases List.mem_append.1 this with h3 | h3
            · exact nodup_take hn hlt h3
            · rw [List.mem_singleton] at h3
              rw [h3] at hm
              exact hb hm
      · have h3 : x.1.length ≤ k := by omega
        rw [swp_right h3, if_pos ⟨by rw [List.length_append]; omega, by rw [List.take_left]; exact hal_self _⟩, List.drop_left, acc_swp h.tail (by omega), decide_eq_false (by omega), decide_eq_true (by omega), show k + 1 - x.1.length = k - x.1.length + 1 by omega]
        rfl
theorem mem_first {l : List Str} (h : 0 < l.length) : l.getD 0 d0 ∈ l := by
  rw [List.getD_eq_getElem?_getD, List.getElem?_eq_getElem h]; exact List.getElem_mem h
theorem mem_pos {l : List Str} (h : RtL l) {y : Str} (hm : y ∈ l) : 0 ≤ y.1 := by
  obtain ⟨i, hi, rfl⟩ := List.mem_iff_getElem.1 hm
  have := (h.act i hi).1
  rwa [List.getD_eq_getElem?_getD, List.getElem?_eq_getElem hi] at this
theorem way_mem_of {l : List Str} (h : RtL l) {a : Nat} {o : Bool} (hm : ((a : Int), o) ∈ l) : wayV l (a : Int) = if o then 1 else -1 := by
  obtain ⟨i, hi, e⟩ := List.mem_iff_getElem.1 hm
  have hg : l.getD i d0 = ((a : Int), o) := by rw [List.getD_eq_getElem?_getD, List.getElem?_eq_getElem hi]; exact e
  rw [way_at (i := i) (fun j hj => by have := h.ords hj hi; rw [hg] at this; simp only at this; omega) hi (by rw [hg]), hg]
theorem rt_apart {n : Nat} {L : List Stp} (h : Rt (n : Int) L) {i : Nat} (hi : i + 1 < L.length) : (L.getD (i + 1) t0).1.getD 0 d0 ∉ (L.getD i t0).1 := by
  intro hm
  have hR0 := (chkP_ok (stE_ok (h.stp i (by omega))).1).1
  have hR1 := (chkP_ok (stE_ok (h.stp (i + 1) hi)).1).1
  have hlow := (stE_ok (h.stp i (by omega))).2.1
  have h1 := mem_first hR1.pos
  obtain ⟨⟨a, o⟩, hy⟩ : ∃ y, (L.getD (i + 1) t0).1.getD 0 d0 = y := ⟨_, rfl⟩
  rw [hy] at hm h1
  unfold low at hlow
  have hlt := of_decide_eq_true (List.all_eq_true.1 hlow _ hm)
  obtain ⟨a', rfl⟩ := Int.eq_ofNat_of_zero_le (mem_pos hR0 hm)
  rw [Int.toNat_natCast] at hlt
  have ha : a' < n := by omega
  have w0 := way_mem_of hR0 hm
  have w1 := way_mem_of hR1 h1
  have hb := bh_get h ha (k := i) (by omega)
  obtain ⟨b1, b2, -⟩ := bh_way h (a := a') (k := i + 1) hi
  rw [w0, if_neg (by cases o <;> simp)] at hb
  rw [w1] at b1 b2
  cases o
  · have := b2 rfl
    rw [this] at hb
    cases hb
  · have := b1 rfl
    rw [this] at hb
    cases hb
theorem gd_of : ∀ {L : List Stp}, (∀ x ∈ L, RtL x.1) → (∀ i, i + 1 < L.length → (L.getD (i + 1) t0).1.getD 0 d0 ∉ (L.getD i t0).1) → Gd L
  | [], _, _ => trivial
  | [x], h, _ => h x (by simp)
  | x :: y :: L, h, g => ⟨h x (by simp), g 0 (by simp), gd_of (fun z hz => h z (List.mem_cons_of_mem _ hz)) (fun i hi => g (i + 1) (by simpa using hi))⟩
theorem rt_gd {n : Nat} {L : List Stp} (h : Rt (n : Int) L) : Gd L := gd_of (fun x hx => by
    obtain ⟨i, hi, e⟩ := List.mem_iff_getElem.1 hx
    rw [← e, ← getD_at hi]
    exact (chkP_ok (stE_ok (h.stp i hi)).1).1) (fun i hi => rt_apart h hi)
theorem wdI_all (L : List Stp) : wdI L L.length = L.flatMap fun x => x.1 := by unfold wdI; rw [List.take_length]
theorem wdI_cons (x : Stp) (L : List Stp) (i : Nat) : (wdI (x :: L) (i + 1)).length = x.1.length + (wdI L i).length := by
  unfold wdI; rw [List.take_succ_cons, List.flatMap_cons, List.length_append]
/-- Does one of the first i steps end behind so many strokes? -/
def enI (L : List Stp) (c i : Nat) : Bool := (List.range i).any fun j => decide ((wdI L (j + 1)).length = c)
theorem enI_succ (L : List Stp) (c i : Nat) : enI L c (i + 1) = (enI L c i || decide ((wdI L (i + 1)).length = c)) := by
  unfold enI; rw [List.range_succ, List.any_append]; simp
theorem enI_brk : ∀ {L : List Stp}, Gd L → ∀ {c : Nat}, enI L c L.length = brk L c
  | [], _, c => rfl
  | x :: L, h, c => by
    have ih := enI_brk h.tail (c := c - x.1.length)
    have e : enI (x :: L) c (L.length + 1) = (decide ((wdI (x :: L) 1).length = c) || (List.range L.length).any fun j => decide ((wdI (x :: L) (j + 2)).length = c)) := by
      unfold enI; rw [List.range_succ_eq_map, List.any_cons, List.any_map]; rfl
    show enI (x :: L) c (L.length + 1) = _
    rw [e]
    unfold brk
    rw [wdI_cons, wdI_zero]
    by_cases h1 : x.1.length ≤ c
    · rw [decide_eq_true h1, Bool.true_and, ← ih]
      unfold enI
      congr 1
      have : (fun j => decide ((wdI (x :: L) (j + 2)).length = c)) = fun j => decide ((wdI L (j + 1)).length = c - x.1.length) := funext fun j => by
        rw [wdI_cons]
        exact decide_eq_decide.2 (by omega)
      rw [this]
    · rw [decide_eq_false h1, Bool.false_and]
      have : ((List.range L.length).any fun j => decide ((wdI (x :: L) (j + 2)).length = c)) = false := by
        rw [List.any_eq_false]
        intro j _
        rw [wdI_cons]
        simp; omega
      rw [this]
      simp
end Sq

namespace Go.Proofs.YtjpbccpleflkhaaDoor
open Go.RowKit Go.Shelf
attribute [local go_sem] Oper.semAt_some
theorem eql_nilK (a : Option Addr) (n c : Nat) (w : World) : (binOp .eql 34 (.slice a n c) (.slice none 0 0)).run Tryd.prog w = .ok (.bool a.isNone) w := by
  simp only [binOp]
  simp [run_equal_slice_nil w _ _ a n c Tryd.underlying34]
set_option maxHeartbeats 4000000 in
set_option maxRecDepth 100000 in
theorem cloK_any (l : List Sk.Str) (v : Value) (w : World) (hl : l.length ≤ 4096) (hl0 : 0 < l.length) (hs : SeeK w v l) :
    Calls Tryd.prog 40 #[v] w fun e w' => ∃ u, e = .returned u ∧ RowK w.heap.size 47 w' u l ∧ Below w.heap.size w w' := by
  obtain ⟨i0, hi0, hz0, hz1, hz2⟩ := info_str2
  have HS := Lib.hid hs
  obtain ⟨ao, cap, rfl, hcap1, hcap2, hC⟩ := hs
  obtain ⟨g, off, rfl, hg, -⟩ := hC hl0
  have hq := eql_nilK (some ⟨g, off, none⟩) l.length cap
  simp only [Option.isNone_some] at hq
  have HB := Lib.hid (allocB w (.cells #[] 47))
  have hz := HB.out.size
  have HSA := Lib.hid (HS.out.step HB.out)
  have HR := Lib.hid (show RowK w.heap.size 47 (w.alloc (.cells #[] 47)) (.slice (some ⟨w.heap.size, 0, none⟩) 0 0) [] from ⟨rfl, .inr ⟨w.heap.size, 0, #[], rfl, Nat.le_refl _, heap_alloc_new w _, Nat.le_refl _, by decide, rfl, rfl⟩⟩)
  clear hC
  go_enter Tryd.func40, Tryd.ntmps40
  go_wp2_with (at_builtin; refine wpList_append_strs rfl _ _ 34 rfl 47 i0 Tryd.underlying34 hi0 hz0 hz1 hz2 _ _ [] l rfl rfl w.heap.size HR.out HSA.out hl0 (by simp; omega) hz ?_; intro a5 p5 w5 hr5 hg5; have HR5 := Lib.hid hr5; have HB5 := Lib.hid (HB.out.grown hg5 HB.out.size (fun r e => (World.ownsRow.lt HR.out r e).1)); clear hr5 hg5)
  go_ret
  exact ⟨_, rfl, by have h := HR5.out; rw [List.nil_append] at h; exact h, HB5.out⟩
/-- 'append' of strokes to a slice of the call's own, one operation. -/
theorem wp_append_strs {P : Program} {w : World} {o : Oper} {a : Act} {K : Act → World → Prop} {Q : Exit → Act → World → Prop} (s x : Operand) (t : TypeId)
    (ho : o.op = .call { callee := .builtin .append, args := #[s, x], argTypes := #[t, t] })
    (e : TypeId) (i : TypeInfo) (ht : P.underlying t = some (.slice e)) (hi : P.info? e = some i) (hz : i.zero = some (.agg #[.int .i64 0, .bool false])) (hsize : i.size = 2) (hby : i.bytes = 16)
    (v u : Value) (l m : List Sk.Str) (hs : a.eval s = v) (hx : a.eval x = u) (B : Nat) (hown : RowK B e w v l) (hu : SeeK w u m) (hm : 0 < m.length)
    (hlen : l.length + m.length ≤ 1048576) (hB : B ≤ w.heap.size)
    (h : ∀ ao' cap' w', RowK B e w' (.slice ao' (l ++ m).length cap') (l ++ m) → w.grownBy w' v.ownBlock → K (a.put o.dst (.slice ao' (l ++ m).length cap')) w') : o.wp P a w K Q := by
  obtain ⟨ao, cap, rfl, hc1, hc2, hC⟩ := hu
  obtain ⟨g, off, rfl, hg, hcells⟩ := hC hm
  refine wp_append_own w s x t ho B e i (.agg #[.int .i64 0, .bool false]) 2 16 ht hi hz hsize hby rfl (by omega) v l.length _ hs hown ⟨g, off, none⟩ m.length cap (m.flatMap Sk.encS) hx (by rw [Sk.flat_len]) ?_ ?_ (by unfold maxLen; omega) (by omega) hB ?_
  · intro j u hj
    have hj2 : j < m.length * 2 := by have := (List.getElem?_eq_some_iff.1 hj).1; rwa [Sk.flat_len] at this
    have hadd : (⟨g, off, none⟩ : Addr).add j = ⟨g, off + j, none⟩ := by unfold Addr.add; split <;> simp_all
    rw [hadd]
    obtain ⟨c0, c1⟩ := hcells (j / 2) (by omega)
    rcases Nat.mod_two_eq_zero_or_one j with e | e
    · have := Sk.flat_get m (j / 2) 0 (by omega) (by omega)
      rw [show j / 2 * 2 + 0 = j by omega, hj] at this
      have hu : u = .int .i64 (m.getD (j / 2) Sk.d0).1 := by simpa [Sk.encS] using this
      rw [hu, show off + j = off + j / 2 * 2 by omega]; exact c0
    · have := Sk.flat_get m (j / 2) 1 (by omega) (by omega)
      rw [show j / 2 * 2 + 1 = j by omega, hj] at this
      have hu : u = .bool (m.getD (j / 2) Sk.d0).2 := by simpa [Sk.encS] using this
      rw [hu, show off + j = off + j / 2 * 2 + 1 by omega]; exact c1
  · intro u hu
    obtain ⟨y, -, hy⟩ := List.mem_flatMap.1 hu
    simp only [Sk.encS, List.mem_cons, List.not_mem_nil, or_false] at hy
    rcases hy with rfl | rfl <;> rfl
  · intro v' w' r1 r2 r3
    have hr : RowK B e w' v' (l ++ m) := by
      unfold RowK
      rw [List.length_append, List.flatMap_append]
      exact r1
    obtain ⟨ao', cap', rfl⟩ := hr.form
    exact h _ _ _ hr r2
theorem seeK_new1 (w : World) (y : Sk.Str) (T : TypeId) : SeeK (w.alloc (.cells #[.int .i64 y.1, .bool y.2] T)) (.slice (some ⟨w.heap.size, 0, none⟩) 1 1) [y] :=
  ⟨_, 1, rfl, by simp, by omega, fun _ => ⟨w.heap.size, 0, rfl, by simp, fun i hi => by
    obtain rfl : i = 0 := by simp at hi; omega
    exact ⟨by simp, by simp⟩⟩⟩
theorem RowK.weak {B B' : Nat} {e : TypeId} {w : World} {v : Value} {l : List Sk.Str} (h : RowK B e w v l) (hB : B' ≤ B) : RowK B' e w v l := by
  rcases h with ⟨h0, h | ⟨g, cap, cur, a, b, c⟩⟩
  · exact ⟨h0, .inl h⟩
  · exact ⟨h0, .inr ⟨g, cap, cur, a, Nat.le_trans hB b, c⟩⟩
theorem flat_set : ∀ (l : List Sk.Str) (k : Nat) (y : Sk.Str), k < l.length → ((l.flatMap Sk.encS).set (k * 2) (.int .i64 y.1)).set (k * 2 + 1) (.bool y.2) = (l.set k y).flatMap Sk.encS
  | [], _, _, h => by simp at h
  | x :: l, 0, y, _ => by simp [Sk.encS]
  | x :: l, k + 1, y, h => by
    have ih := flat_set l k y (by simpa using h)
    rw [show (k + 1) * 2 = k * 2 + 1 + 1 by omega]
    simp only [List.flatMap_cons, Sk.encS, List.cons_append, List.nil_append, List.set_cons_succ]
    rw [ih]
theorem RowK.putAt {B g cap : Nat} {e : TypeId} {w : World} {l : List Sk.Str} (h : RowK B e w (.slice (some ⟨g, 0, none⟩) l.length cap) l) {k : Nat} (hk : k < l.length) (y : Sk.Str) : RowK B e ((w.setCell ⟨g, k * 2, none⟩ (.int .i64 y.1)).setCell ⟨g, k * 2 + 1, none⟩ (.bool y.2)) (.slice (some ⟨g, 0, none⟩) l.length cap) (l.set k y) := by
  have h1 := (World.ownsRow.stored h (k * 2) (.int .i64 y.1)).1
  have h2 := (World.ownsRow.stored h1 (k * 2 + 1) (.bool y.2)).1
  unfold RowK
  rw [List.length_set, ← flat_set l k y hk]
  exact h2
theorem RowK.getAt {B g cap : Nat} {e : TypeId} {w : World} {l : List Sk.Str} (h : RowK B e w (.slice (some ⟨g, 0, none⟩) l.length cap) l) {k : Nat} (hk : k < l.length) : w.cell? ⟨g, k * 2, none⟩ = some (.int .i64 (l.getD k Sk.d0).1) ∧ w.cell? ⟨g, k * 2 + 1, none⟩ = some (.bool (l.getD k Sk.d0).2) ∧ w.frozen? ⟨g, k * 2, none⟩ = false ∧ w.frozen? ⟨g, k * 2 + 1, none⟩ = false := by
  have hl := Sk.flat_len l
  refine ⟨?_, ?_, World.ownsRow.frozenAt h _, World.ownsRow.frozenAt h _⟩
  · rw [World.ownsRow.cellAt h (k * 2) (by omega)]
    exact (Sk.flat_get l k 0 hk (by omega)).trans rfl
  · rw [World.ownsRow.cellAt h (k * 2 + 1) (by omega)]
    exact (Sk.flat_get l k 1 hk (by omega)).trans rfl
end Go.Proofs.YtjpbccpleflkhaaDoor
