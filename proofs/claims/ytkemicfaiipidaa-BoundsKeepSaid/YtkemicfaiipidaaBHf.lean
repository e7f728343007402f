/- Holds of package bounds. -/
import Derived.Test.YtkemicfaiipidaaBHb
import Derived.Test.YtkemicfaiipidaaBHc
import Derived.Test.YtkemicfaiipidaaBHd
import Derived.Test.YtkemicfaiipidaaBHe
namespace Go.Proofs.Ytkemicfaiipidaa
open Go.RowKit
theorem bHol1_any (N i j g ab mb hb : Nat) (c : Bool) (m : Bn.Mx) (v : Value) (R : List (List Int)) (ts : List Int) (W : World) (hN : N ≤ 12) (hi : i ≤ N) (hj : j ≤ N) (hts : ts.length = N) (hnum : ts.all Bn.num = true) (hM : MtxI W g N m) (hmx : m i j = Bn.mx R i j) (hm : BoxV W mb (.pointer (some ⟨g, 0, none⟩))) (hA : BoxV W ab v) (hL : BoxW W hb (.bool c)) (hS : SeeI W v (0 :: ts)) :
    Calls Try.prog 53 #[.int .i64 i, .int .i64 j, .pointer (some ⟨hb, 0, none⟩), .pointer (some ⟨mb, 0, none⟩), .pointer (some ⟨ab, 0, none⟩)] W fun e w' => e = .returned (.tuple #[]) ∧ W.grownBy w' (some hb) ∧ BoxW w' hb (.bool (c && Bn.hl1 R ts i j)) := by
  have h1 : i < (0 :: ts).length := by simp; omega
  have h2 : j < (0 :: ts).length := by simp; omega
  have b1 := Bn.tm_bd hnum i
  have b2 := Bn.tm_bd hnum j
  cases c
  · exact bHol1_a1 i j g ab mb hb N m v (0 :: ts) W (by omega) (by omega) hM hm hA hL hS h1 h2
  · by_cases hy : m i j = -1099511627776
    · rw [show (true && Bn.hl1 R ts i j) = true by unfold Bn.hl1; rw [← hmx]; simp [hy]]
      exact bHol1_a2 i j g ab mb hb N m v (0 :: ts) W (by omega) (by omega) hM hm hA hL hS h1 h2 hy
    · by_cases hxy : Bn.tm ts j - Bn.tm ts i ≤ m i j
      · rw [show (true && Bn.hl1 R ts i j) = true by unfold Bn.hl1; rw [← hmx]; simp [hxy]]
        exact bHol1_a3 i j g ab mb hb N m v (0 :: ts) W (by omega) (by omega) hM hm hA hL hS h1 h2 hy b1.1 b1.2 b2.1 b2.2 hxy
      · rw [show (true && Bn.hl1 R ts i j) = false by unfold Bn.hl1; rw [← hmx]; simp [hxy, hy]]
        exact bHol1_a4 i j g ab mb hb N m v (0 :: ts) W (by omega) (by omega) hM hm hA hL hS h1 h2 hy b1.1 b1.2 b2.1 b2.2 hxy
/-- The loop over all pairs. -/
theorem hold_each (N g ab mb hb : Nat) (u : Bn.Mx) (v : Value) (R : List (List Int)) (ts : List Int) (w X : World) (hN : N ≤ 12) (hts : ts.length = N) (hnum : ts.all Bn.num = true) (hM : MtxI X g N u) (hu : ∀ i j, i ≤ N → j ≤ N → u i j = Bn.mx R i j) (hm : BoxV X mb (.pointer (some ⟨g, 0, none⟩))) (hA : BoxV X ab v) (hL : BoxW X hb (.bool true)) (hBW : Below w.heap.size w X) (hl : w.heap.size ≤ hb) (h1 : ab ≠ hb) (h2 : mb ≠ hb) (h3 : g ≠ hb)
    (hbl : ∀ Y, X.grownBy Y (some hb) → SeeI Y v (0 :: ts)) :
    Calls Try.prog 45 #[.pointer (some ⟨g, 0, none⟩), .func (.func 53) #[] #[.pointer (some ⟨hb, 0, none⟩), .pointer (some ⟨mb, 0, none⟩), .pointer (some ⟨ab, 0, none⟩)]] X fun e w' => e = .returned (.tuple #[]) ∧ BoxW w' hb (.bool (Bn.hldB N R ts)) ∧ Below w.heap.size w w' := by
  refine (each_holds (.pointer (some ⟨hb, 0, none⟩)) (.pointer (some ⟨mb, 0, none⟩)) (.pointer (some ⟨ab, 0, none⟩)) g N (fun i j W => MtxI W g N u ∧ BoxV W ab v ∧ BoxV W mb (.pointer (some ⟨g, 0, none⟩)) ∧ (∃ c, BoxW W hb (.bool c) ∧ (c = true ↔ ∀ a b, a ≤ N → b ≤ N → (a < i ∨ (a = i ∧ b < j)) → Bn.hl1 R ts a b = true)) ∧ X.grownBy W (some hb)) X hN
    ⟨hM, hA, hm, ⟨true, hL, by simp⟩, grown_refl _ _⟩ (fun i j X h => h.1.2.1) ?_ ?_).mono ?_
  · rintro i j Y hi hj ⟨p1, p2, p3, ⟨c, p4, p4'⟩, p5⟩
    refine (bHol1_any N i j g ab mb hb c u v R ts Y hN hi hj hts hnum p1 (hu i j hi hj) p3 p2 p4 (hbl Y p5)).mono ?_
    rintro e w1 ⟨rfl, hg1, hb1⟩
    refine ⟨rfl, p1.grown hg1 (by omega), p2.grown hg1 h1, p3.grown hg1 h2, ⟨_, hb1, ?_⟩, grown_trans p5 hg1⟩
    rw [Bool.and_eq_true, p4']
    constructor
    · rintro ⟨q1, q2⟩ a b ha hb h
      by_cases e : a = i ∧ b = j
      · obtain ⟨rfl, rfl⟩ := e; exact q2
      · exact q1 a b ha hb (by omega)
    · intro q
      exact ⟨fun a b ha hb h => q a b ha hb (by omega), q i j hi hj (by omega)⟩
  · rintro i Y hi ⟨p1, p2, p3, ⟨c, p4, p4'⟩, p5⟩
    exact ⟨p1, p2, p3, ⟨c, p4, p4'.trans ⟨fun q a b ha hb h => q a b ha hb (by omega), fun q a b ha hb h => q a b ha hb (by omega)⟩⟩, p5⟩
  · rintro e w1 ⟨rfl, p1, p2, p3, ⟨c, p4, p4'⟩, p5⟩
    refine ⟨rfl, ?_, hBW.trans (below_grown p5 hBW.size hl)⟩
    have : c = Bn.hldB N R ts := by
      apply Bn.bool_eq
      rw [p4', Bn.hldB_iff]
      exact ⟨fun q a b ha hb => q a b ha hb (by omega), fun q a b ha hb _ => q a b ha hb⟩
    rw [← this]; exact p4
/-- What Holds leaves. -/
def HolP (q : Bool × Int) (w : World) (e : Ending) (w' : World) : Prop := e = .returned (.tuple #[.bool q.1, .int .i64 q.2]) ∧ Below w.heap.size w w'
theorem RowI.other {B : Nat} {e : TypeId} {w0 w w' : World} {v : Value} {l : List Int} {hb : Nat} (h0 : RowI B e w0 v l) (h : RowI B e w v l) (hg : w.grownBy w' (some hb)) (hB : w0.heap.size ≤ hb) : SeeI w' v l :=
  (RowI.kept h hg (by
    cases hv : v.ownBlock with
    | none => exact .inl rfl
    | some q => exact .inr fun e => by have := (World.ownsRow.lt h0 q hv).2; simp at e; omega)).sees.opened
/-- 'append' of integers that came in to a slice of the call's own. -/
theorem wpList_append_see {P : Program} {w : World} {ops : Array Oper} {rest : List Oper} {o : Oper} {a : Act} {Q : Exit → Act → World → Prop} (hgd : o.guard = none) (s x : Operand) (t : TypeId)
    (ho : o.op = .call { callee := .builtin .append, args := #[s, x], argTypes := #[t, t] })
    (e : TypeId) (i : TypeInfo) (ht : P.underlying t = some (.slice e)) (hi : P.info? e = some i) (hz : i.zero = some (.int .i64 0)) (hsize : i.size = 1) (hby : i.bytes = 8)
    (v y : Value) (l m : List Int) (k : Nat) (hk : l.length + m.length = k) (hs : a.eval s = v) (hx : a.eval x = y) (B : Nat) (hown : RowI B e w v l) (hy : SeeI w y m) (hnil : ∀ n c, y = .slice none n c → c = 0) (hlen : l.length + m.length ≤ 1048576) (hB : B ≤ w.heap.size)
    (h : ∀ ao' cap' w', RowI B e w' (.slice ao' k cap') (l ++ m) → w.grownBy w' v.ownBlock → wpList P ops Q rest (a.put o.dst (.slice ao' k cap')) w') : wpList P ops Q (o :: rest) a w := by
  subst hk
  obtain ⟨ao, cap, rfl, h1, h2, h3⟩ := hy
  rcases ao with _ | ad
  · obtain rfl := hnil _ _ rfl
    obtain rfl : m = [] := List.eq_nil_of_length_eq_zero (by omega)
    refine wpList_append_own_none hgd s x t ho B e i 1 ht hi v l.length _ hs hown hx ?_
    obtain ⟨ao', cap', rfl⟩ := hown.form
    have := h ao' cap' w
    rw [List.append_nil] at this
    exact this hown ⟨rfl, rfl, rfl, Nat.le_refl _, fun _ _ _ => rfl⟩
  · refine wpList_append_own_at w hgd s x t ho B e i (.int .i64 0) 1 8 ht hi hz hsize hby rfl (by omega) v l.length _ hs hown ad m.length cap (m.map fun n => .int .i64 n) hx (by simp) ?_ ?_ (by unfold maxLen; omega) (by omega) hB ?_
    · intro j u hj
      rw [List.getElem?_map] at hj
      by_cases hjl : j < m.length
      · rw [List.getElem?_eq_getElem hjl, Option.map_some] at hj
        obtain ⟨b, off, hb, -, h5⟩ := h3 (by omega)
        obtain rfl : ad = ⟨b, off, none⟩ := by simpa using hb
        have h6 := h5 j hjl
        rw [List.getD_eq_getElem?_getD, List.getElem?_eq_getElem hjl, Option.getD_some] at h6
        have hadd : (⟨b, off, none⟩ : Addr).add j = ⟨b, off + j, none⟩ := by unfold Addr.add; split <;> simp_all
        rw [hadd, h6]
        exact hj
      · rw [List.getElem?_eq_none (by omega)] at hj; cases hj
    · exact fun u hu => by obtain ⟨n, _, rfl⟩ := List.mem_map.1 hu; rfl
    · intro v' w' r1 r2 r3 r4
      have hr : RowI B e w' v' (l ++ m) := by
        unfold RowI
        rw [List.length_append, List.map_append]
        exact r1
      obtain ⟨ao', cap', rfl⟩ := hr.form
      rw [List.length_append] at *
      exact h _ _ _ hr r2
end Go.Proofs.Ytkemicfaiipidaa

