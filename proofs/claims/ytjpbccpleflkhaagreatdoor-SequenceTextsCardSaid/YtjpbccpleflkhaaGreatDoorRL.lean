/- The call of the statement StrokeReturns. -/
import Derived.Test.YtjpbccpleflkhaaGreatDoorRK
namespace Sk
def opp (x : Str) : Str := (x.1, !x.2)
theorem opp_get (l : List Str) {i : Nat} (hi : i < l.length) : (l.map opp).getD i d0 = opp (l.getD i d0) := by
  rw [List.getD_eq_getElem?_getD, List.getD_eq_getElem?_getD, List.getElem?_map, List.getElem?_eq_getElem hi]; rfl
theorem opp_rt {l : List Str} (h : RtL l) : RtL (l.map opp) :=
  ⟨by rw [List.length_map]; exact h.pos, by rw [List.length_map]; exact h.le6, fun i hi => by rw [List.length_map] at hi; rw [opp_get l hi]; exact h.act i hi, fun i hi => by rw [List.length_map] at hi; rw [opp_get l (by omega), opp_get l hi]; exact h.ord i hi⟩
theorem opp_way (j : Int) : ∀ l : List Str, wayV (l.map opp) j = - wayV l j
  | [] => rfl
  | x :: l => by
    have ih := opp_way j l
    show (if (opp x).1 = j then _ else _) = - (if x.1 = j then _ else _)
    by_cases h : x.1 = j
    · rw [if_pos h, if_pos (show (opp x).1 = j from h)]
      unfold opp
      cases x.2 <;> rfl
    · rw [if_neg h, if_neg (show ¬ (opp x).1 = j from h)]
      exact ih
theorem way_of {l : List Str} (h : RtL l) {i : Nat} (hi : i < l.length) : wayV l (l.getD i d0).1 = if (l.getD i d0).2 then 1 else -1 :=
  way_at (fun a ha => by have := h.ords ha hi; omega) hi rfl
/-- The opposite step fits behind a step that fits. -/
theorem opp_sui {l : List Str} {E : List Bool} (h : RtL l) (hs : sui l E = true) : sui (l.map opp) (aft l E) = true := by
  rw [sui_iff]
  intro i hi
  rw [List.length_map] at hi
  rw [opp_get l hi]
  have h1 := sui_iff.1 hs i hi
  have h0 := h.act i hi
  have hw := way_of h hi
  have hg := aft_get E (l.getD i d0).1.toNat (l := l)
  generalize l.getD i d0 = y at *
  obtain ⟨x, o⟩ := y
  unfold sui1 at h1 ⊢
  rw [Bool.and_eq_true, decide_eq_true_iff] at h1 ⊢
  simp only at h0 hw h1 hg
  have hk : x.toNat < E.length := by omega
  have hc : ((x.toNat : Nat) : Int) = x := by omega
  have hg' := hg hk (fun i hi => (h.act i hi).1) h.ord
  rw [hc, hw] at hg'
  refine ⟨by rw [aft_len]; exact h1.1, ?_⟩
  show ((aft l E).getD x.toNat false != !o) = true
  rw [hg']
  cases o <;> simp
/-- The opposite step leads back. -/
theorem opp_aft {l : List Str} {E : List Bool} (h : RtL l) (hs : sui l E = true) : aft (l.map opp) (aft l E) = E := by
  refine list_eq false (by rw [aft_len, aft_len]) (fun j hj => ?_)
  rw [aft_len, aft_len] at hj
  rw [aft_get (aft l E) j (by rw [aft_len]; exact hj) (fun i hi => ((opp_rt h).act i hi).1) (opp_rt h).ord, opp_way, aft_get E j hj (fun i hi => (h.act i hi).1) h.ord]
  obtain ⟨a1, a2, a3⟩ := sui_way (j := j) hs
  rcases a3 with a | a | a
  · rw [a]; simp
  · rw [a, a1 a]; simp
  · rw [a, a2 a]; simp
theorem opp_take {l : List Str} {i : Nat} (hi : i < l.length) : (l.take (i + 1)).map opp = (l.take i).map opp ++ [opp (l.getD i d0)] := take_map opp d0 hi
end Sk
namespace Go.Proofs.YtjpbccpleflkhaaGreatDoor
open Go.RowKit
/-- 'append' of a stroke to a slice of the call's own. -/
theorem wpList_append_str {P : Program} {w : World} {ops : Array Oper} {rest : List Oper} {o : Oper} {a : Act} {Q : Exit → Act → World → Prop} (hgd : o.guard = none) (s x : Operand) (t : TypeId)
    (ho : o.op = .call { callee := .builtin .append, args := #[s, x], argTypes := #[t, t] })
    (e : TypeId) (i : TypeInfo) (ht : P.underlying t = some (.slice e)) (hi : P.info? e = some i) (hz : i.zero = some (.agg #[.int .i64 0, .bool false])) (hsize : i.size = 2) (hby : i.bytes = 16)
    (v : Value) (l : List Sk.Str) (y : Sk.Str) (g : Nat) (hs : a.eval s = v) (hx : a.eval x = .slice (some ⟨g, 0, none⟩) 1 1) (B : Nat) (hown : RowK B e w v l)
    (h0 : w.cell? ⟨g, 0, none⟩ = some (.int .i64 y.1)) (h1 : w.cell? ⟨g, 1, none⟩ = some (.bool y.2)) (hlen : l.length ≤ 1048576) (hB : B ≤ w.heap.size)
    (h : ∀ ao' cap' w', RowK B e w' (.slice ao' (l.length + 1) cap') (l ++ [y]) → w.grownBy w' v.ownBlock → Below B w w' → wpList P ops Q rest (a.put o.dst (.slice ao' (l.length + 1) cap')) w') : wpList P ops Q (o :: rest) a w := by
  refine wpList_append_own w hgd s x t ho B e i (.agg #[.int .i64 0, .bool false]) 2 16 ht hi hz hsize hby rfl (by omega) v l.length _ hs hown ⟨g, 0, none⟩ 1 1 [.int .i64 y.1, .bool y.2] hx (by simp) ?_ ?_ (by unfold maxLen; omega) ?_ hB ?_
  · intro j u hj
    rw [addr_add]
    rcases j with _ | _ | j
    · simp at hj; subst hj; exact h0
    · simp at hj; subst hj; exact h1
    · simp at hj
  · simp [Value.oneCell']
  · omega
  · intro v' w' r1 r2 r3
    have hr : RowK B e w' v' (l ++ [y]) := by
      unfold RowK
      rw [List.length_append, List.flatMap_append]
      exact r1
    obtain ⟨ao', cap', rfl⟩ : ∃ ao' cap', v' = .slice ao' (l.length + 1) cap' := by
      rcases r1.2 with ⟨_, h⟩ | ⟨g, cap, cur, rfl, _⟩
      · omega
      · exact ⟨_, _, rfl⟩
    exact h _ _ _ hr r2 ((Below.refl _ _).grown r2 hB (fun g hg => (World.ownsRow.lt hown g hg).1))
end Go.Proofs.YtjpbccpleflkhaaGreatDoor

